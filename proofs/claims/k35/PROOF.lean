import PyProof.Rows.All
import Wide.All
import OpenK.AllK
import Wide.FinOn
import Lean
import PyProof.EqAt
import PyProof.EqKinds
import PyProof.TupleCall
import KE.KDictOf
import KE.KDictSum
import KE.KIntText
import KE.KLam
import KE.KNestM
import KE.KPairComp
import KE.KSortKey
import KE.KSortTup
import KE.KTab
import KE.LcSums
import PyProof.AttrMissHeap
import PyProof.Conv_int_bool
import PyProof.DictValues
import PyProof.Draws
import PyProof.EnumFor
import PyProof.EnumMake
import PyProof.EnumStmt
import PyProof.FactsAll.list_1
import PyProof.ListStr
import PyProof.MeetsStr2
import PyProof.NeKinds
import PyProof.ReprLen
import PyProof.ReprRoads
import PyProof.Rows.EnumRows
import PyProof.Rows.SetFrom
import PyProof.Rows.SortRev
import PyProof.Rows.StrBin
import PyProof.Rows.TupAdd
import PyProof.SetRoads
import PyProof.StrBlockG
import PyProof.StrBlockI
import PyProof.StrLawsChain
import PyProof.StrLawsIn
import PyProof.StrLawsRepr
import PyProof.StrLawsTight
import PyProof.StrWalks
import PyProof.WalksMore
import PyProof.ZipIter
import PySem.Challenge.RW_cheaptree_k35_exchanges_shown
set_option compiler.extract_closed false
set_option Elab.async false
set_option linter.all false
set_option maxRecDepth 100000
open PySem renaming wpAny_bind→aaa,wpAny_pure→aaf,starEach→aam,sizeLine_eq→aaz,Program→aaI,mainGlobals→aaJ,wpAny_mono→aaL,wpAny_holding→aaN,compareOp→aaV,wpAny_call_entry→aaW,wpAny_newObj_type→aa4,boot_len→aa7,wpAny_callSpecial?_slot→abk,foldedSetIterable→abo,wpAny_field→abv,wpAny_seqItems→abL,FuncData→abR,wpAny_truthy_bool→ab1,mem_of_lookup→ab4,Builtin→ace,codeAny_builtin→acf,bootBuiltins→acm,wpAny_newList→aco,binaryOp→acq,attributeBase→acr,codeAmong→act,wpAny_setField→acw,sysModules→acx,assignEach→acy,wpAny_setField_rec→acB,wpAny_passesOwn→acC,wpAny_standAt→acE,wpAny_setState_of→acF,behindInMarks→acG,swapsWith→acP,wpAny_askSetting→acT,wpAny_setEntries_of→acV,wpAny_typeOf→acX,wpAny_rule→acY,wpAny_pyIter_tuple→ac1,wpAny_Call_Name_kw→ac2,plainId_quiet→ac3,wpAny_pyIter_list→adf,bindArgs→adj,getItem→ado,typeIs_str→ads,sliceBounds→adu,tupleKind_room_in1→adG,codeAny_mono→adH,NameKind→adI,wpAny_sequenceKey→adO,wpAny_pyIter_slot→adP,swapsWithSole→ad0,swappedStores→ad1,strIterType→ad2,holding→ad3,comprehension→ad4,codeAny→ad5,SetTable→ad6,wpAny_eqBool_str→aec,wpAny_ite_split→aej,wpAny_execs_nil→aek,pickOrder→aem,letOwnedTupleGo→aen,builtinLookup_eq_fast→aep,relayAll→aez,wpAny_updateSeq_pair→aeA,wpAny_newFunctionEnv→aeB,wpAny_newTuple→aeE,wpAny_fieldsOf→aeF,firstArgMember→aeG,valueAt→aeM,keywordEach→aeO,wpAny_onRaise→aeT,wpAny_attempt→aeU,wpAny_collect_seq→ae4,wpAny_assign_Name→ae5,wpAny_Name→ae6,strKind_is→ae7,fits_of_scanBound→ae8,checkCount→ae9,call_meets→afa,builtinsNs→afb,Keyword→afi,wpAny_isInstance→afs,wpAny_eqBool_int→aft,noFill_tuple_add→afu,compPost→afz,wpAny_letGo→afC,typeLookup_type→afD,tupleKind→afE,subscripted→afF,callerA→afG,isSubtype_type→afU
open List renaming getElem?_eq_getElem→aab,length_map→aad,getD_eq_getElem?_getD→aae,size_toArray→aag,getElem?_map→aal,getElem?_eq_none→aan,map_cons→aap,length_append→aat,mem_cons_of_mem→aaw,mem_cons_self→aay,map_map→aaA,getElem?_append_left→aaC,getElem?_set_ne→aaE,exists_cons_of_length_eq_add_one→aaF,nil_append→aaH,replicate→aaK,range→aaM,map_congr_left→aaP,not_mem_nil→aaQ,mem_append_right→aaR,length_filter_le→aaS,map_append→aaU,getElem?_zip_eq_some→aaX,mem_cons→aa5,mapM_cons→aa8,length_take→aa9,mem_of_getElem?→abh,filterMap_cons→abm,lookup_cons→abn,replicate_succ→abq,find?_cons→abx,append_nil→aby,length_cons→abA,filter_sublist→abB,foldl_cons→abC,mem_map_of_mem→abH,getElem?_set→abI,getElem?_range→abJ,ext_getElem?→abK,pairwise_iff_getElem→abN,set_eq_of_length_le→abP,getElem_mem→abV,all_eq_true→abW,flatten_cons→ab2,getElem?_set_self→ab6,getElem_inj→ab7,filter_cons→ab8,length_replicate→aca,length→acb,nodup_append→acj,length_range→ack,getElem?_cons_zero→acs,take_length→acu,getElem_map→acv,take_sublist→acI,reverse_cons→acJ,append_assoc→acK,nodup_iff_pairwise_ne→acL,mem_of_mem_take→acO,take_succ→acQ,drop_eq_getElem_cons→acR,zip_cons_cons→ac8,getElem?_cons_succ→ac9,nodup_range→adp,any_eq_true→adq,range_succ→ady,lookup→adz,length_zip→adA,length_nil→adB,getElem?_append_right→adE,toArray→adJ,pairwise_cons→adK,foldl_append→adV,eq_of_mem_replicate→adW,map_take→ad9,filter_append_perm→aea,take_of_length_le→aeg,drop_eq_nil_of_le→aeh,of_mem_zip→aet,length_set→aeu,mem_of_mem_drop→aeC,lt_irrefl→aeJ,getD→ae2,all_cons→ae3,foldl→afh,map_nil→afp,any_map→afq,length_drop→afw,mem_append→afM,forIn_cons→afN,length_eraseIdx_of_lt→afS,perm_cons→afX,findIdx?_eq_none_iff→afY,drop_zero→afZ
open PySem.Heap renaming get?_push_of_some→aac,get?_push_size→aai,lt_size→aaj,size_push→aa3,get?_update_self→abr,SameBut→acn,get?_update_ne→acW,get?_update_other→adc
open PySem.W renaming Frag→aah,mg_none_of→aaO,nsIn→abg,kia_one→abw,keepIn→abM,codeHdIn→abT,fnOf→acZ,kas_item→ac4,tabObj→adM,kitOne→aeH,codeIn→aeI,kas_rev→aeP,mg_of→ae0,methodObj→afd,instObj→afK,OpenLaw→afL,lookIn→afV
open Nat renaming le_refl→aak,ne_of_lt→aaq,lt_of_lt_of_le→aaG,lt_or_ge→aaZ,le_trans→aa2,zero_le→abd,lt_succ_of_lt→abi,lt_irrefl→abl,zero_add→abE,lt_succ_self→abF,le_succ→abU,ne_of_gt→abZ,add_assoc→adr,zero_lt_one→adx,le_succ_of_le→adU,le_add_right→aed,add_comm→aes,le_of_lt→afn,le_of_eq→afo
open Sum renaming inr→aao,inl→afH
open PySem.Value renaming ref→aar,none→aa6,type→abD,str→ab9,isStrOf_shape→aeR,int→aeY
open PyProof.Rows renaming boot_tuple→aas,slot_tuple_getitem→abu,StrsAre→acg,listUpdate_at→acp,boot_bool→acA,get?_update_seq→ac5,entry_list_sort→ac6,boot_list→adb,boot_sorted→adg,slot_list_sort→adi,boot_all→adm,tuples'→adt,seqEpoch_at→adv,callWith_type1→adw,args_list_sort→adL,boot_dict→aef,plain_sorted→ael,entry_sorted→aeo,boot_str→aeq,kind_sorted→aeN,entry_tuple_getitem→aeQ,AllBare→aeS,subscriptTail→aeV,assignInOrder_cons→aeW,args_tuple_getitem→aeX,Subscript_→afc,listItems_at→afl,args_sorted1→afm
open Option.some renaming inj→aau,injEq→afe
open Array renaming length_toList→aav,getElem?_toList→abb,getElem?_eq_getElem→abf,mem_of_getElem?→adn,getD_eq_getD_getElem?→adD,getElem?_eq_none→aei,toArray_toList→aeD,toList_push→afj,size_append→afk,toList_map→afy,size_zip→af2
open PySem.Str renaming ofString→aax,length→adh,empty→aeZ
open Bool renaming false_ne_true→aaB,and_eq_true→aaT,false_eq_true→aa0,eq_iff_iff→abt,not_true→abY,not_false→ab0,or_eq_true→aey,false_and→aeL,and_false→af1
open Option renaming map_eq_some_iff→aaD,getD_some→acU,map_some→aer,map→aff,isSome_map→afg
open PySem.Obj renaming mapSeq→aaY,data_mapFields→abj,isFreed_of_fields→acD,cls_mapFields→adT
open PySem.Heap.SameBut renaming update→aa1
open Nat.succ renaming inj→aba
open PySem.Builtin.SmallTypes renaming nextOf→abe,ownedTupleIsFree→ab5,ownedTupleHandOut→aeK
open PySem.NameKind renaming free→abp,cell→ac7
open PySem.Builtin.Slice renaming slicePlaces→abz,sliceApplied→acN,sliceAdjust→adN,sliceFields→af0
open Ne renaming symm→abG
open PySem.PassesOwn renaming never→abO
open Int renaming emod_lt_of_pos→abQ,toNat_natCast→ab3,emod_nonneg→acl,mul_le_mul_of_nonneg_left→afx
open PySem.Builtin.Tuple renaming tupleExact→abS,tupleItemsOf→adF
open PySem.Around renaming under_plainId→abX
open Classical renaming byContradiction→acd,choose_spec→aex
open PySem.F renaming type_list_append→ach,slot_list_append→aci,slot_tuple_iterator_next→acM,args_tuple_add_2→adS,plainAttrs_dict→ad7,entry_tuple_add→ad8,slot_tuple_add→aee,slot_zip_next→aew,slot_str_ascii_iterator_iter→afr,args_tuple_iterator_next_1→afB,entry_tuple_iterator_next→afP,plain_extend_loop→afW
open PySem.SetTable renaming grown→acz,below→adk,standIn→afv
open True renaming intro→acH
open PySem.Calls renaming call_function_entry→acS,callWith_builtin→ade,Name_function_global→afT
open False renaming elim→ac0
open PySem.Builtin.Str renaming occurrences→ada
open PySem.Builtin.List renaming listExtendWith→adC,listTooLong→adZ,listLengthHint→afR
open PyProof.Rows.SortSt renaming mk'→adQ
open PySem.SetTable.below renaming go→adR
open List.Pairwise renaming nil→adX,imp_of_mem→adY
open PyProof.Rows.F renaming plain_set_update_loop→aeb
open ForInStep renaming yield→aev
open PySem.Paired renaming length→ae1
open PySem.Txt renaming join→afA
open StateT renaming run_pure→afI
open PySem.SeqAt.EqAt renaming same→afJ
open PyProof.Rows.IsTup renaming new→afO
open PySem.Data renaming cell→afQ
namespace PySem.W.Fast
def tw1134093451245243367:=()
def tw14640538124471704905:=()
def tw813285856349688883:=()
def tw6446396169274646850:=()
def tw18066773643468386558:=()
def tw1273049008098536222:=()
def tw4335937238294430887:=()
def tw13437050990492268561:=()
def tw18382972235427372287:=()
def tw15422507253578895703:=()
def tw13200414315673094536:=()
def tw10942219442893441459:=()
def tw17587989638425217446:=()
def tw6921257559231910784:=()
def tw4704478344955929033:=()
def tw5056694761955095144:=()
def tw5408661653428220315:=()
def tw1085770477165467388:=()
def tw2838175991235923032:=()
def tw4295660577462877611:=()
def tw10933531892250632628:=()
def tw2472780270624703403:=()
def tw4245426125342011323:=()
def tw2226456085486265002:=()
def tw12397677659938431760:=()
def tw11755456816381885643:=()
def tw862713647258847384:=()
def tw10153327115660920740:=()
def tw123568966709170843:=()
def tw9935108896850600113:=()
def tw14606066669069509559:=()
def tw6067870196186231014:=()
def tw3782285719912468378:=()
def tw1410253099939908357:=()
def tw13665002142421384811:=()
def tw18258987378998024602:=()
def tw11021258626125345551:=()
def tw8713372794150794401:=()
def tw13658060672602680184:=()
def tw17114215658298098819:=()
def tw15577052487359071275:=()
def tw14390891649548087696:=()
def tw6329752471337146891:=()
def tw5297065867063974402:=()
def tw8600116243942531615:=()
def tw16647270234099001725:=()
def tw2848109847947677746:=()
def tw10385504723754352209:=()
def tw6864038174137747495:=()
def tw14735546705319027168:=()
def tw6320907547878064992:=()
def tw16036182771595130199:=()
def tw11252401932452486898:=()
def tw5045963442076414335:=()
def tw10181157397140739026:=()
def tw9802902268572989968:=()
def tw13669732596362191547:=()
def tw12850932049652686861:=()
def tw17426239539148565760:=()
def tw6465682456977268192:=()
def tw9505988744061012550:=()
def tw9299108345126063405:=()
def tw6304960017050911367:=()
def tw916346609503477507:=()
def tw13504491411222587747:=()
def tw11533368327168319129:=()
def tw9119013039176185029:=()
def tw2114145609129007883:=()
def tw15966513785730917531:=()
def tw15037251532488482857:=()
def tw676158648067051945:=()
def tw16082902244666775972:=()
def tw9909893560200547342:=()
def tw12681399607409986071:=()
def tw9076302812040440448:=()
def tw18301326737371170892:=()
def tw10046834802320405375:=()
def tw10605412508374623999:=()
def tw15342247530771082915:=()
def tw6494325029905935193:=()
def tw16233994730984384696:=()
def tw5549703330170372369:=()
def tw9089594957719735834:=()
def tw3010097218782548912:=()
def tw16054431905489122130:=()
def tw18004159882237083601:=()
def tw9553189167753338316:=()
def tw10007584399752493315:=()
def tw13017324951167736573:=()
def tw14550652766877516789:=()
def tw15683922512877036010:=()
def tw13222407647962992311:=()
def tw16025504324937332520:=()
def tw2127691711952275515:=()
def tw14411223188953024396:=()
def tw12394157473616932284:=()
def tw8270803118632427023:=()
def tw1409238609847507249:=()
def tw10487591387345316737:=()
def tw9733011111157632042:=()
def tw10134812544019987935:=()
def tw17606618848691293980:=()
def tw1446587056040023173:=()
def tw7469211339196664689:=()
def tw9411064671990445580:=()
def tw3984036885323184988:=()
def tw10420370093427507281:=()
def tw7584570576740387690:=()
def tw3366405941915455822:=()
def tw16998551612298758806:=()
def tw14882061671972056612:=()
def tw10948108864497274132:=()
def tw15772353891713179987:=()
def tw12752108261282741814:=()
def tw8369373537133969760:=()
def tw15754927201710104513:=()
def tw9198625318521424378:=()
def tw15150402982247933996:=()
def tw879749137298713825:=()
def tw4887984882995752408:=()
def tw5774576400093058479:=()
def tw9574208885893983217:=()
def tw3970210304756672677:=()
def tw14382154247637370447:=()
def tw10204083676135772013:=()
def tw10325298861213365441:=()
def tw10182360905145011390:=()
def tw10966472965183513609:=()
def tw723002936125854671:=()
def tw17096836775173697520:=()
def tw9170803643311765583:=()
def tw16711372470539750470:=()
def tw6113833753245887005:=()
def tw10941515462575080856:=()
def tw15443106502084338694:=()
def tw17843444542569173034:=()
def tw16103078908926754546:=()
def tw10190408670989529431:=()
def tw6925411001096183113:=()
def tw17780507903650973649:=()
def tw16113120049967923154:=()
end PySem.W.Fast
theorem Z0:True:=trivial
namespace L2
open PySem PySem.Spec PyProof.Rows
abbrev Key:=Sum Int Str
def EF:Key->Value->Bool
 |.inl k,v=>Value.isInt k v
 |.inr x,v=>Value.isStrOf x v
def Qa(w:World):Key->Int
 |.inl k=>hashInt k
 |.inr x=>hashStr w x
theorem bg:∀{k:Key} {v:Value},EF k v=true->(∃i t,k=afH i/\v=aeY i t)\/(∃x t,k=aao x/\v=ab9 x t)
 |.inl i,v,h=>by
  obtain⟨t,e⟩:=Value.isInt_shape (k:=i) (v:=v) h
  exact .inl ⟨i,t,rfl,e⟩
 |.inr x,v,h=>by
  obtain⟨t,e⟩:=aeR (x:=x) (v:=v) h
  exact .inr ⟨x,t,rfl,e⟩
theorem sL(i:Int)(t:Tok):EF (.inl i) (.int i t)=true:=by simp[EF,Value.isInt]
theorem sK(x:Str)(t:Tok):EF (.inr x) (.str x t)=true:=by simp[EF,Value.isStrOf]
theorem yO(a b:Int):decide ((afH a:Key)=afH b)=(a==b):=by
 by_cases e:a=b
 ·subst e;simp
 ·have h:¬ (afH a:Key)=afH b:=λq=>e (Sum.inl.inj q)
  rw[decide_eq_false h]
  exact(beq_eq_false_iff_ne.mpr e).symm
theorem yL(a b:Str):decide ((aao a:Key)=aao b)=decide (a=b):=by
 by_cases e:a=b
 ·subst e;simp
 ·have h:¬ (aao a:Key)=aao b:=λq=>e (Sum.inr.inj q)
  rw[decide_eq_false h,decide_eq_false e]
theorem yN(a:Int)(b:Str):decide ((afH a:Key)=aao b)=false:=decide_eq_false (λq=>nomatch q)
theorem yM(a:Str)(b:Int):decide ((aao a:Key)=afH b)=false:=decide_eq_false (λq=>nomatch q)
def aN(prog:aaI)(w:World):PySem.KeyKind prog w Key where
 is:=EF
 hash:=Qa w
 inj:=λv a b ha hb=>by
  rcases bg ha with ⟨i,t,rfl,rfl⟩|⟨x,t,rfl,rfl⟩
  ·rcases bg hb with ⟨j,u,rfl,e⟩|⟨y,u,rfl,e⟩
   ·injection e with e1 _;rw[e1]
   ·exact nomatch e
  ·rcases bg hb with ⟨j,u,rfl,e⟩|⟨y,u,rfl,e⟩
   ·exact nomatch e
   ·injection e with e1 _;rw[e1]
 byValue:=λk v h=>by
  rcases bg h with ⟨i,t,rfl,rfl⟩|⟨x,t,rfl,rfl⟩<;>rfl
 pyHash:=λhv h=>by
  rcases bg hv with ⟨i,t,rfl,rfl⟩|⟨x,t,rfl,rfl⟩
  ·exact wpAny_pyHash_int h
  ·exact wpAny_pyHash_str h
 eqBool:=λhu hv h=>by
  rcases bg hu with ⟨i,t,rfl,rfl⟩|⟨x,t,rfl,rfl⟩
  ·rcases bg hv with ⟨j,u,rfl,rfl⟩|⟨y,u,rfl,rfl⟩
   ·rw[yO]at h;exact aft h
   ·rw[yN]at h;exact SeqAt.EqAt.int_str i t y u _ _ _ _ h
  ·rcases bg hv with ⟨j,u,rfl,rfl⟩|⟨y,u,rfl,rfl⟩
   ·rw[yM]at h;exact SeqAt.EqAt.str_int x t j u _ _ _ _ h
   ·rw[yL]at h;exact aec h
 «strs»:=λk x t v h=>by
  rcases bg h with ⟨i,u,rfl,e⟩|⟨y,u,rfl,e⟩
  ·exact nomatch e
  ·injection e with e1 _
   subst e1
   cases v<;>rfl
theorem pN(prog:aaI)(w:World)(i:Int)(t:Tok):(aN prog w).is (.inl i) (.int i t)=true:=sL i t
theorem jM(prog:aaI)(w:World)(x:Str)(t:Tok):(aN prog w).is (.inr x) (.str x t)=true:=sK x t
inductive V where
 |rW|bl (b:Bool)|int (i:Int)|str (x:Str)|Hq (b:Array UInt8)|Mk (b:UInt64)|ref (a:Addr)|ty (n:String)
 deriving DecidableEq
def RelV:V->Value->Prop
 |.rW,u=>u=aa6
 |.bl b,u=>u=Value.bool b
 |.int i,u=>∃t,u=aeY i t
 |.str x,u=>∃t,u=ab9 x t
 |.Hq b,u=>∃t,u=Value.bytes b t
 |.Mk b,u=>∃t,u=Value.float b t
 |.ref a,u=>u=aar a
 |.ty n,u=>u=abD n
abbrev zP:List V->List Value->Prop:=Paired RelV
variable{xs:List V}{us:List Value}
theorem zP.length(r:zP xs us):xs.length=us.length:=ae1 r
theorem zP.get:∀{xs:List V} {us:List Value} {i:Nat} {x:V},zP xs us->xs[i]?=some x->∃u,us[i]?=some u/\RelV x u
 |_,_,_,_,.nil,e=>by simp at e
 |_,_,0,_,.cons r _,e=>by simp at e;subst e;exact⟨_,rfl,r⟩
 |_,_,i+1,x,.cons _ t,e=>by
  obtain⟨u,h1,h2⟩:=zP.get (i:=i) (x:=x) t (by simpa using e)
  exact⟨u,by simpa using h1,h2⟩
variable{x:V}{u:Value}
theorem zP.set(r:RelV x u):∀{xs:List V} {us:List Value} (i:Nat),zP xs us->zP (xs.set i x) (us.set i u)
 |_,_,_,.nil=>.nil
 |_,_,0,.cons _ t=>.cons r t
 |_,_,i+1,.cons q t=>.cons q (zP.set r i t)
theorem zP.append:∀{xs ys:List V} {us ws:List Value},zP xs us->zP ys ws->zP (xs++ys) (us++ws)
 |_,_,_,_,.nil,s=>s
 |_,_,_,_,.cons r t,s=>.cons r (zP.append t s)
theorem zP.take:∀{xs:List V} {us:List Value} (n:Nat),zP xs us->zP (xs.take n) (us.take n)
 |_,_,0,_=>.nil
 |_,_,_+1,.nil=>.nil
 |_,_,n+1,.cons r t=>.cons r (zP.take n t)
theorem zP.drop:∀{xs:List V} {us:List Value} (n:Nat),zP xs us->zP (xs.drop n) (us.drop n)
 |_,_,0,r=>r
 |_,_,_+1,.nil=>.nil
 |_,_,n+1,.cons _ t=>zP.drop n t
def Dq:Option V->Option Value->Prop
 |some v,some u=>RelV v u
 |none,none=>True
 |_,_=>False
def KV{κ:Type}:List (κ×V)->List (κ×Value)->Prop:=Paired λ(p:κ×V) (q:κ×Value)=>p.1=q.1/\RelV p.2 q.2
def kV:Key->V
 |.inl i=>.int i
 |.inr x=>.str x
inductive HO where
 |lst (xs:List V)
 |tup (xs:List V)
 |dK (kvs:List (Key×V))|dT (kvs:List (List Key×V))
 |set (S:Int->Bool) (n:Nat)
 |ins (C dx:Addr) (fs:List (Str×V))
 |own (x:Addr)
 |xd (fs:List (Str×V))
 |met (f x:Addr)
 |Oy (lo hi:Int)
 |CB (o:Obj) (u:HO)
 |JR (ps:Array Value)
 |ext (φ:Heap->Prop)
abbrev Hp:=Addr->Option HO
def upd(H:Hp)(a:Addr)(o:HO):Hp:=λb=>if b=a then some o else H b
variable{H:Hp}{a:Addr}{o:HO}
theorem ao:upd H a o a=some o:=by unfold upd;rw[if_pos rfl]
variable{b:Addr}
theorem ak(h:b≠a):upd H a o b=H b:=by unfold upd;rw[if_neg h]
theorem vW{u:HO}:upd (upd H a o) a u=upd H a u:=by
 funext b;unfold upd;split<;>rfl
theorem vL{u:HO}(h:H a=some o)(h':H b=some u)(d:o≠u):a≠b:=by
 intro e;subst e;rw[h]at h';exact d (aau h')
theorem aA(h:H a=some o)(h':H b=none):a≠b:=by
 intro e;subst e;rw[h]at h';cases h'
variable(P:aaI)(w:World)
def Af(H:Hp)(h:Heap)(a:Addr):HO->Prop
 |.lst xs=>xs.length<=sizeLine/\∃(iD:List Value) (n:Nat),zP xs iD/\h.get? a=some {cls:=.type "list",data:=.seq iD.toArray n}
 |.tup xs=>xs.length<=sizeLine/\∃iD:List Value,zP xs iD/\IsTup h a iD.toArray
 |.dK kvs=>kvs.length<=sizeLine/\(a==acx)=false/\∃vs,KV kvs vs/\h.DictOf (aN P w) a vs
 |.dT kvs=>kvs.length<=sizeLine/\(a==acx)=false/\∃xs:List (List Key×Addr×Value),
   Paired (λ(p:List Key×V) (q:List Key×Addr×Value)=>p.1=q.1/\H q.2.1=some (.tup (p.1.map kV))/\RelV p.2 q.2.2) kvs xs /\
   ∃o es ep,h.get? a=some o/\o.ExactDict/\o.data=.dict es ep/\es.toList=xs.map (entryOfKey (afE (aN P w)))/\(xs.map (·.1)).Nodup
 |.set S n=>h.SetOf (intKind P w) a S n
 |.ins C dx fs=>H dx=some (.own a)/\fs.length<=1000/\dx≠a/\h.get? a=some (afK C dx) /\
   ∃mA,h.Ns1 dx mA/\(∀f,Dq (fs.lookup f) (mA f))/\PySem.Within mA (fs.map (·.1))
 |.own _=>∃o,h.get? a=some o
 |.xd fs=>∃mA,h.Ns1 a mA/\∀f,Dq (fs.lookup f) (mA f)
 |.Oy lo hi=>∃t u v,h.get? a=some {cls:=.type "range",data:=.fields #[.int lo t,.int hi u,.int 1 v]}
 |.CB o u=>h.get? a=some o/\Af H h a u
 |.JR ps=>h.get? a=some {cls:=.none,data:=.fields ps}
 |.met f x=>h.get? a=some (afd (.ref f) (.ref x))
 |.ext φ=>φ h/\(∃o,h.get? a=some o)/\∀h1 h2:Heap,φ h1->(∀o,h1.get? a=some o->h2.get? a=some o)->φ h2
def CD(H:Hp)(h:Heap):Prop:=∀a o,H a=some o->Af P w H h a o
variable{P:aaI}{w:World}{H':Hp}{h h':Heap}
theorem Af.lt(x:Af P w H h a o):a<h.objs.size:=by
 cases o with
 |lst xs=>obtain⟨_,_,_,_,e⟩:=x;exact aaj e
 |tup xs=>obtain⟨_,_,_,p⟩:=x;exact p.lt
 |dK kvs=>obtain⟨_,_,_,_,o,_,_,e,_⟩:=x;exact aaj e
 |dT kvs=>obtain⟨_,_,_,_,o,_,_,e,_⟩:=x;exact aaj e
 |set S n=>obtain⟨o,_,_,_,e,_⟩:=x;exact aaj e
 |ins C dx fs=>obtain⟨_,_,_,e,_⟩:=x;exact aaj e
 |own y=>obtain⟨_,e⟩:=x;exact aaj e
 |xd fs=>obtain⟨_,⟨_,_,_,e,_⟩,_⟩:=x;exact aaj e
 |Oy lo hi=>obtain⟨_,_,_,e⟩:=x;exact aaj e
 |CB ob u=>obtain⟨e,_⟩:=x;exact aaj e
 |JR ps=>exact aaj (show h.get? a=some _ from x)
 |met f y=>exact aaj (show h.get? a=some _ from x)
 |ext φ=>obtain⟨_,⟨_,e⟩,_⟩:=x;exact aaj e
variable{α:Type}
theorem Paired.Lf{β:Type}{F G:α->β->Prop}:∀{l₁:List α} {l₂:List β},Paired F l₁ l₂->(∀a b,F a b->G a b)->Paired G l₁ l₂
 |_,_,.nil,_=>.nil
 |_,_,.cons r t,f=>.cons (f _ _ r) (Paired.Lf t f)
theorem Af.ET(x:Af P w H h a o)(k:∀b u,(b=a\/H b=some (.own a))->h.get? b=some u->h'.get? b=some u)
  (ho:∀b,H b=some (.own a)->H' b=some (.own a)) (ht:∀b xs,H b=some (.tup xs)->H' b=some (.tup xs)):Af P w H' h' a o:=by
 induction o with
 |lst xs=>obtain⟨z,iD,n,r,e⟩:=x;exact⟨z,iD,n,r,k _ _ (.inl rfl) e⟩
 |tup xs=>obtain⟨z,iD,r,ob,e,c⟩:=x;exact⟨z,iD,r,ob,k _ _ (.inl rfl) e,c⟩
 |dK kvs=>obtain⟨z,y,vs,r,ob,es,ep,e,c⟩:=x;exact⟨z,y,vs,r,ob,es,ep,k _ _ (.inl rfl) e,c⟩
 |dT kvs=>
  obtain⟨z,y,xs,r,ob,es,ep,e,c⟩:=x
  exact⟨z,y,xs,Paired.Lf r λp q z=>⟨z.1,ht _ _ z.2.1,z.2.2⟩,ob,es,ep,k _ _ (.inl rfl) e,c⟩
 |set S n=>obtain⟨ob,es,ep,t,e,c⟩:=x;exact⟨ob,es,ep,t,k _ _ (.inl rfl) e,c⟩
 |ins C dx fs=>
  obtain⟨d,z,ne,e,mA,⟨od,es,ep,e2,c⟩,r⟩:=x
  exact⟨ho _ d,z,ne,k _ _ (.inl rfl) e,mA,⟨od,es,ep,k _ _ (.inr d) e2,c⟩,r⟩
 |own y=>obtain⟨ob,e⟩:=x;exact⟨ob,k _ _ (.inl rfl) e⟩
 |xd fs=>obtain⟨mA,⟨od,es,ep,e,c⟩,r⟩:=x;exact⟨mA,⟨od,es,ep,k _ _ (.inl rfl) e,c⟩,r⟩
 |Oy lo hi=>obtain⟨t,u,v,e⟩:=x;exact⟨t,u,v,k _ _ (.inl rfl) e⟩
 |CB ob u ih=>obtain⟨e,q⟩:=x;exact⟨k _ _ (.inl rfl) e,ih q⟩
 |JR ps=>
  have e:h.get? a=some {cls:=.none,data:=.fields ps}:=x
  show h'.get? a=some {cls:=.none,data:=.fields ps}
  exact k a _ (.inl rfl) e
 |met f y=>
  have e:h.get? a=some (afd (.ref f) (.ref y)):=x
  show h'.get? a=some (afd (.ref f) (.ref y))
  exact k a _ (.inl rfl) e
 |ext φ=>obtain⟨p,⟨o,e⟩,st⟩:=x;exact⟨st _ _ p λo q=>k _ _ (.inl rfl) q,⟨o,k _ _ (.inl rfl) e⟩,st⟩
theorem CD.lt(x:CD P w H h)(e:H a=some o):a<h.objs.size:=(x a o e).lt
theorem CD.fresh(x:CD P w H h)(e:h.objs.size<=a):H a=none:=by
 cases q:H a with
 |none=>rfl
 |some u=>exact absurd (aaG (x.lt q) e) (abl _)
theorem CD.kept(x:CD P w H h)(k:∀b u,h.get? b=some u->h'.get? b=some u):CD P w H h':=λa o e=>
 (x a o e).ET (λb u _ q=>k b u q) (λ_ q=>q) λ_ _ q=>q
theorem CD.laid(x:CD P w H h)(k:∀b u,h.get? b=some u->h'.get? b=some u)(hp:h.objs.size<=a)(new:Af P w (upd H a o) h' a o):CD P w (upd H a o) h':=λb u e=>by
 have hn:=x.fresh hp
 by_cases hb:b=a
 ·subst hb;rw[ao]at e;cases e;exact new
 ·rw[ak hb]at e
  exact(x b u e).ET (λc v _ q=>k c v q) (λc q=>by rw[ak (aA q hn)];exact q) λc xs q=>by rw[ak (aA q hn)];exact q
def Rd(H:Hp)(a:Addr)(u:HO):Prop:=H a=some u\/∃o,H a=some (.CB o u)
theorem Rd.ok{u:HO}(r:Rd H a u)(x:CD P w H h):Af P w H h a u:=by
 rcases r with r|⟨o,r⟩
 ·exact x a u r
 ·obtain⟨_,q⟩:=x a _ r
  exact q
def N7:Option HO->Prop
 |some (.lst _)=>True
 |some (.dK _)=>True
 |some (.dT _)=>True
 |some (.set _ _)=>True
 |some (.ins _ _ _)=>True
 |some (.ext _)=>True
 |_=>False
variable{x e:Addr}{o':HO}
theorem CD.write(ok:CD P w H h)(mu:N7 (H x))(he:e=x\/H e=some (.own x))(k:∀b u,b≠e->h.get? b=some u->h'.get? b=some u)(Mg:∃u,h'.get? e=some u)
  (new:Af P w (upd H x o') h' x o'):CD P w (upd H x o') h':=λb u q=>by
 have MZ:∀c y,H c=some (.own y)->c≠x:=λc y r z=>by subst z;rw[r]at mu;exact mu
 have PY:∀c xs,H c=some (.tup xs)->c≠x:=λc xs r z=>by subst z;rw[r]at mu;exact mu
 by_cases hb:b=x
 ·subst hb;rw[ao]at q;cases q;exact new
 ·rw[ak hb]at q
  by_cases Hn:b=e
  ·have q':H b=some (.own x):=by
    rcases he with z|z
    ·exact absurd (Hn.trans z) hb
    ·rw[Hn];exact z
   rw[q]at q';cases q'
   obtain⟨v,hv⟩:=Mg
   exact⟨v,by rw[Hn];exact hv⟩
  ·refine(ok b u q).ET (λc v hc r=>k c v ?_ r) (λc r=>by rw[ak (MZ c b r)];exact r) λc xs r=>by rw[ak (PY c xs r)];exact r
   rcases hc with rfl|hc
   ·exact Hn
   ·rintro rfl
    rcases he with z|z
    ·exact MZ c b hc z
    ·rw[hc]at z;cases z;exact hb rfl
structure Un(fs ex:List Addr)(H H':Hp)(h h':Heap):Prop where
 keep:∀b o,h.get? b=some o->H b=none->b∉fs->b∉ex->h'.get? b=some o
 slot:∀b o,h.get? b=some o->H b=none->b∈fs->b∉ex->∃sl,h'.get? b=some {o with slots:=sl}
 free:∀b o,h.get? b=some o->H b=none->b∉ex->H' b=none
 there:∀b o,h.get? b=some o->b∉ex->∃o',h'.get? b=some o'
 Et:∀b xs,H b=some (.tup xs)->H' b=some (.tup xs)
 E3:∀b o u,H b=some (.CB o u)->H' b=some (.CB o u)
 Fo:∀b ps,H b=some (.JR ps)->∃more,H' b=some (.JR (ps++more))
section
variable{fs UJ ex VL:List Addr}{H1 H2:Hp}{h1 h2:Heap}
theorem Un.any(u:Un fs ex H H1 h h1){ob:Obj}(q:h.get? b=some ob)(n:H b=none)(hx:b∉ex):∃sl,h1.get? b=some {ob with slots:=sl}:=by
 by_cases hb:b∈fs
 ·exact u.slot b ob q n hb hx
 ·exact⟨ob.slots,u.keep b ob q n hb hx⟩
theorem Un.kept(k:∀b u,h.get? b=some u->h'.get? b=some u):Un fs ex H H h h' :=
 ⟨λb ob q _ _ _=>k b ob q,λb ob q _ _ _=>⟨ob.slots,k b ob q⟩,λ_ _ _ n _=>n,λb ob q _=>⟨ob,k b ob q⟩,λ_ _ q=>q,λ_ _ _ q=>q,λ_ ps q=>⟨#[],by rw[q];simp⟩⟩
theorem Un.refl:Un fs ex H H h h:=Un.kept λ_ _ q=>q
theorem Un.laid(k:∀b u,h.get? b=some u->h'.get? b=some u)(hp:h.objs.size<=a)(hn:H a=none):Un fs ex H (upd H a o) h h' where
 keep:=λb u q _ _ _=>k b u q
 slot:=λb u q _ _ _=>⟨u.slots,k b u q⟩
 free:=λb u q n _=>by rw[ak (aaq (aaG (aaj q) hp))];exact n
 there:=λb u q _=>⟨u,k b u q⟩
 Et:=λb xs q=>by rw[ak (aA q hn)];exact q
 E3:=λb u xs q=>by rw[ak (aA q hn)];exact q
 Fo:=λb ps q=>⟨#[],by rw[ak (aA q hn),q];simp⟩
theorem Un.write(mu:N7 (H x))(he:e=x\/H e=some (.own x))(k:∀b u,b≠e->h.get? b=some u->h'.get? b=some u)(Mg:∃u,h'.get? e=some u):Un fs ex H (upd H x o) h h':=by
 have hx:∀b,H b=none->b≠x:=λb n z=>by subst z;rw[n]at mu;exact mu
 have hb:∀b,H b=none->b≠e:=λb n z=>by
  subst z
  rcases he with r|r
  ·exact hx b n r
  ·rw[n]at r;cases r
 have hm:∀b u,H b=some u->¬ N7 (some u)->b≠x:=λb u q nm z=>by subst z;rw[q]at mu;exact nm mu
 refine⟨λb u q n _ _=>k b u (hb b n) q,λb u q n _ _=>⟨u.slots,k b u (hb b n) q⟩,λb u q n _=>by rw[ak (hx b n)];exact n,λb u q _=>?_,
  λb xs q=>by rw[ak (hm b _ q λz=>z)];exact q,λb u xs q=>by rw[ak (hm b _ q λz=>z)];exact q,λb ps q=>⟨#[],by rw[ak (hm b _ q λz=>z),q];simp⟩⟩
 by_cases Hn:b=e
 ·subst Hn;exact Mg
 ·exact⟨u,k b u Hn q⟩
end
def Oj(h:Heap)(H:Hp):List Addr:=(aaM h.objs.size).filter λa=>(H a).isSome
def EA(h:Heap)(H:Hp):Heap:=PySem.W.hideAll h (Oj h H)
theorem sQ(h:Heap)(H:Hp):(EA h H).objs.size=h.objs.size:=PySem.W.hideAll_size _ _
theorem uV{o:Obj}(e:h.get? b=some o)(n:H b=none):(EA h H).get? b=some o :=
 PySem.W.hideAll_get _ e λhm=>by
  have q:(H b).isSome=true:=(List.mem_filter.mp hm).2
  rw[n]at q;simp at q
theorem wX{o:Obj}(e:(EA h H).get? b=some o):h.get? b=some o/\H b=none:=by
 have e':h.get? b=some o:=PySem.W.of_hideAll (Oj h H) e
 refine⟨e',?_⟩
 cases q:H b with
 |none=>rfl
 |some x=>
  have hm:b∈Oj h H:=List.mem_filter.mpr ⟨List.mem_range.mpr (aaj e'),by simp[q]⟩
  have z:(EA h H).get? b=none:=PySem.W.hideAll_none (Oj h H) hm
  rw[z]at e;cases e
def jB(g h:Heap)(L:Addr):List (Addr×Obj):=(aaM h.objs.size).filterMap λa=>if a=L\/(g.get? a).isSome=true then none else (h.get? a).map λo=>(a,o)
variable{g:Heap}{L:Addr}
theorem fW{o:Obj}(h1:a≠L)(h2:g.get? a=none)(h3:h.get? a=some o):(a,o)∈jB g h L :=
 List.mem_filterMap.mpr ⟨a,List.mem_range.mpr (aaj h3),by simp[h1,h2,h3]⟩
theorem l0{p:Addr×Obj}(hp:p∈jB g h L):p.1≠L/\g.get? p.1=none/\h.get? p.1=some p.2:=by
 obtain⟨b,_,e⟩:=List.mem_filterMap.mp hp
 split at e
 ·cases e
 ·rename_i hn
  cases q:h.get? b with
  |none=>rw[q]at e;simp at e
  |some u=>
   rw[q]at e
   simp only[aer,afe]at e
   subst e
   refine⟨λz=>hn (.inl z),?_,q⟩
   show g.get? b=none
   cases r:g.get? b with
   |none=>rfl
   |some v=>exact(hn (.inr (by simp[r]))).elim
theorem kn:News g L h (jB g h L):=λp hp=>let ⟨a,b,c⟩:=l0 hp;⟨c,a,b⟩
structure Mod(K:aah)(mg:Str->Option Value)(base:Heap):Prop where
 kin:K.In base
 glob:base.Ns aaJ mg
 blt:∃mb,base.Ns afb mb/\∀x:Str,x ≠ "__name__" -> mb x=acm x
 nolimit:base.NoLimit
structure Cx where
 prog:aaI
 w:World
 K:aah
 mg:Str->Option Value
 base:Heap
 A:Around
 N:List Str
 s₀:Shared
 H₀:Hp
 env:Env
 outer:List Env
 stack:List Env
 ex:List Addr
 fn:Str->Bool
 calm:Bool
 pn:List (Addr×Obj)
 xe:Value->Shared->Prop
def Iw(l:List Env):List Addr:=l.filterMap (·.frame)
abbrev Cx.fs(X:Cx):List Addr:=Iw X.outer
def GN(sc:Scope)(x:Str):Prop:=sc.names.lookup x=some .local\/sc.names.lookup x=some .cell\/sc.names.lookup x=some .free
def Loc(sc:Scope)(x:Str):Prop:=sc.names.lookup x=some .local\/sc.names.lookup x=some .cell
def Look(env:Env)(h:Heap)(m:Str->Option Value)(x:Str)(u:Value):Prop :=
 (env.kindOf x=some .local/\m x=some u)\/((env.kindOf x=some .cell\/env.kindOf x=some .free)/\∃c,env.cells.lookup x=some c/\h.IsCell c (some u))
structure Cx.Ok(X:Cx):Prop where
 mod:Mod X.K X.mg X.base
 kind:X.env.scope.kind=.function
 glob:X.env.globals=aaJ
 blt:X.env.builtins=afb
 above:X.s₀.heap.objs.size<=X.env.locals
 inj:∀x y c,X.env.cells.lookup x=some c->X.env.cells.lookup y=some c->x=y
 has:∀x,(X.env.kindOf x=some .cell\/X.env.kindOf x=some .free)->∃c,X.env.cells.lookup x=some c
 NY:∀x c,X.fn x=true->X.env.cells.lookup x=some c->X.s₀.heap.objs.size<=c
 hd:X.calm=true->X.A.handled=none
 frames:X.A.frames=some X.stack
 Ot:X.stack=X.outer\/(X.stack=X.env::X.outer/\X.env.frame=some X.env.locals)
 Sh:∀b∈X.ex,b≠X.env.locals/\∀x c,X.env.cells.lookup x=some c->c≠b
 bs:∀b o,X.base.get? b=some o->X.s₀.heap.get? b=some o/\X.H₀ b=none
 Kc:X.base.objs.size<=X.s₀.heap.objs.size
 HZ:∀b o,X.base.get? b=some o->b∉X.ex
 JD:∀b∈X.ex,b∉X.fs
 D9:X.s₀.heap.FunFrames X.base X.outer
 Mj:∀b∈X.fs,X.H₀ b=none
structure Inv(X:Cx)(pins:List (Addr×Obj))(σ:List (Option V))(H:Hp)(s:Shared):Prop where
 ok:X.Ok
 os:s.os=X.s₀.os
 bare:aeS s.gens
 base:Un X.fs X.ex X.H₀ H X.s₀.heap s.heap
 loc:∃m,s.heap.Ns X.env.locals m/\∀(i:Nat) (x:Str) (v:V),X.N[i]?=some x->σ[i]?=some (some v)->GN X.env.scope x->∃u,RelV v u/\Look X.env s.heap m x u
 cell:∀x c,X.env.cells.lookup x=some c->∃v,s.heap.IsCell c v
 free:H X.env.locals=none
 BY:∀x c,X.env.cells.lookup x=some c->H c=none
 pin:∀p∈X.pn++pins,s.heap.get? p.1=some p.2/\H p.1=none/\p.1≠X.env.locals/\p.1∉X.fs/\∀v,p.2.data≠.cell v
 zY:CD X.prog X.w H s.heap
 len:σ.length=X.N.length
variable{X:Cx}{pins:List (Addr×Obj)}{σ:List (Option V)}{s:Shared}
theorem Cx.Ok.P2(ok:X.Ok){o:Obj}(e:X.base.get? b=some o):b∉X.fs:=λhb=>by
 have:=(ok.D9.mem hb).1
 rw[e]at this;cases this
theorem Inv.bs(I:Inv X pins σ H s):∀b o,X.base.get? b=some o->s.heap.get? b=some o/\H b=none:=λb o e=>
 ⟨I.base.keep b o (I.ok.bs b o e).1 (I.ok.bs b o e).2 (I.ok.P2 e) (I.ok.HZ b o e),I.base.free b o (I.ok.bs b o e).1 (I.ok.bs b o e).2 (I.ok.HZ b o e)⟩
theorem Inv.bk(I:Inv X pins σ H s):∀b o,X.base.get? b=some o->s.heap.get? b=some o:=λb o e=>(I.bs b o e).1
theorem Inv.mod(I:Inv X pins σ H s):Mod X.K X.mg X.base:=I.ok.mod
theorem Inv.Ex(I:Inv X pins σ H s):X.K.In s.heap:=I.ok.mod.kin.keeps I.bk
theorem Inv.fr(I:Inv X pins σ H s):∃m,Fr X.base X.env.locals s.heap m :=
 let ⟨m,hn,_⟩:=I.loc
 ⟨m,hn,I.bk,aa2 I.ok.Kc I.ok.above⟩
theorem Inv.lt(I:Inv X pins σ H s):X.env.locals<s.heap.objs.size:=let ⟨_,hn,_⟩:=I.loc;hn.lt
theorem Inv.sz(I:Inv X pins σ H s):X.s₀.heap.objs.size<=s.heap.objs.size:=aa2 I.ok.above (afn I.lt)
theorem Inv.PZ(I:Inv X pins σ H s)(h:s.heap.objs.size<=a):a∉X.fs:=λhb=>by
 obtain⟨_,o,ho,_⟩:=I.ok.D9.mem hb
 exact absurd (aaG (aaj ho) (aa2 I.sz h)) (abl _)
theorem Inv.LR(I:Inv X pins σ H s):∀x c,X.env.cells.lookup x=some c->c≠X.env.locals:=λx c e z=>by
 obtain⟨v,o,ho,hd⟩:=I.cell x c e
 obtain⟨m,⟨o',es,ep,DN,OM,_⟩,_⟩:=I.loc
 rw[z,DN]at ho;cases ho;rw[OM]at hd;cases hd
theorem Inv.D9(I:Inv X pins σ H s):s.heap.FunFrames X.base X.outer:=by
 have all:∀(l:List Env),(∀b∈Iw l,b∈X.fs)->X.s₀.heap.FunFrames X.base l->s.heap.FunFrames X.base l:=by
  intro l
  induction l with
  |nil=>intro _ _;trivial
  |cons env r ih=>
   intro hs hl
   obtain⟨hk,⟨L,o,hf,hn,ho,hd⟩,hr⟩:=hl
   have hL:L∈X.fs:=hs L (by unfold Iw;rw[abm,hf];exact aay)
   obtain⟨sl,e⟩:=I.base.slot L o ho (I.ok.Mj L hL) hL λz=>I.ok.JD L z hL
   exact⟨hk,⟨L,_,hf,hn,e,hd⟩,ih (λb hb=>hs b (by unfold Iw;rw[abm,hf];exact aaw _ hb)) hr⟩
 exact all X.outer (λ_ hb=>hb) I.ok.D9
theorem Inv.stack(I:Inv X pins σ H s):s.heap.FunFrames X.base X.stack:=by
 rcases I.ok.Ot with e|⟨e,hf⟩
 ·rw[e];exact I.D9
 ·rw[e]
  obtain⟨m,hn,_⟩:=I.loc
  refine .cons (by rw[I.ok.kind];decide) hf hn ?_ I.D9
  exact Heap.get?_none_of_le (aa2 I.ok.Kc I.ok.above)
theorem Inv.C7(I:Inv X pins σ H s):∀b∈Iw X.stack,b∈X.env.locals::X.fs:=λb hb=>by
 rcases I.ok.Ot with e|⟨e,hf⟩
 ·rw[e]at hb;exact aaw _ hb
 ·rw[e]at hb
  unfold Iw at hb
  rw[abm,hf]at hb
  exact hb
theorem Inv.GZ(I:Inv X pins σ H s):∀b∈Iw X.stack,H b=none:=λb hb=>by
 rcases List.mem_cons.mp (I.C7 b hb)with e|hb
 ·rw[e];exact I.free
 ·obtain⟨_,o,ho,_⟩:=I.ok.D9.mem hb
  exact I.base.free b o ho (I.ok.Mj b hb) λz=>I.ok.JD b z hb
variable{t':Nat}
theorem Inv.step{g':Array GenState}{d':Drawn}{ch:List Addr}(I:Inv X pins σ H s)
  (IX:∀b∈ch,(b∈X.ex\/X.s₀.heap.objs.size<=b)/\b≠X.env.locals/\(∀x c,X.env.cells.lookup x=some c->c≠b)/\∀p∈X.pn++pins,p.1≠b)
  (keep:∀b o,b≠X.env.locals->b∉X.fs->b∉ch->s.heap.get? b=some o->H b=none->h'.get? b=some o)
  (slot:∀b o,b≠X.env.locals->b∈X.fs->b∉ch->s.heap.get? b=some o->H b=none->∃sl,h'.get? b=some {o with slots:=sl}) (free:∀b o,b∉ch->s.heap.get? b=some o->H b=none->H' b=none)
  (there:∀b o,b∉ch->s.heap.get? b=some o->∃o',h'.get? b=some o')
  (Et:∀b xs,H b=some (.tup xs)->H' b=some (.tup xs)) (E3:∀b o u,H b=some (.CB o u)->H' b=some (.CB o u)) (Fo:∀b ps,H b=some (.JR ps)->∃more,H' b=some (.JR (ps++more)))
  (ns:∀m,s.heap.Ns X.env.locals m->h'.Ns X.env.locals m) (zY:CD X.prog X.w H' h') (hg:aeS g') :
  Inv X pins σ H' {s with heap:=h',gens:=g',drawn:=d',toks:=t'}:=by
 have RP:∀b o,X.s₀.heap.get? b=some o->b≠X.env.locals:=λb o e=>aaq (aaG (aaj e) I.ok.above)
 have L9:∀b o,X.s₀.heap.get? b=some o->b∉X.ex->b∉ch:=λb o e hx hb=>by
  rcases(IX b hb).1 with z|z
  ·exact hx z
  ·exact absurd (aaG (aaj e) z) (abl _)
 have cellK:∀x c,X.env.cells.lookup x=some c->∀v,s.heap.IsCell c v->h'.IsCell c v:=λx c e v ⟨o,ho,hd⟩=>by
  have M8:c∉ch:=λz=>(IX c z).2.2.1 x c e rfl
  by_cases hc:c∈X.fs
  ·obtain⟨sl,q⟩:=slot c o (I.LR x c e) hc M8 ho (I.BY x c e)
   exact⟨_,q,hd⟩
  ·exact⟨o,keep c o (I.LR x c e) hc M8 ho (I.BY x c e),hd⟩
 refine⟨I.ok,I.os,hg,⟨λb o e n hb hx=>?_,λb o e n hb hx=>?_,λb o e n hx=>?_,λb o e hx=>?_,λb xs e=>Et b xs (I.base.Et b xs e),λb o xs e=>E3 b o xs (I.base.E3 b o xs e),λb ps e=>?_⟩,?_,λx c e=>?_,?_,λx c e=>?_,λp hp=>?_,zY,I.len⟩
 ·exact keep b o (RP b o e) hb (L9 b o e hx) (I.base.keep b o e n hb hx) (I.base.free b o e n hx)
 ·obtain⟨sl,e1⟩:=I.base.slot b o e n hb hx
  obtain⟨S7,e2⟩:=slot b _ (RP b o e) hb (L9 b o e hx) e1 (I.base.free b o e n hx)
  exact⟨S7,e2⟩
 ·obtain⟨o',e1⟩:=I.base.there b o e hx
  exact free b o' (L9 b o e hx) e1 (I.base.free b o e n hx)
 ·obtain⟨o',e1⟩:=I.base.there b o e hx
  exact there b o' (L9 b o e hx) e1
 ·obtain⟨m1,e1⟩:=I.base.Fo b ps e
  obtain⟨m2,e2⟩:=Fo b _ e1
  exact⟨m1++m2,by rw[e2,Array.append_assoc]⟩
 ·obtain⟨m,hn,hl⟩:=I.loc
  refine⟨m,ns m hn,λi x v e1 e2 e3=>?_⟩
  obtain⟨u,r,l⟩:=hl i x v e1 e2 e3
  refine⟨u,r,?_⟩
  rcases l with l|⟨k,c,e,z⟩
  ·exact .inl l
  ·exact .inr ⟨k,c,e,cellK x c e _ z⟩
 ·obtain⟨v,z⟩:=I.cell x c e
  exact⟨v,cellK x c e v z⟩
 ·obtain⟨m,⟨o,_,_,ho,_⟩,_⟩:=I.loc
  exact free _ o (λz=>(IX _ z).2.1 rfl) ho I.free
 ·obtain⟨v,o,ho,hd⟩:=I.cell x c e
  exact free c o (λz=>(IX c z).2.2.1 x c e rfl) ho (I.BY x c e)
 ·obtain⟨e,n,ne,nf,d⟩:=I.pin p hp
  have M8:p.1∉ch:=λz=>(IX p.1 z).2.2.2 p hp rfl
  exact⟨keep p.1 p.2 ne nf M8 e n,free p.1 p.2 M8 e n,ne,nf,d⟩
theorem Inv.un(I:Inv X pins σ H s)(u:Un X.fs [] H H' s.heap h')(zY:CD X.prog X.w H' h'):Inv X pins σ H' {s with heap:=h',toks:=t'}:=by
 obtain⟨m,⟨o,es,ep,ho,r⟩,_⟩:=id I.loc
 obtain⟨sl,hL⟩:=u.any ho I.free (by simp)
 exact I.step (g':=s.gens) (d':=s.drawn) (ch:=[]) (λ_ z=>nomatch z) (λb o _ hb _ e n=>u.keep b o e n hb (by simp)) (λb o _ hb _ e n=>u.slot b o e n hb (by simp)) (λb o _ e n=>u.free b o e n (by simp)) (λb o _ e=>u.there b o e (by simp)) u.Et u.E3 u.Fo (λm' hm=>by
  obtain⟨o',FI,OR,DN,r'⟩:=hm
  rw[ho]at DN;cases DN
  exact⟨_,FI,OR,hL,r'⟩) zY I.bare
theorem Inv.call{g':Array GenState}{d':Drawn}{ch:List Addr}(I:Inv X pins σ H s)(u:Un (Iw X.stack) ch H H' s.heap h')(zY:CD X.prog X.w H' h')(hg:aeS g')
  (IX:∀b∈ch,(b∈X.ex\/X.s₀.heap.objs.size<=b)/\b≠X.env.locals/\(∀x c,X.env.cells.lookup x=some c->c≠b)/\∀p∈X.pn++pins,p.1≠b) :
  Inv X pins σ H' {s with heap:=h',gens:=g',drawn:=d',toks:=t'}:=by
 obtain⟨m,⟨o,es,ep,ho,r⟩,_⟩:=id I.loc
 obtain⟨sl,hL⟩:=u.any ho I.free λz=>(IX _ z).2.1 rfl
 exact I.step (ch:=ch) IX (λb o hL hb hc e n=>u.keep b o e n (λz=>(List.mem_cons.mp (I.C7 b z)).elim hL hb) hc) (λb o _ _ hc e n=>u.any e n hc) (λb o hc e n=>u.free b o e n hc) (λb o hc e=>u.there b o e hc) u.Et u.E3 u.Fo (λm' hm=>by
  obtain⟨o',FI,OR,DN,r'⟩:=hm
  rw[ho]at DN;cases DN
  exact⟨_,FI,OR,hL,r'⟩) zY hg
variable{it:Addr}
theorem Inv.turned(I:Inv X pins σ H s)(k:∀b o,b≠it->s.heap.get? b=some o->h'.get? b=some o)(hn:H it=none)(hL:it≠X.env.locals)
  (h1:it∈X.ex\/X.s₀.heap.objs.size<=it) (h2:∀x c,X.env.cells.lookup x=some c->c≠it) (h3:∀p∈X.pn++pins,p.1≠it):Inv X pins σ H {s with heap:=h',toks:=t'}:=by
 have M5:∀b u,H b=some u->b≠it:=λb u e z=>by rw[z,hn]at e;cases e
 refine I.step (g':=s.gens) (d':=s.drawn) (ch:=[it]) (λb hb=>?_) (λb o _ _ hc e _=>k b o (λz=>hc (by simp[z])) e) (λb o _ _ hc e _=>⟨o.slots,k b o (λz=>hc (by simp[z])) e⟩) (λ_ _ _ _ n=>n)
  (λb o hc e=>⟨o,k b o (λz=>hc (by simp[z])) e⟩) (λ_ _ e=>e) (λ_ _ _ e=>e) (λb ps e=>⟨#[],by rw[e];simp⟩) (λm hm=>?_) (λb u e=>?_) I.bare
 ·have e:b=it:=by simpa using hb
  subst e
  exact⟨h1,hL,h2,h3⟩
 ·obtain⟨o,es,ep,ho,r⟩:=hm
  exact⟨o,es,ep,k _ o (abG hL) ho,r⟩
 ·refine(I.zY b u e).ET (λc v hc q=>k c v ?_ q) (λ_ q=>q) λ_ _ q=>q
  rcases hc with z|z
  ·rw[z];exact M5 b u e
  ·exact M5 c _ z
theorem Inv.tok(I:Inv X pins σ H s)(t:Nat):Inv X pins σ H {s with toks:=t}:=I.un (h':=s.heap) (t':=t) Un.refl I.zY
theorem Inv.kept(I:Inv X pins σ H s)(k:∀b u,s.heap.get? b=some u->h'.get? b=some u):Inv X pins σ H {s with heap:=h',toks:=t'}:=I.un (Un.kept k) (I.zY.kept k)
theorem Inv.laid(I:Inv X pins σ H s)(k:∀b u,s.heap.get? b=some u->h'.get? b=some u)(hp:s.heap.objs.size<=a)(new:Af X.prog X.w (upd H a o) h' a o):
  Inv X pins σ (upd H a o) {s with heap:=h',toks:=t'}:=I.un (Un.laid k hp (I.zY.fresh hp)) (I.zY.laid k hp new)
theorem Inv.write(I:Inv X pins σ H s)(mu:N7 (H x))(he:e=x\/H e=some (.own x))(k:∀b u,b≠e->s.heap.get? b=some u->h'.get? b=some u)(Mg:∃u,h'.get? e=some u)
  (new:Af X.prog X.w (upd H x o) h' x o):Inv X pins σ (upd H x o) {s with heap:=h',toks:=t'}:=I.un (Un.write mu he k Mg) (I.zY.write mu he k Mg new)
theorem Inv.weak{σ':List (Option V)}(I:Inv X pins σ H s)(hl:σ'.length=σ.length)(w:∀(i:Nat) v,σ'[i]?=some (some v)->σ[i]?=some (some v)):Inv X pins σ' H s :=
 ⟨I.ok,I.os,I.bare,I.base,let ⟨m,hn,FX⟩:=I.loc;⟨m,hn,λi x v e1 e2 e3=>FX i x v e1 (w i v e2) e3⟩,I.cell,I.free,I.BY,I.pin,I.zY,hl.trans I.len⟩
theorem Inv.G2{J2:List (Addr×Obj)}(I:Inv X pins σ H s)(h:∀p∈J2,s.heap.get? p.1=some p.2/\H p.1=none/\p.1≠X.env.locals/\p.1∉X.fs/\∀v,p.2.data≠.cell v):Inv X J2 σ H s :=
 ⟨I.ok,I.os,I.bare,I.base,I.loc,I.cell,I.free,I.BY,λp hp=>(List.mem_append.mp hp).elim (λz=>I.pin p (List.mem_append_left _ z)) (h p),I.zY,I.len⟩
variable{N:List Str}{i j:Nat}
theorem oD(hN:N.Nodup){x:Str}(a:N[i]?=some x)(b:N[j]?=some x):i=j:=by
 obtain⟨h1,e1⟩:=List.getElem?_eq_some_iff.mp a
 obtain⟨h2,e2⟩:=List.getElem?_eq_some_iff.mp b
 exact(ab7 hN).mp (e1.trans e2.symm)
variable{M:Model}{A:Around}{E:Value->Shared->Prop}{v:V}{Q:Unit->Shared->Prop}
theorem iq{x:Str}(I:Inv X pins σ H s)(hN:X.N.Nodup)(hi:X.N[i]?=some x)(hx:Loc X.env.scope x)(r:RelV v u)
  (h:∀s',Inv X pins (σ.set i (some v)) H s'->(∃a,acn a s.heap s'.heap/\(a=X.env.locals\/X.env.cells.lookup x=some a))->Q () s') (hf:X.fn x=true\/X.env.scope.names.lookup x=some .local:=by first|exact .inl rfl|exact .inr rfl|assumption):wpAny M A (storeName X.env x u) Q E s:=by
 obtain⟨m,hn,hl⟩:=id I.loc
 have QK:(X.env.scope.kind==.class || (X.env.scope.kind==.module && X.env.locals != X.env.globals))=false:=by rw[I.ok.kind];rfl
 have hiσ:i<σ.length:=by rw[I.len];exact(List.getElem?_eq_some_iff.mp hi).1
 have LR:=I.LR
 have tracked:∀{a:Addr} {h':Heap},(∃o,s.heap.get? a=some o/\H a=none)->acn a s.heap h'->CD X.prog X.w H h':=λ{a h'} ha hs b ob e=>by
  obtain⟨_,_,EG⟩:=ha
  refine(I.zY b ob e).ET (λc w' hc q=>(hs.2 c ?_).trans q) (λ_ q=>q) λ_ _ q=>q
  rintro rfl
  rcases hc with rfl|hc
  ·rw[EG]at e;cases e
  ·rw[EG]at hc;cases hc
 rcases hx with hk|hk
 ·refine wpAny_storeName_local hk hn (λh' NA hs=>?_) QK
  obtain⟨oL,_,_,FW,_⟩:=id hn
  refine h _ ⟨I.ok,I.os,I.bare,⟨λb o e n hb hx=>?_,λb o e n hb hx=>?_,I.base.free,λb o e hx=>?_,I.base.Et,I.base.E3,I.base.Fo⟩,⟨_,NA,λj y v' e1 e2 e3=>?_⟩,λy c e=>?_,I.free,I.BY,λp hp=>?_,tracked ⟨oL,FW,I.free⟩ hs,by simpa using I.len⟩ ⟨_,hs,.inl rfl⟩
  ·exact(hs.2 b (aaq (aaG (aaj e) I.ok.above))).trans (I.base.keep b o e n hb hx)
  ·obtain⟨sl,e1⟩:=I.base.slot b o e n hb hx
   exact⟨sl,(hs.2 b (aaq (aaG (aaj e) I.ok.above))).trans e1⟩
  ·obtain⟨o',e1⟩:=I.base.there b o e hx
   exact⟨o',(hs.2 b (aaq (aaG (aaj e) I.ok.above))).trans e1⟩
  ·by_cases hj:j=i
   ·subst hj
    rw[hi]at e1;cases e1
    rw[ab6 hiσ]at e2
    cases e2
    exact⟨u,r,.inl ⟨hk,by simp⟩⟩
   ·rw[aaE (abG hj)]at e2
    obtain⟨u',r',q⟩:=hl j y v' e1 e2 e3
    refine⟨u',r',?_⟩
    rcases q with ⟨k,e⟩|⟨k,c,e,z⟩
    ·refine .inl ⟨k,?_⟩
     have:y≠x:=λe=>hj (oD hN e1 (e ▸ hi))
     simp[this,e]
    ·exact .inr ⟨k,c,e,z.sameBut hs (LR y c e)⟩
  ·obtain⟨w',z⟩:=I.cell y c e
   exact⟨w',z.sameBut hs (LR y c e)⟩
  ·obtain⟨e,n,ne,nf,d⟩:=I.pin p hp
   exact⟨(hs.2 p.1 ne).trans e,n,ne,nf,d⟩
 ·have QD:X.fn x=true:=by
   rcases hf with z|z
   ·exact z
   ·rw[z]at hk;cases hk
  obtain⟨c,hc⟩:=I.ok.has x (.inl hk)
  obtain⟨w',z⟩:=I.cell x c hc
  refine wpAny_storeName_cell I.ok.kind hk hc z (λh' Gv hs=>?_)
  obtain⟨oc,Me,Qs⟩:=id z
  refine h {s with heap:=h'} ⟨I.ok,I.os,I.bare,⟨λb o e n hb hx=>?_,λb o e n hb hx=>?_,I.base.free,λb o e hx=>?_,I.base.Et,I.base.E3,I.base.Fo⟩,⟨m,hn.sameBut hs (abG (LR x c hc)),λj y v' e1 e2 e3=>?_⟩,λy c' e=>?_,I.free,I.BY,λp hp=>?_,tracked ⟨oc,Me,I.BY x c hc⟩ hs,by simpa using I.len⟩ ⟨c,hs,.inr hc⟩
  ·exact(hs.2 b (aaq (aaG (aaj e) (I.ok.NY x c QD hc)))).trans (I.base.keep b o e n hb hx)
  ·obtain⟨sl,e1⟩:=I.base.slot b o e n hb hx
   exact⟨sl,(hs.2 b (aaq (aaG (aaj e) (I.ok.NY x c QD hc)))).trans e1⟩
  ·obtain⟨o',e1⟩:=I.base.there b o e hx
   exact⟨o',(hs.2 b (aaq (aaG (aaj e) (I.ok.NY x c QD hc)))).trans e1⟩
  ·by_cases hj:j=i
   ·subst hj
    rw[hi]at e1;cases e1
    rw[ab6 hiσ]at e2
    cases e2
    exact⟨u,r,.inr ⟨.inl hk,c,hc,Gv⟩⟩
   ·rw[aaE (abG hj)]at e2
    obtain⟨u',r',q⟩:=hl j y v' e1 e2 e3
    refine⟨u',r',?_⟩
    rcases q with q|⟨k,c',e,z'⟩
    ·exact .inl q
    ·refine .inr ⟨k,c',e,z'.sameBut hs ?_⟩
     rintro rfl
     exact hj (oD hN e1 (I.ok.inj _ _ _ e hc ▸ hi))
  ·by_cases QL:c'=c
   ·subst QL;exact⟨_,Gv⟩
   ·obtain⟨w2,z2⟩:=I.cell y c' e
    exact⟨w2,z2.sameBut hs QL⟩
  ·obtain⟨e,n,ne,nf,d⟩:=I.pin p hp
   refine⟨(hs.2 p.1 ?_).trans e,n,ne,nf,d⟩
   intro q
   rw[q,Me]at e
   have q':oc=p.2:=aau e
   exact d w' (by rw[<- q'];exact Qs)
theorem gO{x:Str}(I:Inv X pins σ H s)(hN:X.N.Nodup)(hi:X.N[i]?=some x)(hx:Loc X.env.scope x)(r:RelV v u)
  (h:∀s',Inv X pins (σ.set i (some v)) H s'->Q () s') (hf:X.fn x=true\/X.env.scope.names.lookup x=some .local:=by first|exact .inl rfl|exact .inr rfl|assumption):wpAny M A (storeName X.env x u) Q E s :=
 iq I hN hi hx r (λs' I' _=>h s' I') hf
variable{s':Shared}
theorem Inv.NX{ch:List Addr}(I:Inv X pins σ H s)(ho:s'.os=s.os)(u:Un (Iw X.stack) ch H H' s.heap s'.heap)(zY:CD X.prog X.w H' s'.heap)(hg:aeS s'.gens)
  (IX:∀b∈ch,(b∈X.ex\/X.s₀.heap.objs.size<=b)/\b≠X.env.locals/\(∀x c,X.env.cells.lookup x=some c->c≠b)/\∀p∈X.pn++pins,p.1≠b):Inv X pins σ H' s':=by
 obtain⟨h',g',d',t',o'⟩:=s'
 have e:o'=s.os:=ho
 subst e
 exact I.call (g':=g') (t':=t') (d':=d') u zY hg IX
abbrev XK:=Value->Option Addr->Hp->Prop
abbrev St:=List (Option V)
abbrev VK:=V->Hp->Prop
abbrev TE:=St->Hp->VK->Prop
abbrev TT:=St->Hp->(Bool->Hp->Prop)->Prop
abbrev TA:=St->Hp->(List V->Hp->Prop)->Prop
structure Ends where
 nx:St->Hp->Prop
 rt:VK
 bk:St->Hp->Prop:=λ_ _=>False
 ct:St->Hp->Prop:=λ_ _=>False
abbrev TS:=Ends->St->Hp->Prop
def EP(X:Cx)(pins:List (Addr×Obj))(σ:St)(Q:VK)(u:Value)(s':Shared):Prop:=∃v H',Inv X pins σ H' s'/\RelV v u/\Q v H'
def TP(X:Cx)(pins:List (Addr×Obj))(σ:St)(Q:Bool->Hp->Prop)(b:Bool)(s':Shared):Prop:=∃H',Inv X pins σ H' s'/\Q b H'
def AP(X:Cx)(pins:List (Addr×Obj))(σ:St)(Q:List V->Hp->Prop)(us:List Value)(s':Shared):Prop:=∃vs H',Inv X pins σ H' s'/\zP vs us/\Q vs H'
def SP(X:Cx)(pins:List (Addr×Obj))(D:Ends)(f:Flow)(s':Shared):Prop :=
 match f with
 |.next=>∃σ' H',Inv X pins σ' H' s'/\D.nx σ' H'
 |.brk=>∃σ' H',Inv X pins σ' H' s'/\D.bk σ' H'
 |.cont=>∃σ' H',Inv X pins σ' H' s'/\D.ct σ' H'
 |.ret u=>∃v σ' H',Inv X pins σ' H' s'/\RelV v u/\D.rt v H'
def PE(X:Cx)(e:Expr)(t:TE):Prop :=
 ∀(pins:List (Addr×Obj)) (s:Shared) (σ:St) (H:Hp) (Q:VK),Inv X pins σ H s->t σ H Q->wpAny (model X.prog X.w) X.A (eval e X.env) (EP X pins σ Q) X.xe s
def PT(X:Cx)(e:Expr)(t:TT):Prop :=
 ∀(pins:List (Addr×Obj)) (s:Shared) (σ:St) (H:Hp) (Q:Bool->Hp->Prop),Inv X pins σ H s->t σ H Q->wpAny (model X.prog X.w) X.A (isTrue e X.env (eval e X.env)) (TP X pins σ Q) X.xe s
def PW(X:Cx)(e:Expr)(t:TT):Prop :=
 ∀(whole:Sem Value) (pins:List (Addr×Obj)) (s:Shared) (σ:St) (H:Hp) (Q:Bool->Hp->Prop),Inv X pins σ H s->t σ H Q->wpAny (model X.prog X.w) X.A (isTrue e X.env whole) (TP X pins σ Q) X.xe s
theorem PW.pt{e:Expr}{t:TT}(h:PW X e t):PT X e t:=h _
def PA(X:Cx)(es:List Expr)(t:TA):Prop :=
 ∀(pos:Pos) (pins:List (Addr×Obj)) (s:Shared) (σ:St) (H:Hp) (Q:List V->Hp->Prop),Inv X pins σ H s->t σ H Q->wpAny (model X.prog X.w) X.A (spliced (backTo pos (aam es X.env))) (AP X pins σ Q) X.xe s
def PS(X:Cx)(st:Stmt)(t:TS):Prop :=
 ∀(pins:List (Addr×Obj)) (s:Shared) (σ:St) (H:Hp) (D:Ends),Inv X pins σ H s->t D σ H->wpAny (model X.prog X.w) X.A (exec st X.env) (SP X pins D) X.xe s
def GP(X:Cx)(st:List Stmt)(t:TS):Prop :=
 ∀(pins:List (Addr×Obj)) (s:Shared) (σ:St) (H:Hp) (D:Ends),Inv X pins σ H s->t D σ H->wpAny (model X.prog X.w) X.A (execs st X.env) (SP X pins D) X.xe s
theorem Aw{t:Sem α}{Q Q':α->Shared->Prop}(h:wpAny M A t Q E s)(hQ:∀a s,Q a s->Q' a s):wpAny M A t Q' E s:=aaL h hQ λ_ _ x=>x
def AR(i:Nat):TE:=λσ H Q=>∃v,σ[i]?=some (some v)/\Q v H
def tC(v:V):TE:=λ_ H Q=>Q v H
variable{pos:Pos}
theorem yj{x:Str}(hN:X.N[i]?=some x)(hv:GN X.env.scope x)(hd:(x==("__debug__" : Str))=false:=by decide)(hcd:(x==("__classdict__" : Str))=false:=by decide):PE X (.Name x pos) (AR i):=by
 intro pins s σ H Q I h
 obtain⟨v,e,h⟩:=h
 obtain⟨m,hn,hl⟩:=I.loc
 obtain⟨u,r,l⟩:=hl i x v hN e hv
 have fin:EP X pins σ Q u s:=⟨v,H,I,r,h⟩
 rcases l with ⟨hk,hm⟩|⟨hk,c,hc,Cv⟩
 ·exact ae6 (wpAny_loadName_local I.ok.kind hk hn hm fin) hd
 ·rcases hk with hk|hk
  ·exact ae6 (wpAny_loadName_cell I.ok.kind hk hc Cv fin) hd
  ·exact ae6 (wpAny_loadName_free I.ok.kind hk hc Cv fin hcd) hd
theorem aJ{i j pos}:PE X (.Constant (.int i) j pos) (tC (.int i)):=λ_ _ _ H _ I h=>wpAny_Constant_int ⟨.int i,H,I.tok _,⟨_,rfl⟩,h⟩
theorem zt{b j pos}:PE X (.Constant (.bool b) j pos) (tC (.bl b)):=λ_ _ _ H _ I h=>Constant_bool ⟨.bl b,H,I,rfl,h⟩
theorem yp{j pos}:PE X (.Constant .none j pos) (tC .rW):=λ_ _ _ H _ I h=>Constant_none ⟨.rW,H,I,rfl,h⟩
theorem yl{x j pos}:PE X (.Constant (.str x) j pos) (tC (.str x)):=λ_ _ _ H _ I h=>Calls.Constant_str ⟨.str x,H,I.tok _,⟨_,rfl⟩,h⟩
def Gl(X:Cx)(x:Str):Prop:=X.env.kindOf x=some .globalImplicit
theorem ml{σ:St}{x:Str}{Q:Value->Shared->Prop}(I:Inv X pins σ H s)(hg:Gl X x)(hm:X.mg x=some u)(h:Q u s)
  (hd:(x==("__debug__" : Str))=false:=by decide):wpAny (model X.prog X.w) X.A (eval (.Name x pos) X.env) Q E s :=
 afT I.ok.kind hg (Calls.loadGlobal_global (by rw[I.ok.glob];exact I.mod.glob.keeps I.bk) hm h) hd
theorem gq{σ:St}{x:Str}{Q:Value->Shared->Prop}(I:Inv X pins σ H s)(hg:Gl X x)(hm:X.mg x=none)(hv:acm x=some u)(h:Q u s)
  (hn:x ≠ "__name__" :=by decide) (hd:(x==("__debug__" : Str))=false:=by decide):wpAny (model X.prog X.w) X.A (eval (.Name x pos) X.env) Q E s:=by
 obtain⟨mb,h1,h2⟩:=I.mod.blt
 exact afT I.ok.kind hg (Calls.loadGlobal_builtin (by rw[I.ok.glob];exact I.mod.glob.keeps I.bk) hm (by rw[I.ok.blt];exact h1.keeps I.bk) ((h2 x hn).trans hv) h) hd
theorem wI{x:Str}(hg:Gl X x)(hm:X.mg x=some u)(r:RelV v u)(hd:(x==("__debug__" : Str))=false:=by decide):PE X (.Name x pos) (tC v) :=
 λ_ _ _ H _ I h=>ml I hg hm ⟨v,H,I,r,h⟩ hd
theorem wJ{x:Str}(hg:Gl X x)(hm:X.mg x=none)(hv:acm x=some u)(r:RelV v u)(hn:x ≠ "__name__" :=by decide)(hd:(x==("__debug__" : Str))=false:=by decide):PE X (.Name x pos) (tC v) :=
 λ_ _ _ H _ I h=>gq I hg hm hv ⟨v,H,I,r,h⟩ hn hd
variable{a b:Expr}{ta tb:TE}
variable{tA Oo:TT}{rest:List Expr}
def C6(t u:TT):TT:=λσ H Q=>t σ H λc H1=>if c=true then u σ H1 Q else Q false H1
def Fp(t u:TT):TT:=λσ H Q=>t σ H λc H1=>if c=true then Q true H1 else u σ H1 Q
def B4(t:TT):TT:=λσ H Q=>t σ H λc H1=>Q (!c) H1
theorem pw_and1(ha:PT X a tA):PW X (.BoolOp .And [a] pos) tA:=by
 intro wh pins s σ H Q I h
 refine isTrue_and (Aw (ha pins s σ H Q I h) λc s1 e=>?_)
 cases c with
 |true=>exact isTrue_and_nil e
 |false=>exact e
theorem pw_or1(ha:PT X a tA):PW X (.BoolOp .Or [a] pos) tA:=by
 intro wh pins s σ H Q I h
 refine isTrue_or (Aw (ha pins s σ H Q I h) λc s1 e=>?_)
 cases c with
 |false=>exact isTrue_or_nil e
 |true=>exact e
theorem pw_and(ha:PT X a tA)(hb:PW X (.BoolOp .And (b::rest) pos) Oo):PW X (.BoolOp .And (a::b::rest) pos) (C6 tA Oo):=by
 intro wh pins s σ H Q I h
 refine isTrue_and (Aw (ha pins s σ H _ I h) λc s1 ⟨H1,I1,q1⟩=>?_)
 cases c with
 |true=>exact hb wh pins s1 σ H1 Q I1 q1
 |false=>exact⟨H1,I1,q1⟩
theorem pw_or(ha:PT X a tA)(hb:PW X (.BoolOp .Or (b::rest) pos) Oo):PW X (.BoolOp .Or (a::b::rest) pos) (Fp tA Oo):=by
 intro wh pins s σ H Q I h
 refine isTrue_or (Aw (ha pins s σ H _ I h) λc s1 ⟨H1,I1,q1⟩=>?_)
 cases c with
 |true=>exact⟨H1,I1,q1⟩
 |false=>exact hb wh pins s1 σ H1 Q I1 q1
theorem yb(ha:PT X a tA):PT X (.UnaryOp .Not a pos) (B4 tA):=by
 intro pins s σ H Q I h
 exact isTrue_not (ha pins s σ H (λc H1=>Q (!c) H1) I h)
def ME(ta tb:TE):TE:=λσ H Q=>ta σ H λx H1=>∃c,x=.bl c/\if c=true then tb σ H1 Q else Q (.bl false) H1
def My(ta:TE):TE:=λσ H Q=>ta σ H λx H1=>∃c,x=.bl c/\Q (.bl (!c)) H1
theorem yn{op}{t:TE}(h:PE X a t):PE X (.BoolOp op [a] pos) t:=λpins s σ H Q I hw=>BoolOp_one (h pins s σ H Q I hw)
theorem yr(ha:PE X a ta)(hb:PE X (.BoolOp .And (b::rest) pos) tb):PE X (.BoolOp .And (a::b::rest) pos) (ME ta tb):=by
 intro pins s σ H Q I h
 refine BoolOp_and (Aw (ha pins s σ H _ I h) λv s1 ⟨x,H1,I1,r1,q1⟩=>?_)
 obtain⟨c,rfl,q1⟩:=q1
 cases r1
 refine ab1 ?_
 cases c with
 |true=>exact hb pins s1 σ H1 Q I1 q1
 |false=>exact⟨.bl false,H1,I1,rfl,q1⟩
theorem yo(ha:PE X a ta):PE X (.UnaryOp .Not a pos) (My ta):=by
 intro pins s σ H Q I h
 refine UnaryOp_ (Aw (ha pins s σ H _ I h) λv s1 ⟨x,H1,I1,r1,q1⟩=>?_)
 obtain⟨c,rfl,q1⟩:=q1
 cases r1
 exact not_of (ab1 ⟨.bl (!c),H1,I1,rfl,q1⟩)
def S5(t:TT)(ta tb:TE):TE:=λσ H Q=>t σ H λc H1=>if c=true then ta σ H1 Q else tb σ H1 Q
variable{c:Expr}
theorem uq(hc:PT X c tA)(ha:PE X a ta)(hb:PE X b tb):PE X (.IfExp c a b pos) (S5 tA ta tb):=by
 intro pins s σ H Q I h
 refine wpAny_IfExp (Aw (hc pins s σ H _ I h) λd s1 ⟨H1,I1,q1⟩=>?_)
 cases d with
 |true=>exact ha pins s1 σ H1 Q I1 q1
 |false=>exact hb pins s1 σ H1 Q I1 q1
def Bs(K:aah)(H:Hp)(a:Addr)(xs:List V):Prop :=
 Rd H a (.lst xs) \/
  ∃(o:Obj) (iD:Array Value) (n:Nat),K.lookup a=some o/\o.cls=.type "list" /\ o.dict=none/\o.data=.seq iD n/\iD.size<=sizeLine/\zP xs iD.toList
def AW(K:aah)(H:Hp)(a:Addr)(xs:List V):Prop :=
 Rd H a (.tup xs) \/
  ∃(o:Obj) (iD:Array Value) (n:Nat),K.lookup a=some o/\o.cls=.type "tuple" /\ o.data=.seq iD n/\iD.size<=sizeLine/\zP xs iD.toList
def Rc:Value->Option V
 |.none=>some .rW
 |.bool b=>some (.bl b)
 |.int i _=>some (.int i)
 |.str x _=>some (.str x)
 |.bytes b _=>some (.Hq b)
 |.float b _=>some (.Mk b)
 |.ref a=>some (.ref a)
 |.type n=>some (.ty n)
 |_=>none
theorem RelV.abs{x:V}(r:RelV x u):Rc u=some x:=by
 cases x with
 |rW=>cases r;rfl
 |bl _=>cases r;rfl
 |int _=>obtain⟨t,rfl⟩:=r;rfl
 |str _=>obtain⟨t,rfl⟩:=r;rfl
 |Hq _=>obtain⟨t,rfl⟩:=r;rfl
 |Mk _=>obtain⟨t,rfl⟩:=r;rfl
 |ref _=>cases r;rfl
 |ty _=>cases r;rfl
variable{y:V}
theorem RelV.inj{x:V}(r:RelV x u)(q:RelV y u):x=y:=aau (r.abs.symm.trans q.abs)
theorem zP.inj:∀{xs ys:List V} {us:List Value},zP xs us->zP ys us->xs=ys
 |_,_,_,.nil,.nil=>rfl
 |_,_,_,.cons r t,.cons r' t'=>by rw[r.inj r',zP.inj t t']
variable{σ:St}{a:Addr}{ys:List V}
variable{K:aah}
theorem Bs.of(h:H a=some (.lst xs)):Bs K H a xs:=.inl (.inl h)
theorem Inv.list(I:Inv X pins σ H s)(h:Bs X.K H a xs):∃iD:List Value,zP xs iD/\PlainL s.heap a iD.toArray/\xs.length<=sizeLine:=by
 rcases h with h|⟨o,iD,n,hk,hc,hd,hs,hz,r⟩
 ·obtain⟨z,iD,n,r,e⟩:=h.ok I.zY
  exact⟨iD,r,⟨_,n,e,rfl,rfl,rfl⟩,z⟩
 ·refine⟨iD.toList,r,⟨o,n,I.Ex a o hk,hc,hd,by simpa using hs⟩,?_⟩
  have e:=r.length
  simp only[aav]at e
  omega
theorem Inv.tuple(I:Inv X pins σ H s)(h:AW X.K H a xs):∃iD:List Value,zP xs iD/\IsTup s.heap a iD.toArray/\xs.length<=sizeLine:=by
 rcases h with h|⟨o,iD,n,hk,hc,hs,hz,r⟩
 ·obtain⟨z,iD,r,p⟩:=h.ok I.zY
  exact⟨iD,r,p,z⟩
 ·refine⟨iD.toList,r,⟨o,I.Ex a o hk,hc,n,by simpa using hs⟩,?_⟩
  have e:=r.length
  simp only[aav]at e
  omega
theorem Inv.Fz(I:Inv X pins σ H s)(h:Bs X.K H a xs)(h':Bs X.K H a ys):xs=ys:=by
 obtain⟨iD,r,⟨o,n,e,_,_,d⟩,_⟩:=I.list h
 obtain⟨its',r',⟨o',n',e',_,_,d'⟩,_⟩:=I.list h'
 rw[e]at e';cases e'
 rw[d]at d'
 injection d' with d1 _
 have:iD=its':=by simpa using congrArg Array.toList d1
 subst this
 exact r.inj r'
theorem Inv.BR(I:Inv X pins σ H s)(h:AW X.K H a xs)(h':AW X.K H a ys):xs=ys:=by
 obtain⟨iD,r,⟨o,e,_,n,d⟩,_⟩:=I.tuple h
 obtain⟨its',r',⟨o',e',_,n',d'⟩,_⟩:=I.tuple h'
 rw[e]at e';cases e'
 rw[d]at d'
 injection d' with d1 _
 have:iD=its':=by simpa using congrArg Array.toList d1
 subst this
 exact r.inj r'
abbrev Cx.Es(X:Cx)(E:Value->Shared->Prop):Cx:={X with xe:=E}
abbrev Cx.Jq(X:Cx):Cx:=X.Es λ_ _=>False
theorem Cx.Ok.Es(ok:X.Ok)(E:Value->Shared->Prop):(X.Es E).Ok :=
 ⟨ok.mod,ok.kind,ok.glob,ok.blt,ok.above,ok.inj,ok.has,ok.NY,ok.hd,ok.frames,ok.Ot,ok.Sh,ok.bs,ok.Kc,ok.HZ,ok.JD,ok.D9,ok.Mj⟩
theorem Cx.Ok.Cp(ok:(X.Es E).Ok):X.Ok :=
 ⟨ok.mod,ok.kind,ok.glob,ok.blt,ok.above,ok.inj,ok.has,ok.NY,ok.hd,ok.frames,ok.Ot,ok.Sh,ok.bs,ok.Kc,ok.HZ,ok.JD,ok.D9,ok.Mj⟩
theorem Inv.Es(I:Inv X pins σ H s)(E:Value->Shared->Prop):Inv (X.Es E) pins σ H s:=⟨I.ok.Es E,I.os,I.bare,I.base,I.loc,I.cell,I.free,I.BY,I.pin,I.zY,I.len⟩
theorem Inv.Cp(I:Inv (X.Es E) pins σ H s):Inv X pins σ H s:=⟨I.ok.Cp,I.os,I.bare,I.base,I.loc,I.cell,I.free,I.BY,I.pin,I.zY,I.len⟩
theorem SP.Cp{D:Ends}{f:Flow}(h:SP (X.Es E) pins D f s'):SP X pins D f s':=by
 cases f with
 |next=>obtain⟨σ',H',I,q⟩:=h;exact⟨σ',H',I.Cp,q⟩
 |brk=>obtain⟨σ',H',I,q⟩:=h;exact⟨σ',H',I.Cp,q⟩
 |cont=>obtain⟨σ',H',I,q⟩:=h;exact⟨σ',H',I.Cp,q⟩
 |ret u=>obtain⟨v,σ',H',I,r,q⟩:=h;exact⟨v,σ',H',I.Cp,r,q⟩
theorem GP.Jq{st:List Stmt}{t:TS}(h:GP X.Jq st t):GP X st t:=λpins s σ H D I hw=>
 aaL (h pins s σ H D (I.Es _) hw) (λ_ _ q=>q.Cp) λ_ _ z=>ac0 z
variable{st:Stmt}{rest:List Stmt}{t u:TS}{e:Expr}{te:TE}
def JS:TS:=λD σ H=>D.nx σ H
def HJ(t u:TS):TS:=λD σ H=>t {D with nx:=u D} σ H
theorem qd:GP X [] JS:=λ_ _ σ H _ I h=>aek ⟨σ,H,I,h⟩
theorem bT(h1:PS X st t)(h2:GP X rest u):GP X (st::rest) (HJ t u):=by
 intro pins s σ H D I h
 refine wpAny_execs_cons (Aw (h1 pins s σ H {D with nx:=u D} I h) λf s1 q=>?_)
 cases f with
 |next=>
  obtain⟨σ',H',I',q⟩:=q
  exact h2 pins s1 σ' H' D I' q
 |ret v=>exact q
 |brk=>exact q
 |cont=>exact q
theorem dk(h1:PS X st t):GP X [st] t:=by
 intro pins s σ H D I h
 refine wpAny_execs_cons (Aw (h1 pins s σ H D I h) λf s1 q=>?_)
 cases f with
 |next=>exact aek q
 |ret v=>exact q
 |brk=>exact q
 |cont=>exact q
theorem Inv.quiet(I:Inv X pins σ H s):interactive X.env=false:=by simp[interactive,I.ok.kind]
def MB(te:TE):TS:=λD σ H=>te σ H λ_ H1=>D.nx σ H1
theorem qe(he:PE X e te)(hs:acP e none pos.line X.env=pure false:=by rfl):PS X (.Expr e pos) (MB te):=by
 intro pins s σ H D I h
 exact wpAny_Expr_any (Aw (he pins s σ H _ I h) λv s1 ⟨x,H1,I1,r1,q1⟩=>⟨σ,H1,I1,q1⟩) I.quiet hs
def Kt(te:TE):TS:=λD σ H=>te σ H D.rt
theorem iL(he:PE X e te):PS X (.Return (some e) pos) (Kt te):=by
 intro pins s σ H D I h
 exact wpAny_Return_some (Aw (he pins s σ H _ I h) λv s1 ⟨x,H1,I1,r1,q1⟩=>⟨x,σ,H1,I1,r1,q1⟩)
def MA(c:TT)(t u:TS):TS:=λD σ H=>c σ H λb H1=>if b=true then t D σ H1 else u D σ H1
theorem vE{a b:List Stmt}{tc:TT}(hc:PT X c tc)(ha:GP X a t)(hb:GP X b u):PS X (.If c a b pos) (MA tc t u):=by
 intro pins s σ H D I h
 refine wpAny_If (Aw (hc pins s σ H _ I h) λd s1 ⟨H1,I1,q1⟩=>?_)
 cases d with
 |true=>exact ha pins s1 σ H1 D I1 q1
 |false=>exact hb pins s1 σ H1 D I1 q1
abbrev TG:=V->St->Hp->(St->Hp->Prop)->Prop
abbrev HC:=List V->St->Hp->(St->Hp->Prop)->Prop
def PG(X:Cx)(target:Expr)(t:TG):Prop :=
 ∀(pins:List (Addr×Obj)) (s:Shared) (σ:St) (H:Hp) (v:V) (u:Value) (Q:St->Hp->Prop),Inv X pins σ H s->RelV v u->t v σ H Q ->
  wpAny (model X.prog X.w) X.A (assign target X.env u) (λ_ s'=>∃σ' H',Inv X pins σ' H' s'/\Q σ' H') X.xe s
def N5(X:Cx)(ts:List Expr)(t:HC):Prop :=
 ∀(pins:List (Addr×Obj)) (s:Shared) (σ:St) (H:Hp) (vs:List V) (us:List Value) (Q:St->Hp->Prop),Inv X pins σ H s->zP vs us->t vs σ H Q ->
  wpAny (model X.prog X.w) X.A (assignInOrder ((acy ts X.env).map (·.2)) us) (λ_ s'=>∃σ' H',Inv X pins σ' H' s'/\Q σ' H') X.xe s
abbrev IF:=V->V->V->Hp->(Hp->Prop)->Prop
def FP(X:Cx)(t:IF):Prop :=
 ∀(pins:List (Addr×Obj)) (s:Shared) (σ:St) (H:Hp) (o i v:V) (ov iv u:Value) (Q:Hp->Prop),Inv X pins σ H s->RelV o ov->RelV i iv->RelV v u->t o i v H Q ->
  wpAny (model X.prog X.w) X.A (setItem ov iv u) (λ_ s'=>∃H',Inv X pins σ H' s'/\Q H') X.xe s
def CI(i:Nat):TG:=λv σ H Q=>Q (σ.set i (some v)) H
theorem aG{x:Str}(hN:X.N.Nodup)(hi:X.N[i]?=some x)(hx:Loc X.env.scope x)(hf:X.fn x=true\/X.env.scope.names.lookup x=some .local:=by first|exact .inl rfl|exact .inr rfl|assumption):PG X (.Name x pos) (CI i):=by
 intro pins s σ H v u Q I r h
 exact ae5 (gO I hN hi hx r (λs' I'=>⟨_,H,I',h⟩) hf)
def LG:HC:=λvs σ H Q=>vs=[]/\Q σ H
def FH(t:TG)(u:HC):HC:=λvs σ H Q=>∃v r,vs=v::r/\t v σ H λσ' H'=>u r σ' H' Q
theorem jg:N5 X [] LG:=by
 intro pins s σ H vs us Q I r h
 obtain⟨e,h⟩:=h
 subst e
 cases r
 exact assignInOrder_nil ⟨σ,H,I,h⟩
variable{es:List Expr}
theorem cG{t:TG}{u:HC}(h1:PG X e t)(h2:N5 X es u)
  (hs:(acy (e::es) X.env).map (·.2)=assign e X.env::(acy es X.env).map (·.2):=by rfl):N5 X (e::es) (FH t u):=by
 intro pins s σ H vs us Q I r h
 obtain⟨v,vr,e1,h⟩:=h
 subst e1
 cases r with
 |cons r rr=>
  rw[hs]
  refine aeW (Aw (h1 pins s σ H _ _ _ I r h) λ_ s1 ⟨σ1,H1,I1,q1⟩=>?_)
  exact h2 pins s1 σ1 H1 _ _ Q I1 rr q1
def LD(K:aah)(n:Nat)(t:HC):TG:=λv σ H Q=>∃a xs,v=.ref a/\AW K H a xs/\xs.length=n/\t xs σ H Q
variable{k n:Nat}
theorem kZ{t:HC}(hc:X.calm=true)(h:N5 X es t)
  (hn:(acy es X.env).length=n:=by rfl) (Im:(acy es X.env).findIdx? (·.1)=none:=by rfl):PG X (.Tuple es k pos) (LD X.K n t):=by
 intro pins s σ H v u Q I r hw
 obtain⟨a,xs,e1,hq,hl,hw⟩:=hw
 subst e1
 cases r
 obtain⟨iD,rv,ht,hz⟩:=I.tuple hq
 refine assign_Tuple_tuple (I.ok.hd hc) ht (by simp[hn,<- hl,rv.length]) Im λh' hx=>?_
 have I1:Inv X pins σ H {s with heap:=h'}:=I.kept (t':=s.toks) λb o e=>hx b o (aaq (aaj e)) e
 exact h pins _ σ H xs _ Q I1 (by simpa using rv) hw
def LF(to ti:TE)(t:IF):TG:=λv σ H Q=>to σ H λo H1=>ti σ H1 λi H2=>t o i v H2 λH3=>Q σ H3
variable{to:TE}
theorem og{o i:Expr}{ti:TE}{t:IF}(ho:PE X o to)(hi:PE X i ti)(hs:FP X t)
  (ha:∀v,assign (.Subscript o i pos) X.env v=(do
   let ov <- ad3 [v] (eval o X.env)
   let iv <- ad3 [v,ov] (eval i X.env)
   standAt pos
   ad3 [v,ov,iv] (setItem ov iv v)
   release [v,ov,iv] []):=by intro _;rfl):PG X (.Subscript o i pos) (LF to ti t):=by
 intro pins s σ H v u Q I r h
 rw[ha]
 refine aaa (aaN (Aw (ho pins s σ H _ I h) λov s1 ⟨x,H1,I1,r1,q1⟩=>?_))
 refine aaa (aaN (Aw (hi pins s1 σ H1 _ I1 q1) λiv s2 ⟨y,H2,I2,r2,q2⟩=>?_))
 refine aaa (acE (aaa (aaN (Aw (hs pins s2 σ H2 x y v ov iv u _ I2 r1 r2 r q2) λ_ s3 ⟨H3,I3,q3⟩=>?_))))
 exact wpAny_release ⟨σ,H3,I3,q3⟩
def Gb(te:TE)(g:TG):TS:=λD σ H=>te σ H λx H1=>g x σ H1 D.nx
variable{tg:Expr}
theorem kY{g:TG}(he:PE X e te)(hg:PG X tg g)(hs:ad0 [tg] e pos.line X.env=pure false:=by rfl)(hw:ad1 [tg] e X.env=pure none:=by rfl)
  (h1:(acy [tg] X.env).map (·.2)=[assign tg X.env]:=by rfl):PS X (.Assign [tg] e pos) (Gb te g):=by
 intro pins s σ H D I h
 refine wpAny_Assign_stores (Aw (he pins s σ H _ I h) λv s1 ⟨x,H1,I1,r1,q1⟩=>?_) hs hw
 rw[h1]
 exact Aw (hg pins s1 σ H1 x v _ I1 r1 q1) λ_ s2 q=>q
variable{pos':Pos}
theorem eS{x:Str}(hN:X.N.Nodup)(hi:X.N[i]?=some x)(hx:Loc X.env.scope x)(he:PE X e te)(hs:acP e (some (.Name x pos')) pos.line X.env=pure false:=by rfl)(hf:X.fn x=true\/X.env.scope.names.lookup x=some .local:=by first|exact .inl rfl|exact .inr rfl|assumption):
  PS X (.Assign [.Name x pos'] e pos) (Gb te (CI i)):=by
 intro pins s σ H D I h
 refine wpAny_Assign_Name (Aw (he pins s σ H _ I h) λv s1 ⟨y,H1,I1,r1,q1⟩=>?_) hs
 exact gO I1 hN hi hx r1 (λs2 I2=>⟨_,H1,I2,q1⟩) hf
def Pt(i j:Nat)(ta:TA):TS:=λD σ H=>ta σ H λvs H1=>∃v w,vs=[v,w]/\D.nx ((σ.set i (some v)).set j (some w)) H1
variable{py:Pos}
theorem yc{x y:Str}{a:Expr}{ta:TA}{px pt:Pos}{kt k2 pt2}(hc:X.calm=true)(hN:X.N.Nodup)(hi:X.N[i]?=some x)(hj:X.N[j]?=some y)(DH:i≠j)
  (hx:X.env.scope.names.lookup x=some .local) (hy:X.env.scope.names.lookup y=some .local) (ha:PA X [a,b] ta)
  (hw:ad1 [.Tuple [.Name x px,.Name y py] kt pt] (.Tuple [a,b] k2 pt2) X.env=pure (some [x,y]))
  (hs:ad0 [.Tuple [.Name x px,.Name y py] kt pt] (.Tuple [a,b] k2 pt2) pos.line X.env=pure false:=by rfl) :
  PS X (.Assign [.Tuple [.Name x px,.Name y py] kt pt] (.Tuple [a,b] k2 pt2) pos) (Pt i j ta):=by
 intro pins s σ H D I h
 rw[exec_Assign_arm]
 refine aaa (acE ?_)
 rw[hs]
 refine aaa (aaf ?_)
 rw[if_neg (by decide)]
 refine aaa (Tuple_ (Aw (ha _ pins s σ H _ I h) λus s1 ⟨vs,H1,I1,r1,q1⟩=>?_))
 obtain⟨v,w,e1,q1⟩:=q1
 subst e1
 obtain⟨u1,u2,rfl,rv,Du⟩:∃u1 u2,us=[u1,u2]/\RelV v u1/\RelV w u2:=by
  cases r1 with
  |cons p q=>
   cases q with
   |cons p' q'=>
    cases q'
    exact⟨_,_,rfl,p,p'⟩
 refine aa4 ?_ (by show 2<=sizeLine;decide)
 have I2:Inv X pins σ H1 {s1 with heap:=s1.heap.push {cls:=.type "tuple",data:=.seq [u1,u2].toArray}}:=I1.kept (t':=s1.toks) λb o e=>aac _ e
 rw[hw]
 refine aaa (aaf ?_)
 show wpAny (model X.prog X.w) X.A (do rule "assign.swapped-stores"; let items <- unpackItems (.ref s1.heap.objs.size) 2 none;assignInOrder [λv=>bindName X.env y v,λv=>bindName X.env x v] items.reverse;pure Flow.next) _ _ _
 refine aaa (acY (aaa (unpackItems_tuple (items:=#[u1,u2]) (I.ok.hd hc) (afO s1.heap _) λh' Js=>?_)))
 have I3:=I2.kept (h':=h') (t':=s1.toks) λb o e=>Js b o (aaq (aaj e)) e
 show wpAny _ _ (assignInOrder [λv=>bindName X.env y v,λv=>bindName X.env x v] [u2,u1] >>= λ_=>pure Flow.next) _ _ _
 refine aaa (aeW (wpAny_bindName (gO I3 hN hj (.inl hy) Du (λs2 I4=>?_) (.inr hy))))
 refine aeW (wpAny_bindName (gO I4 hN hi (.inl hx) rv (λs3 I5=>assignInOrder_nil (aaf ?_)) (.inr hx)))
 rw[List.set_comm _ _ (abG DH)]at I5
 exact⟨_,H1,I5,q1⟩
def Kr(c:TT)(tb:TS):TS:=λD σ H=>∃W:Nat->St->Hp->Prop,(∃m,W m σ H)/\∀m σ H,W m σ H ->
 c σ H λb H1=>if b=true then ∃N:St->Hp->Prop,(∀σ' H',N σ' H'->∃m',m'<m/\W m' σ' H')/\tb {D with nx:=N,ct:=N,bk:=D.nx} σ H1 else D.nx σ H1
variable{body:List Stmt}
theorem uh{tc:TT}{tb:TS}(hp:PassesOwn (model X.prog X.w) X.A X.env X.xe)(hc:PT X c tc)(hb:GP X body tb):PS X (.While c body [] pos) (Kr tc tb):=by
 intro pins s σ H D I h
 obtain⟨W,⟨m0,w0⟩,turn⟩:=h
 refine wpAny_While (codeAny_whileLoop (λn s'=>∃σ' H',Inv X pins σ' H' s'/\W n σ' H') ?_ m0 ⟨σ,H,I,w0⟩)
 rintro n s1 ⟨σ1,H1,I1,w1⟩
 refine acC hp (Aw (hc pins s1 σ1 H1 _ I1 (turn n σ1 H1 w1)) λb s2 ⟨H2,I2,q2⟩=>?_)
 cases b with
 |true=>
  obtain⟨N,hN,q2⟩:=q2
  rw[if_pos rfl]
  refine acC hp (Aw (hb pins s2 σ1 H2 _ I2 q2) λf s3 q3=>?_)
  cases f with
  |next=>
   obtain⟨σ3,H3,I3,n3⟩:=q3
   obtain⟨m',hm,w3⟩:=hN σ3 H3 n3
   exact⟨m',hm,σ3,H3,I3,w3⟩
  |cont=>
   obtain⟨σ3,H3,I3,n3⟩:=q3
   obtain⟨m',hm,w3⟩:=hN σ3 H3 n3
   exact⟨m',hm,σ3,H3,I3,w3⟩
  |brk=>exact q3
  |ret v=>exact q3
 |false=>
  rw[if_neg aaB]
  exact aek ⟨σ1,H2,I2,q2⟩
structure It where
 go:Nat->Hp->Prop
 yld:Nat->Hp->V->Hp->Prop
 stop:Nat->Hp->Prop
def CV(X:Cx)(pins:List (Addr×Obj))(H:Hp)(b:Addr):Prop :=
 H b=none/\b≠X.env.locals/\b∉X.fs/\(b∈X.ex\/X.s₀.heap.objs.size<=b)/\(∀x c,X.env.cells.lookup x=some c->c≠b)/\∀p∈X.pn++pins,p.1≠b
theorem Inv.GA{b:Addr}(I:Inv X pins σ H s)(hb:s.heap.objs.size<=b)(hn:H' b=none):CV X pins H' b:=by
 refine⟨hn,abZ (aaG I.lt hb),I.PZ hb,.inr (aa2 I.sz hb),λx c e z=>?_,λp hp z=>?_⟩
 ·obtain⟨v,q⟩:=I.cell x c e
  exact absurd (aaG q.lt (by rw[z];exact hb)) (abl _)
 ·exact absurd (aaG (aaj (I.pin p hp).1) (by rw[z];exact hb)) (abl _)
structure Turn(P:aaI)(w:World)(K:aah)(tg:Expr)(J:It)(fp:List Addr)(it:Addr)(tn:Nat->Heap->Prop):Prop where
 mem:it∈fp
 obj:∀i h,tn i h->∀b∈fp,∃o,h.get? b=some o/\∀v,o.data≠.cell v
 keep:∀i h h',tn i h->(∀b∈fp,∀o,h.get? b=some o->h'.get? b=some o)->tn i h'
 item:∀(X:Cx),X.prog=P->X.w=w->X.K=K->X.calm=true->∀(i:Nat) (pins:List (Addr×Obj)) (s:Shared) (σ:St) (H:Hp) (E:Value->Shared->Prop),Inv X pins σ H s->(∀b∈fp,CV X pins H b)->tn i s.heap->J.go i H ->
  wpAny (model P w) X.A (pyNext (.ref it)) (λr s1=>∃u,r=some u /\
   wpAny (model P w) X.A (aen tg (.ref it) u) (λ_ s2=>∃x H',Inv X pins σ H' s2/\RelV x u/\J.yld i H x H'/\tn (i+1) s2.heap/\∀b∈fp,H' b=none) E s1) E s
 done:∀(X:Cx),X.prog=P->X.w=w->X.K=K->X.calm=true->∀(i:Nat) (pins:List (Addr×Obj)) (s:Shared) (σ:St) (H:Hp) (E:Value->Shared->Prop),Inv X pins σ H s->(∀b∈fp,CV X pins H b)->tn i s.heap->J.stop i H ->
  wpAny (model P w) X.A (pyNext (.ref it)) (λr s1=>r=none/\Inv X pins σ H s1) E s
 self:∀(A:Around) (i:Nat) (s:Shared) (Q:Value->Shared->Prop) (E:Value->Shared->Prop),tn i s.heap->Q (.ref it) s->wpAny (model P w) A (pyIter (.ref it)) Q E s
abbrev TI:=St->Hp->(It->Hp->Prop)->Prop
def Sw(X:Cx)(pins:List (Addr×Obj))(σ:St)(tg:Expr)(R:It->Hp->Prop)(OF:Value)(s2:Shared):Prop :=
 ∃(it:Addr) (fp:List Addr) (tn:Nat->Heap->Prop) (J:It) (H':Hp),OF=.ref it/\Inv X pins σ H' s2/\Turn X.prog X.w X.K tg J fp it tn/\tn 0 s2.heap/\(∀b∈fp,CV X pins H' b)/\R J H'
def PI(X:Cx)(tg iter:Expr)(wi:TI):Prop :=
 ∀(pins:List (Addr×Obj)) (s:Shared) (σ:St) (H:Hp) (R:It->Hp->Prop),Inv X pins σ H s->wi σ H R ->
  wpAny (model X.prog X.w) X.A (eval iter X.env) (λv s1=>wpAny (model X.prog X.w) X.A (pyIter v) (Sw X pins σ tg R) X.xe s1) X.xe s
theorem nR{u:Value}{o:Obj}{n:String}{vs:Array Value}(ho:s.heap.get? it=some o)(hc:o.cls=.type n)(hd:o.data=.fields vs)
  (hn:["enumerate", "zip", "dict_itemiterator", "dict_reverseitemiterator", "odict_iterator", "itertools.zip_longest", "itertools.pairwise"].contains n=false) (hQ:Q () s):wpAny M A (aen tg (.ref it) u) Q E s:=by
 unfold aen
 cases tg<;>first
  |exact aaf hQ
  |(cases u<;>first
    |exact aaf hQ
    |(
      refine aaa (wpAny_load ho ?_)
      rw[hc,hd]
      show wpAny M A (if (["enumerate", "zip", "dict_itemiterator", "dict_reverseitemiterator", "odict_iterator", "itertools.zip_longest", "itertools.pairwise"].contains n && vs[0]?==some (rawInt _))=true then _ else _) Q E s
      rw[if_neg (by intro h;rw[hn,aeL]at h;cases h)]
      exact aaf hQ))
def Jb(K:aah)(a:Addr):It :=
 ⟨λi H=>∃xs x,Bs K H a xs/\xs[i]?=some x,λi H x H'=>H'=H/\∀xs,Bs K H a xs->xs[i]?=some x,λi H=>∃xs,Bs K H a xs/\xs.length<=i⟩
def Rk(K:aah)(a:Addr):It :=
 ⟨λi H=>∃xs x,AW K H a xs/\xs[i]?=some x,λi H x H'=>H'=H/\∀xs,AW K H a xs->xs[i]?=some x,λi H=>∃xs,AW K H a xs/\xs.length<=i⟩
def OY(lo:Int)(n:Nat):It:=⟨λi _=>i<n,λi H x H'=>H'=H/\x=.int (lo+i),λi _=>n<=i⟩
theorem mT(a it:Addr):Turn P w K tg (Jb K a) [it] it (λi h=>h.IsListIter it a i) where
 mem:=by simp
 obj:=λi h st b hb=>by
  have e:b=it:=by simpa using hb
  subst e
  obtain⟨o,e,c,d⟩:=st
  exact⟨o,e,λv z=>by rw[d]at z;cases z⟩
 keep:=λi h h' st k=>st.at λo e=>k it (by simp) o e
 item:=by
  intro X hP hw hK hc i pins s σ H E I hf st hg
  subst hP hw hK
  obtain⟨xs,x,hq,hx⟩:=hg
  obtain⟨iD,rv,p,hz⟩:=I.list hq
  obtain⟨u,hu,ru⟩:=rv.get hx
  obtain⟨f0,f1,f2,f3,f4,f5⟩:=hf it (by simp)
  refine wpAny_pyNext_list_item st p.isList (x:=u) (by simpa using hu) λh' CW sb=>?_
  have I1:Inv X pins σ H {s with heap:=h'}:=I.turned (t':=s.toks) (λb o hb e=>(sb.2 b hb).trans e) f0 f1 f3 f4 f5
  obtain⟨o,e,c,d⟩:=id CW
  exact⟨u,rfl,nR (s:={s with heap:=h'}) e c d (by decide) ⟨x,H,I1,ru,⟨rfl,λys hy=>by rw[I.Fz hy hq];exact hx⟩,CW,λb hb=>(hf b hb).1⟩⟩
 done:=by
  intro X hP hw hK hc i pins s σ H E I hf st hg
  subst hP hw hK
  obtain⟨xs,hq,hx⟩:=hg
  obtain⟨iD,rv,p,hz⟩:=I.list hq
  obtain⟨f0,f1,f2,f3,f4,f5⟩:=hf it (by simp)
  have hl:=rv.length
  exact wpAny_pyNext_list_end (I.ok.hd hc) st p.isList (by simp;omega) λh' eb=>⟨rfl,I.turned (t':=s.toks) (λb o hb e=>eb b o hb e) f0 f1 f3 f4 f5⟩
 self:=λ_ _ _ _ _ st h=>wpAny_pyIter_listiter st h
theorem qH(a it:Addr):Turn P w K tg (Rk K a) [it] it (λi h=>h.IsTupleIter it a i) where
 mem:=by simp
 obj:=λi h st b hb=>by
  have e:b=it:=by simpa using hb
  subst e
  obtain⟨o,e,c,d⟩:=st
  exact⟨o,e,λv z=>by rw[d]at z;cases z⟩
 keep:=λi h h' st k=>st.at λo e=>k it (by simp) o e
 item:=by
  intro X hP hw hK hc i pins s σ H E I hf st hg
  subst hP hw hK
  obtain⟨xs,x,hq,hx⟩:=hg
  obtain⟨iD,rv,p,hz⟩:=I.tuple hq
  obtain⟨u,hu,ru⟩:=rv.get hx
  obtain⟨f0,f1,f2,f3,f4,f5⟩:=hf it (by simp)
  refine wpAny_pyNext_tuple_item st (show s.heap.IsTuple a iD.toArray from p) (x:=u) (by simpa using hu) λh' CW sb=>?_
  have I1:Inv X pins σ H {s with heap:=h'}:=I.turned (t':=s.toks) (λb o hb e=>(sb.2 b hb).trans e) f0 f1 f3 f4 f5
  obtain⟨o,e,c,d⟩:=id CW
  exact⟨u,rfl,nR (s:={s with heap:=h'}) e c d (by decide) ⟨x,H,I1,ru,⟨rfl,λys hy=>by rw[I.BR hy hq];exact hx⟩,CW,λb hb=>(hf b hb).1⟩⟩
 done:=by
  intro X hP hw hK hc i pins s σ H E I hf st hg
  subst hP hw hK
  obtain⟨xs,hq,hx⟩:=hg
  obtain⟨iD,rv,p,hz⟩:=I.tuple hq
  obtain⟨f0,f1,f2,f3,f4,f5⟩:=hf it (by simp)
  have hl:=rv.length
  exact wpAny_pyNext_tuple_end (I.ok.hd hc) st (show s.heap.IsTuple a iD.toArray from p) (by simp;omega) λh' eb=>⟨rfl,I.turned (t':=s.toks) (λb o hb e=>eb b o hb e) f0 f1 f3 f4 f5⟩
 self:=λ_ _ _ _ _ st h=>wpAny_pyIter_tupleiter st h
theorem qI(it:Addr)(lo:Int)(n:Nat):Turn P w K tg (OY lo n) [it] it (λi h=>IsRangeIter h it (lo+(i:Nat)*1) ((n:Int) - (i:Nat)) 1) where
 mem:=by simp
 obj:=λi h st b hb=>by
  have e:b=it:=by simpa using hb
  subst e
  exact⟨_,st,λv z=>by
   have z':Data.fields _=afQ v:=z
   cases z'⟩
 keep:=λi h h' st k=>k it (by simp) _ st
 item:=by
  intro X hP hw hK hc i pins s σ H E I hf st hg
  subst hP hw hK
  obtain⟨f0,f1,f2,f3,f4,f5⟩:=hf it (by simp)
  have W:=Walks.range (prog:=X.prog) (w:=X.w) (I.ok.hd hc) it lo 1 n
  refine W.item i s _ _ hg st λv h' tk hv CW kk=>?_
  obtain⟨t,rfl⟩:=hv
  have I1:Inv X pins σ H {s with heap:=h',toks:=tk}:=I.turned (λb o hb e=>kk b o (by simpa using hb) e) f0 f1 f3 f4 f5
  refine⟨_,rfl,nR (s:={s with heap:=h',toks:=tk}) (n := "range_iterator") CW rfl rfl (by decide) ⟨.int (lo+i),H,I1,⟨t,?_⟩,⟨rfl,rfl⟩,CW,λb hb=>(hf b hb).1⟩⟩
  rw[Int.mul_one]
 done:=by
  intro X hP hw hK hc i pins s σ H E I hf st hg
  subst hP hw hK
  obtain⟨f0,f1,f2,f3,f4,f5⟩:=hf it (by simp)
  exact wpAny_pyNext_range_end (I.ok.hd hc) st (by have:n<=i:=hg;omega) λh' eb=>⟨rfl,I.turned (t':=s.toks) (λb o hb e=>eb b o hb e) f0 f1 f3 f4 f5⟩
 self:=λ_ _ _ _ _ st h=>wpAny_pyIter_rangeiter st h
def Nr(K:aah)(tl:TE):TI:=λσ H R=>tl σ H λx H1=>∃a,x=.ref a/\(∃xs,Bs K H1 a xs)/\R (Jb K a) H1
theorem qf{l:Expr}{tl:TE}(hl:PE X l tl):PI X tg l (Nr X.K tl):=by
 intro pins s σ H R I h
 refine Aw (hl pins s σ H _ I h) λv s1 ⟨x,H1,I1,r1,q1⟩=>?_
 obtain⟨a,e,⟨xs,hq⟩,q⟩:=q1
 subst e
 cases r1
 obtain⟨iD,rv,p,hz⟩:=I1.list hq
 refine adf p.isList ?_
 refine⟨s1.heap.objs.size,[s1.heap.objs.size],_,_,H1,rfl,I1.kept (t':=s1.toks) λb o e=>aac _ e,mT a _,⟨_,aai _ rfl,rfl,rfl⟩,λb hb=>?_,q⟩
 have e:b=s1.heap.objs.size:=by simpa using hb
 subst e
 exact I1.GA (aak _) (I1.zY.fresh (aak _))
theorem ud{R:It->Hp->Prop}{lo hi:Int}{t u v:Tok}{tk:Nat}(I:Inv X pins σ H s)(h1 : -(2 ^ 62)<=lo)(h2:lo<2 ^ 62)(h3 : -(2 ^ 62)<=hi)(h4:hi<2 ^ 62)
  (q:R (OY lo (hi - lo).toNat) H):wpAny (model X.prog X.w) X.A (pyIter (.ref s.heap.objs.size)) (Sw X pins σ tg R) E {s with heap:=s.heap.push {cls:=.type "range",data:=.fields #[.int lo t,.int hi u,.int 1 v]},toks:=tk}:=by
 refine wpAny_pyIter_range (IsRange.new ..) (small_one h1 h2 h3 h4) ?_
 have I1:Inv X pins σ H {s with heap:=s.heap.push {cls:=.type "range",data:=.fields #[.int lo t,.int hi u,.int 1 v]},toks:=tk}:=I.kept λb o e=>aac _ e
 refine⟨(s.heap.push {cls:=.type "range",data:=.fields #[.int lo t,.int hi u,.int 1 v]}).objs.size,[(s.heap.push {cls:=.type "range",data:=.fields #[.int lo t,.int hi u,.int 1 v]}).objs.size],_,_,H,rfl,
  I1.kept (t':=tk) λb o e=>aac _ e,qI _ lo (hi - lo).toNat,?_,λb hb=>?_,q⟩
 ·have e1:lo+((0:Nat):Int)*1=lo:=by simp
  have e2:(((hi - lo).toNat:Nat):Int) - ((0:Nat):Int)=Builtin.Range.rangeSize lo hi 1:=by rw[rangeSize_one];split<;>omega
  show IsRangeIter _ _ (lo+((0:Nat):Int)*1) ((((hi - lo).toNat:Nat):Int) - ((0:Nat):Int)) 1
  rw[e1,e2]
  exact aai _ rfl
 ·have e:b=(s.heap.push {cls:=.type "range",data:=.fields #[.int lo t,.int hi u,.int 1 v]}).objs.size:=by simpa using hb
  subst e
  exact I1.GA (aak _) (I1.zY.fresh (aak _))
def Nq(ta:TA):TI:=λσ H R=>ta σ H λvs H1=>∃j:Int,vs=[.int j] /\ -(2 ^ 62)<=j/\j<2 ^ 62/\R (OY 0 j.toNat) H1
variable{p:Pos}
theorem r9{a:Expr}{ta:TA}(hg:Gl X "range")(hm:X.mg "range" = none)(ha:PA X [a] ta)(hs:aam [a] X.env=[(false,eval a X.env)]:=by rfl):PI X tg (.Call (.Name "range" p) [a] [] pos) (Nq ta):=by
 intro pins s σ H R I h
 refine Call_ (gq I hg hm boot_range (adw (Aw (ha pos pins s σ H _ I h) λus s1 ⟨vs,H1,I1,r1,q1⟩=>?_) hs rfl))
 obtain⟨j,e,q1,q2,q⟩:=q1
 subst e
 cases r1 with
 |cons r rr=>
  cases rr
  obtain⟨t,rfl⟩:=r
  exact call_range_1 (ud I1 (by omega) (by omega) q1 q2 (by simpa using q))
def Pw(wi:TI)(g:TG)(tb:TS):TS:=λD σ H=>wi σ H λJ H1=>∃W:Nat->Nat->St->Hp->Prop,(∃m,W 0 m σ H1)/\∀i m σ H,W i m σ H ->
 (J.stop i H/\D.nx σ H)\/(J.go i H/\∃N:St->Hp->Prop,(∀σ' H',N σ' H'->∃m',m'<m/\W (i+1) m' σ' H')/\∀x H',J.yld i H x H'->g x σ H' λσ2 H2=>tb {D with nx:=N,ct:=N,bk:=D.nx} σ2 H2)
def C8(fp:List Addr)(h:Heap):List (Addr×Obj):=fp.filterMap λb=>(h.get? b).map λo=>(b,o)
variable{fp:List Addr}
theorem ci{b:Addr}{o:Obj}(hb:b∈fp)(e:h.get? b=some o):(b,o)∈C8 fp h:=List.mem_filterMap.mpr ⟨b,hb,by rw[e];rfl⟩
theorem sx{p:Addr×Obj}(hp:p∈C8 fp h):p.1∈fp/\h.get? p.1=some p.2:=by
 obtain⟨b,hb,e⟩:=List.mem_filterMap.mp hp
 cases q:h.get? b with
 |none=>rw[q]at e;cases e
 |some o=>
  rw[q]at e
  have e':(b,o)=p:=aau e
  subst e'
  exact⟨hb,q⟩
theorem Inv.pinned(I:Inv X pins σ H s)(hf:∀b∈fp,CV X pins H b)(ho:∀b∈fp,∃o,s.heap.get? b=some o/\∀v,o.data≠.cell v):Inv X (pins++C8 fp s.heap) σ H s :=
 I.G2 λp hp=>(List.mem_append.mp hp).elim (λz=>I.pin p (aaR _ z)) λz=>by
  obtain⟨hb,e⟩:=sx z
  obtain⟨f0,f1,f2,_⟩:=hf p.1 hb
  obtain⟨o,e',d⟩:=ho p.1 hb
  rw[e]at e';cases e'
  exact⟨e,f0,f1,f2,d⟩
theorem Inv.Cq{pl:List (Addr×Obj)}(I:Inv X (pins++pl) σ H s):Inv X pins σ H s:=I.G2 λp hp=>I.pin p (aaR _ (List.mem_append_left _ hp))
theorem rY{iter:Expr}{wi:TI}{g:TG}{tb:TS}(hp:PassesOwn (model X.prog X.w) X.A X.env X.xe)(hc:X.calm=true)(hi:PI X tg iter wi)(hg:PG X tg g)(hb:GP X body tb)
  (hs:∀x,abo iter X.env x=pure x:=by intro _;rfl):PS X (.For tg iter body [] pos) (Pw wi g tb):=by
 intro pins s σ H D I h
 refine wpAny_For (Aw (hi pins s σ H _ I h) λv s1 h1=>Aw h1 λOF s2 h2=>?_) hs
 obtain⟨it,fp,tn,J,H2,e,I2,T,KG,f2,W,⟨m0,w0⟩,turn⟩:=h2
 subst e
 have KC:∀{H':Hp},(∀b∈fp,H' b=none)->∀b∈fp,CV X pins H' b:=λhn b hb=>⟨hn b hb,(f2 b hb).2⟩
 refine codeAny_forLoop_any (λn s'=>∃i σ' H',Inv X pins σ' H' s'/\tn i s'.heap/\(∀b∈fp,H' b=none)/\W i n σ' H') ?_ m0 ⟨0,σ,H2,I2,KG,λb hb=>(f2 b hb).1,w0⟩
 rintro n s3 ⟨i,σ3,H3,I3,RB,Sf,w3⟩
 rcases turn i n σ3 H3 w3 with ⟨stop,qn⟩|⟨go,N,hN,step⟩
 ·refine acC hp (Aw (T.done X rfl rfl rfl hc i pins s3 σ3 H3 X.xe I3 (KC Sf) RB stop) λr s4 ⟨hr,I4⟩=>?_)
  subst hr
  exact aek ⟨σ3,H3,I4,qn⟩
 ·refine acC hp (Aw (T.item X rfl rfl rfl hc i pins s3 σ3 H3 X.xe I3 (KC Sf) RB go) λr s4 ⟨u,hr,h4⟩=>?_)
  subst hr
  refine acC hp (Aw h4 λ_ s5 ⟨x,H5,I5,r5,y5,Jg,LI⟩=>?_)
  have Vp:=I5.pinned (KC LI) (T.obj _ _ Jg)
  refine acC hp (Aw (hg _ s5 σ3 H5 x u _ Vp r5 (step x H5 y5)) λ_ s6 ⟨σ6,H6,I6,q6⟩=>?_)
  refine acC hp (Aw (hb _ s6 σ6 H6 _ I6 q6) λf s7 q7=>?_)
  have again:∀{σ7:St} {H7:Hp},Inv X (pins++C8 fp s5.heap) σ7 H7 s7->N σ7 H7->∃m,m<n/\∃i σ' H',Inv X pins σ' H' s7/\tn i s7.heap/\(∀b∈fp,H' b=none)/\W i m σ' H':=λ{σ7 H7} I7 n7=>by
   obtain⟨m',hm,w7⟩:=hN σ7 H7 n7
   refine⟨m',hm,i+1,σ7,H7,I7.Cq,T.keep _ _ _ Jg λb hb o e=>(I7.pin (b,o) (aaR _ (aaR _ (ci hb e)))).1,λb hb=>?_,w7⟩
   obtain⟨o,e,d⟩:=T.obj _ _ Jg b hb
   exact(I7.pin (b,o) (aaR _ (aaR _ (ci hb e)))).2.1
  cases f with
  |next=>obtain⟨σ7,H7,I7,n7⟩:=q7;exact again I7 n7
  |cont=>obtain⟨σ7,H7,I7,n7⟩:=q7;exact again I7 n7
  |brk=>obtain⟨σ7,H7,I7,q7⟩:=q7;exact⟨σ7,H7,I7.Cq,q7⟩
  |ret v=>obtain⟨x7,σ7,H7,I7,r7,q7⟩:=q7;exact⟨x7,σ7,H7,I7.Cq,r7,q7⟩
theorem u4{g:TG}{tb:TS}{D:Ends}(Pv:Nat->St->Hp->Prop)(h0:Pv 0 σ H)(hl:∀i σ H,i<=xs.length->Pv i σ H->Bs K H a xs)
  (hs:∀i x σ H,xs[i]?=some x->Pv i σ H->g x σ H λσ2 H2=>tb {D with nx:=Pv (i+1),ct:=Pv (i+1),bk:=D.nx} σ2 H2) (hd:∀σ H,Pv xs.length σ H->D.nx σ H) :
  ∃W:Nat->Nat->St->Hp->Prop,(∃m,W 0 m σ H)/\∀i m σ H,W i m σ H ->
   ((Jb K a).stop i H/\D.nx σ H)\/((Jb K a).go i H/\∃N:St->Hp->Prop,(∀σ' H',N σ' H'->∃m',m'<m/\W (i+1) m' σ' H')/\∀x H',(Jb K a).yld i H x H'->g x σ H' λσ2 H2=>tb {D with nx:=N,ct:=N,bk:=D.nx} σ2 H2):=by
 refine⟨λi m σ H=>m=xs.length - i/\i<=xs.length/\Pv i σ H,⟨xs.length,by simp,abd _,h0⟩,?_⟩
 rintro i m σ H ⟨rfl,hi,p⟩
 have q:=hl i σ H hi p
 by_cases AV:i<xs.length
 ·refine .inr ⟨⟨xs,xs[i],q,by simp[AV]⟩,Pv (i+1),λσ' H' p'=>⟨xs.length - (i+1),by omega,rfl,AV,p'⟩,λx H' y=>?_⟩
  obtain⟨e,y⟩:=y
  subst e
  exact hs i x σ _ (y xs q) p
 ·have e:i=xs.length:=by omega
  subst e
  exact .inl ⟨⟨xs,q,aak _⟩,hd σ H p⟩
abbrev R2:=V->V->Hp->VK->Prop
def AK(X:Cx)(f:Value->Value->Sem Value)(r:R2):Prop :=
 ∀(pins:List (Addr×Obj)) (s:Shared) (σ:St) (H:Hp) (x y:V) (v u:Value) (Q:VK),Inv X pins σ H s->RelV x v->RelV y u->r x y H Q ->
  wpAny (model X.prog X.w) X.A (f v u) (EP X pins σ Q) X.xe s
def Rf(X:Cx)(f:Value->Sem Value)(r:V->Hp->VK->Prop):Prop :=
 ∀(pins:List (Addr×Obj)) (s:Shared) (σ:St) (H:Hp) (x:V) (v:Value) (Q:VK),Inv X pins σ H s->RelV x v->r x H Q ->
  wpAny (model X.prog X.w) X.A (f v) (EP X pins σ Q) X.xe s
def zZ(X:Cx)(f:Value)(r:List V->Hp->VK->Prop):Prop :=
 ∀(pins:List (Addr×Obj)) (s:Shared) (σ:St) (H:Hp) (xs:List V) (us:List Value) (Q:VK),Inv X pins σ H s->zP xs us->r xs H Q ->
  wpAny (model X.prog X.w) X.A (call f us) (EP X pins σ Q) X.xe s
def Rg(X:Cx)(r:V->Hp->(Bool->Hp->Prop)->Prop):Prop :=
 ∀(pins:List (Addr×Obj)) (s:Shared) (σ:St) (H:Hp) (x:V) (v:Value) (Q:Bool->Hp->Prop),Inv X pins σ H s->RelV x v->r x H Q ->
  wpAny (model X.prog X.w) X.A (truthy v) (TP X pins σ Q) X.xe s
def DB(r:R2)(ta tb:TE):TE:=λσ H Q=>ta σ H λx H1=>tb σ H1 λy H2=>r x y H2 Q
def Po(r:V->Hp->VK->Prop)(ta:TE):TE:=λσ H Q=>ta σ H λx H1=>r x H1 Q
def rI(C:Int->Int->Prop)(g:Int->Int->V):R2:=λx y H Q=>∃i j,x=.int i/\y=.int j/\C i j/\Q (g i j) H
def Gj(g:Int->Int->V):R2:=λx y H Q=>∃i j,x=.int i/\y=.int j/\Q (g i j) H
def rU(g:Int->V):V->Hp->VK->Prop:=λx H Q=>∃i,x=.int i/\Q (g i) H
variable{a:Expr}{tc:TE}
theorem LU(ha:PE X a ta)(hb:PE X b tb){R:V->V->Hp->Prop}(I:Inv X pins σ H s)
  (h:ta σ H λx H1=>tb σ H1 λy H2=>R x y H2) {Q:Value->Shared->Prop} {f:Value->Value->Sem Value}
  (hf:∀v u s2 x y H2,Inv X pins σ H2 s2->RelV x v->RelV y u->R x y H2->wpAny (model X.prog X.w) X.A (f v u) Q X.xe s2) :
  wpAny (model X.prog X.w) X.A (eval a X.env) (λv s₁=>wpAny (model X.prog X.w) X.A (eval b X.env) (λu s₂=>wpAny (model X.prog X.w) X.A (f v u) Q X.xe s₂) X.xe s₁) X.xe s:=by
 refine Aw (ha pins s σ H _ I h) λv s1 ⟨x,H1,I1,r1,q1⟩=>?_
 refine Aw (hb pins s1 σ H1 _ I1 q1) λu s2 ⟨y,H2,I2,r2,q2⟩=>?_
 exact hf v u s2 x y H2 I2 r1 r2 q2
variable{r:R2}
theorem bK{op:Operator}(ho:AK X (acq op) r)(ha:PE X a ta)(hb:PE X b tb):PE X (.BinOp a op b pos) (DB r ta tb):=by
 intro pins s σ H Q I h
 exact wpAny_BinOp (LU ha hb I h λv u s2 x y H2 I2 rx ry q=>ho pins s2 σ H2 x y v u Q I2 rx ry q)
theorem zq{op:UnaryOp}{r:V->Hp->VK->Prop}(ho:Rf X (unaryOp op) r)(ha:PE X a ta):PE X (.UnaryOp op a pos) (Po r ta):=by
 intro pins s σ H Q I h
 exact UnaryOp_ (Aw (ha pins s σ H _ I h) λv s1 ⟨x,H1,I1,r1,q1⟩=>ho pins s1 σ H1 x v Q I1 r1 q1)
variable{f:Value->Value->Sem Value}
theorem Oz{C:Int->Int->Prop}{g:Int->Int->Int}
  (rule:∀(i j:Int) (t u:Tok) (s:Shared) (Q:Value->Shared->Prop) (E:Value->Shared->Prop),C i j->Q (.int (g i j) s.toks) {s with toks:=s.toks+1}->wpAny (model X.prog X.w) X.A (f (.int i t) (.int j u)) Q E s) :
  AK X f (rI C λi j=>.int (g i j)):=by
 intro pins s σ H x y v u Q I rx ry h
 obtain⟨i,j,rfl,rfl,hc,q⟩:=h
 obtain⟨t,rfl⟩:=rx
 obtain⟨t',rfl⟩:=ry
 exact rule i j t t' s _ _ hc ⟨.int (g i j),H,I.tok _,⟨_,rfl⟩,q⟩
theorem MX{g:Int->Int->Int}
  (rule:∀(i j:Int) (t u:Tok) (s:Shared) (Q:Value->Shared->Prop) (E:Value->Shared->Prop),Q (.int (g i j) s.toks) {s with toks:=s.toks+1}->wpAny (model X.prog X.w) X.A (f (.int i t) (.int j u)) Q E s) :
  AK X f (Gj λi j=>.int (g i j)):=by
 intro pins s σ H x y v u Q I rx ry h
 obtain⟨i,j,rfl,rfl,q⟩:=h
 obtain⟨t,rfl⟩:=rx
 obtain⟨t',rfl⟩:=ry
 exact rule i j t t' s _ _ ⟨.int (g i j),H,I.tok _,⟨_,rfl⟩,q⟩
theorem Jn{g:Int->Int->Bool}
  (rule:∀(i j:Int) (t u:Tok) (s:Shared) (Q:Value->Shared->Prop) (E:Value->Shared->Prop),Q (.bool (g i j)) s->wpAny (model X.prog X.w) X.A (f (.int i t) (.int j u)) Q E s) :
  AK X f (Gj λi j=>.bl (g i j)):=by
 intro pins s σ H x y v u Q I rx ry h
 obtain⟨i,j,rfl,rfl,q⟩:=h
 obtain⟨t,rfl⟩:=rx
 obtain⟨t',rfl⟩:=ry
 exact rule i j t t' s _ _ ⟨.bl (g i j),H,I,rfl,q⟩
def L4(i j:Int):Prop:=0<j/\j<1073741824
def Ru(i j:Int):Prop:=0<=j/\j<=1000000/\i.natAbs<2 ^ 64
def Hv(i j:Int):Prop:=(-(2 ^ 64)<i/\i<2 ^ 64)\/(-(2 ^ 64)<j/\j<2 ^ 64)
theorem Hv.ok{i j:Int}(h:Hv i j):IntMulOk i j:=by
 rcases h with ⟨h1,h2⟩|⟨h1,h2⟩
 ·exact .of_left (intBits_le_64 h1 h2)
 ·exact .of_right (intBits_le_64 h1 h2)
theorem iP:AK X (acq .Add) (Gj λi j=>.int (i+j)):=MX λ_ _ _ _ _ _ _ q=>add_int q
theorem yu:AK X (acq .Sub) (Gj λi j=>.int (i - j)):=MX λ_ _ _ _ _ _ _ q=>sub_int q
theorem lj:AK X (acq .Mult) (rI Hv λi j=>.int (i*j)):=Oz λ_ _ _ _ _ _ _ hc q=>mul_int q hc.ok
theorem lZ:AK X (acq .FloorDiv) (rI L4 λi j=>.int (i / j)):=Oz λi j _ _ _ _ _ hc q=>by
 have h1:(0:Int)<j:=hc.1
 have h2:j<1073741824:=hc.2
 exact floordiv_int (by omega) (by rw[Int.fdiv_eq_ediv_of_nonneg i (by omega)];exact q) (.inl (PyProof.noPylong_small (by omega)))
theorem eU:AK X (acq .Mod) (rI (λ_ j=>0<j) λi j=>.int (i % j)):=Oz λi j _ _ _ _ _ hc q=>by
 have h1:(0:Int)<j:=hc
 exact mod_int' (by omega) (by rw[Int.fmod_eq_emod_of_nonneg i (by omega)];exact q)
theorem oB:AK X (acq .Pow) (rI Ru λi j=>.int (i ^ j.toNat)):=Oz λ_ _ _ _ _ _ _ hc q=>pow_int_small hc.1 hc.2.1 hc.2.2 q
theorem SS{f:Value->Sem Value}{g:Int->Int}
  (rule:∀(i:Int) (t:Tok) (s:Shared) (Q:Value->Shared->Prop) (E:Value->Shared->Prop),Q (.int (g i) s.toks) {s with toks:=s.toks+1}->wpAny (model X.prog X.w) X.A (f (.int i t)) Q E s) :
  Rf X f (rU λi=>.int (g i)):=by
 intro pins s σ H x v Q I rx h
 obtain⟨i,rfl,q⟩:=h
 obtain⟨t,rfl⟩:=rx
 exact rule i t s _ _ ⟨.int (g i),H,I.tok _,⟨_,rfl⟩,q⟩
theorem xU:Rf X (unaryOp .USub) (rU λi=>.int (-i)):=SS λ_ _ _ _ _ q=>neg_int q
def Jj:V->V->Bool
 |.rW,.rW=>true|.rW,.int _=>true|.int _,.rW=>true|.rW,.bl _=>true|.bl _,.rW=>true|.rW,.str _=>true|.str _,.rW=>true
 |.int _,.int _=>true|.bl _,.bl _=>true|.str _,.str _=>true|.Hq _,.Hq _=>true
 |.int _,.str _=>true|.str _,.int _=>true|.bl _,.str _=>true|.str _,.bl _=>true
 |_,_=>false
def S9:R2:=λx y H Q=>Jj x y=true/\Q (.bl (decide (x=y))) H
def PM:R2:=λx y H Q=>Jj x y=true/\Q (.bl (!decide (x=y))) H
theorem qy{i j:Int}:decide (V.int i=V.int j)=(i==j):=by
 rw[abt]
 simp
theorem tI{i j:Bool}:decide (V.bl i=V.bl j)=(i==j):=by
 rw[abt]
 simp
theorem qx{i j:Str}:decide (V.str i=V.str j)=(i==j):=by
 rw[abt]
 simp
theorem qz{i j:Array UInt8}:decide (V.Hq i=V.Hq j)=(i.toList==j.toList):=by
 rw[abt]
 cases i
 cases j
 simp
theorem aM{Q:VK}{k k':Bool}(I:Inv X pins σ H s)(q:Q (.bl k) H)(e:k=k'):EP X pins σ Q (.bool k') s:=by
 subst e
 exact⟨.bl k,H,I,rfl,q⟩
theorem zy:AK X (aaV .Eq) S9:=by
 intro pins s σ H x y v u Q I rx ry h
 obtain⟨hs,q⟩:=h
 cases x with
 |rW=>
  cases rx
  cases y with
  |rW=>cases ry;exact PySem.EqNone.eq_none_none (aM I q (by simp))
  |bl j=>cases ry;exact PySem.EqNone.eq_none_bool (aM I q (by simp))
  |int j=>obtain⟨t',rfl⟩:=ry;exact PySem.EqNone.eq_none_int (aM I q (by simp))
  |str j=>obtain⟨t',rfl⟩:=ry;exact PySem.EqNone.eq_none_str (aM I q (by simp))
  |_=>exact absurd (show false=true from hs) aaB
 |bl i=>
  cases rx
  cases y with
  |rW=>cases ry;exact PySem.EqNone.eq_bool_none (aM I q (by simp))
  |bl j=>cases ry;exact eq_bool (aM I q tI)
  |str j=>obtain⟨t',rfl⟩:=ry;exact PySem.EqMixed.eq_bool_str (aM I q (by simp))
  |_=>exact absurd (show false=true from hs) aaB
 |int i=>
  obtain⟨t,rfl⟩:=rx
  cases y with
  |rW=>cases ry;exact PySem.EqNone.eq_int_none (aM I q (by simp))
  |int j=>obtain⟨t',rfl⟩:=ry;exact eq_int (aM I q qy)
  |str j=>obtain⟨t',rfl⟩:=ry;exact PySem.EqMixed.eq_int_str (aM I q (by simp))
  |_=>exact absurd (show false=true from hs) aaB
 |str i=>
  obtain⟨t,rfl⟩:=rx
  cases y with
  |rW=>cases ry;exact PySem.EqNone.eq_str_none (aM I q (by simp))
  |bl j=>cases ry;exact PySem.EqMixed.eq_str_bool (aM I q (by simp))
  |int j=>obtain⟨t',rfl⟩:=ry;exact PySem.EqMixed.eq_str_int (aM I q (by simp))
  |str j=>obtain⟨t',rfl⟩:=ry;exact eq_str (aM I q qx)
  |_=>exact absurd (show false=true from hs) aaB
 |Hq i=>
  obtain⟨t,rfl⟩:=rx
  cases y with
  |Hq j=>obtain⟨t',rfl⟩:=ry;exact PySem.W.eq_bytes (aM I q qz)
  |_=>exact absurd (show false=true from hs) aaB
 |_=>cases y<;>exact absurd (show false=true from hs) aaB
theorem zu:AK X (aaV .NotEq) PM:=by
 intro pins s σ H x y v u Q I rx ry h
 obtain⟨hs,q⟩:=h
 cases x with
 |rW=>
  cases rx
  cases y with
  |rW=>cases ry;exact PySem.EqNone.ne_none_none (aM I q (by simp))
  |bl j=>cases ry;exact PySem.EqNone.ne_none_bool (aM I q (by simp))
  |int j=>obtain⟨t',rfl⟩:=ry;exact PySem.EqNone.ne_none_int (aM I q (by simp))
  |str j=>obtain⟨t',rfl⟩:=ry;exact PySem.EqNone.ne_none_str (aM I q (by simp))
  |_=>exact absurd (show false=true from hs) aaB
 |bl i=>
  cases rx
  cases y with
  |rW=>cases ry;exact PySem.EqNone.ne_bool_none (aM I q (by simp))
  |bl j=>cases ry;exact ne_bool (aM I q (congrArg not tI))
  |str j=>obtain⟨t',rfl⟩:=ry;exact PySem.EqMixed.ne_bool_str (aM I q (by simp))
  |_=>exact absurd (show false=true from hs) aaB
 |int i=>
  obtain⟨t,rfl⟩:=rx
  cases y with
  |rW=>cases ry;exact PySem.EqNone.ne_int_none (aM I q (by simp))
  |int j=>obtain⟨t',rfl⟩:=ry;exact ne_int (aM I q (congrArg not qy))
  |str j=>obtain⟨t',rfl⟩:=ry;exact PySem.EqMixed.ne_int_str (aM I q (by simp))
  |_=>exact absurd (show false=true from hs) aaB
 |str i=>
  obtain⟨t,rfl⟩:=rx
  cases y with
  |rW=>cases ry;exact PySem.EqNone.ne_str_none (aM I q (by simp))
  |bl j=>cases ry;exact PySem.EqMixed.ne_str_bool (aM I q (by simp))
  |int j=>obtain⟨t',rfl⟩:=ry;exact PySem.EqMixed.ne_str_int (aM I q (by simp))
  |str j=>obtain⟨t',rfl⟩:=ry;exact ne_str (aM I q (congrArg not qx))
  |_=>exact absurd (show false=true from hs) aaB
 |Hq i=>
  obtain⟨t,rfl⟩:=rx
  cases y with
  |Hq j=>obtain⟨t',rfl⟩:=ry;exact PySem.W.ne_bytes (aM I q (congrArg not qz))
  |_=>exact absurd (show false=true from hs) aaB
 |_=>cases y<;>exact absurd (show false=true from hs) aaB
theorem zv:AK X (aaV .Lt) (Gj λi j=>.bl (decide (i<j))):=Jn λ_ _ _ _ _ _ _ q=>lt_int q
theorem zw:AK X (aaV .LtE) (Gj λi j=>.bl (decide (i<=j))):=Jn λ_ _ _ _ _ _ _ q=>le_int q
theorem vJ:AK X (aaV .Gt) (Gj λi j=>.bl (decide (j<i))):=Jn λ_ _ _ _ _ _ _ q=>gt_int q
theorem zx:AK X (aaV .GtE) (Gj λi j=>.bl (decide (j<=i))):=Jn λ_ _ _ _ _ _ _ q=>ge_int q
theorem su:AK X (aaV .Lt) (λx y H Q=>∃i j,x=.str i/\y=.str j/\Q (.bl (decide (i.cps.toList<j.cps.toList))) H):=by
 intro pins s σ H x y v u Q I rx ry h
 obtain⟨i,j,rfl,rfl,q⟩:=h
 obtain⟨t,rfl⟩:=rx
 obtain⟨t',rfl⟩:=ry
 exact lt_str (aM I q rfl)
theorem sw:AK X (aaV .In) (λx y H Q=>∃i j,x=.str i/\y=.str j/\Q (.bl (!(ada j i 0 j.length 1).isEmpty)) H):=by
 intro pins s σ H x y v u Q I rx ry h
 obtain⟨i,j,rfl,rfl,q⟩:=h
 obtain⟨t,rfl⟩:=rx
 obtain⟨t',rfl⟩:=ry
 exact in_str (aM I q rfl)
theorem yy:AK X (aaV .Is) (λx y H Q=>y=.rW/\Q (.bl (decide (x=.rW))) H):=by
 intro pins s σ H x y v u Q I rx ry h
 obtain⟨rfl,q⟩:=h
 cases ry
 refine is_none_gen (aM I q ?_)
 cases x<;>first
  |(cases rx;rfl)
  |(obtain⟨t,rfl⟩:=rx;rfl)
variable{op:CmpOp}
theorem C9(b:Expr)(h:op≠.In:=by decide)(h2:op≠.NotIn:=by decide):acG op b=false:=by
 have e1:(op==CmpOp.In)=false:=by cases op<;>first|rfl|exact absurd rfl h
 have e2:(op==CmpOp.NotIn)=false:=by cases op<;>first|rfl|exact absurd rfl h2
 cases b<;>simp[acG,e1,e2]
theorem qg(ho:AK X (aaV op) r)(ha:PE X a ta)(hb:PE X b tb)(hm:acG op b=false):PE X (.Compare a [op] [b] pos) (DB r ta tb):=by
 intro pins s σ H Q I h
 exact wpAny_Compare1 (LU ha hb I h λv u s2 x y H2 I2 rx ry q=>ho pins s2 σ H2 x y v u Q I2 rx ry q) hm
def GY(t:TE):TT:=λσ H Q=>t σ H λx H'=>∃k,x=.bl k/\Q k H'
theorem gf(ho:AK X (aaV op) r)(ha:PE X a ta)(hb:PE X b tb)(hm:acG op b=false):PT X (.Compare a [op] [b] pos) (GY (DB r ta tb)):=by
 intro pins s σ H Q I h
 refine wpAny_isTrue_Compare1 (Aw (ha pins s σ H _ I h) λv s1 ⟨x,H1,I1,r1,q1⟩=>Aw (hb pins s1 σ H1 _ I1 q1) λu s2 ⟨y,H2,I2,r2,q2⟩=>
  Aw (ho pins s2 σ H2 x y v u _ I2 r1 r2 q2) λc s3 ⟨z,H3,I3,r3,k,e,q3⟩=>?_) hm
 subst e
 cases r3
 exact ab1 ⟨H3,I3,q3⟩
def Ga(r r':R2)(ta tb tc:TE):TE:=λσ H Q=>ta σ H λx H1=>tb σ H1 λy H2=>r x y H2 λz H3=>∃k,z=.bl k /\
 (if k=true then tc σ H3 λw' H4=>r' y w' H4 Q else Q (.bl false) H3)
variable{r':R2}
theorem uy{Gk:CmpOp}(ho:AK X (aaV op) r)(DN:AK X (aaV Gk) r')(ha:PE X a ta)(hb:PE X b tb)(hc:PE X c tc)
  (hm:lastMarks [op,Gk] [b,c]=false:=by with_unfolding_all rfl):PE X (.Compare a [op,Gk] [b,c] pos) (Ga r r' ta tb tc):=by
 intro pins s σ H Q I h
 refine Compare_chain (Aw (ha pins s σ H _ I h) λv s1 ⟨x,H1,I1,r1,q1⟩=>chain_link (Aw (hb pins s1 σ H1 _ I1 q1) λu s2 ⟨y,H2,I2,r2,q2⟩=>
  Aw (ho pins s2 σ H2 x y v u _ I2 r1 r2 q2) λd s3 ⟨z,H3,I3,r3,k,e,q3⟩=>?_)) hm
 subst e
 cases r3
 refine ab1 ?_
 cases k with
 |false=>exact ite_ff ⟨.bl false,H3,I3,rfl,q3⟩
 |true=>exact ite_tt (chain_last (Aw (hc pins s3 σ H3 _ I3 q3) λw' s4 ⟨z',H4,I4,r4,q4⟩=>DN pins s4 σ H4 y z' u w' Q I4 r2 r4 q4))
theorem ug{Gk:CmpOp}(ho:AK X (aaV op) r)(DN:AK X (aaV Gk) r')(ha:PE X a ta)(hb:PE X b tb)(hc:PE X c tc)
  (hm:lastMarks [op,Gk] [b,c]=false:=by with_unfolding_all rfl):PT X (.Compare a [op,Gk] [b,c] pos) (GY (Ga r r' ta tb tc)):=by
 intro pins s σ H Q I h
 refine isTrue_chain (Aw (ha pins s σ H _ I h) λv s1 ⟨x,H1,I1,r1,q1⟩=>test_link (Aw (hb pins s1 σ H1 _ I1 q1) λu s2 ⟨y,H2,I2,r2,q2⟩=>
  Aw (ho pins s2 σ H2 x y v u _ I2 r1 r2 q2) λd s3 ⟨z,H3,I3,r3,k,e,q3⟩=>?_)) hm
 subst e
 cases r3
 refine ab1 ?_
 cases k with
 |false=>
  obtain⟨k',e',q'⟩:=q3
  cases e'
  exact ite_ff ⟨H3,I3,q'⟩
 |true=>
  refine ite_tt (test_last (Aw (hc pins s3 σ H3 _ I3 q3) λw' s4 ⟨z',H4,I4,r4,q4⟩=>Aw (DN pins s4 σ H4 y z' u w' _ I4 r2 r4 q4) λd' s5 ⟨z2,H5,I5,r5,k2,e2,q5⟩=>?_))
  subst e2
  cases r5
  exact ab1 ⟨H5,I5,q5⟩
def N1(K:aah)(x:V)(H:Hp)(k:Bool):Prop :=
 match x with
 |.rW=>k=false
 |.bl b=>k=b
 |.int i=>k=(i != 0)
 |.str y=>y.length<=sizeLine/\k=((y.length:Int) != 0)
 |.Hq y=>y.size<=sizeLine/\k=((y.size:Int) != 0)
 |.ref p=>(∃xs,Bs K H p xs/\k=!xs.isEmpty)\/(∃xs,AW K H p xs/\k=!xs.isEmpty)\/∃kvs,H p=some (.dK kvs)/\k=!kvs.isEmpty
 |_=>False
theorem qV{κ:Type}{kvs:List (κ×V)}{vs:List (κ×Value)}(r:KV kvs vs):(!vs.isEmpty)=!kvs.isEmpty:=by
 cases r<;>rfl
variable{iD:List Value}
theorem lw(r:zP xs iD):(!iD.toArray.isEmpty)=!xs.isEmpty:=by
 cases r<;>simp
theorem CO:(sizeLine:Nat)<2 ^ 63:=by rw[aaz];decide
theorem xX:Rg X (λx H Q=>∃k,N1 X.K x H k/\Q k H):=by
 intro pins s σ H x v Q I rx h
 obtain⟨k,e,q⟩:=h
 have hl:=CO
 have hs:sizeLine=16777216:=aaz
 cases x with
 |rW=>
  cases rx
  have e':k=false:=e
  subst e'
  exact truthy_none ⟨H,I,q⟩
 |bl b=>
  cases rx
  have e':k=b:=e
  subst e'
  exact ab1 ⟨H,I,q⟩
 |int i=>
  obtain⟨t,rfl⟩:=rx
  have e':k=(i != 0):=e
  subst e'
  exact PySem.P.truthy_int ⟨H,I,q⟩
 |str y=>
  obtain⟨t,rfl⟩:=rx
  obtain⟨hy,e'⟩:y.length<=sizeLine/\k=((y.length:Int) != 0):=e
  subst e'
  exact PySem.P.truthy_str (by omega) ⟨H,I.tok _,q⟩
 |Hq y=>
  obtain⟨t,rfl⟩:=rx
  obtain⟨hy,e'⟩:y.size<=sizeLine/\k=((y.size:Int) != 0):=e
  subst e'
  exact PySem.W.truthy_bytes (by omega) ⟨H,I.tok _,q⟩
 |ref p=>
  cases rx
  have e':(∃xs,Bs X.K H p xs/\k=!xs.isEmpty)\/(∃xs,AW X.K H p xs/\k=!xs.isEmpty)\/∃kvs,H p=some (.dK kvs)/\k=!kvs.isEmpty:=e
  rcases e' with ⟨xs,hx,e'⟩|⟨xs,hx,e'⟩|⟨kvs,hx,e'⟩
  ·subst e'
   obtain⟨iD,r,pl,hz⟩:=I.list hx
   have hlen:=r.length
   exact wpAny_truthy_list pl.isList (by simp only[aag];omega) ⟨H,I.tok _,by rw[lw r];exact q⟩
  ·subst e'
   obtain⟨iD,r,pl,hz⟩:=I.tuple hx
   have hlen:=r.length
   exact truthy_tuple pl (by simp only[aag];omega) ⟨H,I.tok _,by rw[lw r];exact q⟩
  ·subst e'
   obtain⟨hz,hS,vs,r,m⟩:kvs.length<=sizeLine/\(p==acx)=false/\∃vs,KV kvs vs/\s.heap.DictOf (aN X.prog X.w) p vs:=I.zY p _ hx
   have hlen:kvs.length=vs.length:=ae1 r
   exact wpAny_truthy_dict hS m (by omega) ⟨H,I.tok _,by rw[qV r];exact q⟩
 |_=>exact(show False from e).elim
theorem uf(ha:PE X a ta)(he:∀whole,isTrue a X.env whole=(do let v <- whole;standAt a.pos;ad3 [v] (truthy v))):
  PT X a (λσ H Q=>ta σ H λx H'=>∃k,N1 X.K x H' k/\Q k H'):=by
 intro pins s σ H Q I h
 exact isTrue_plain (Aw (ha pins s σ H _ I h) λv s1 ⟨x,H1,I1,r1,q1⟩=>xX pins s1 σ H1 x v Q I1 r1 q1) (he _)
theorem qS:AK X (acq .Add) (λx y H Q=>∃i j,x=.str i/\y=.str j/\i.length+j.length<=sizeLine/\Q (.str (i++j)) H):=by
 intro pins s σ H x y v u Q I rx ry h
 obtain⟨i,j,rfl,rfl,hz,q⟩:=h
 obtain⟨t,rfl⟩:=rx
 obtain⟨t',rfl⟩:=ry
 exact add_str (λt' tk=>⟨.str (i++j),H,I.tok _,⟨_,rfl⟩,q⟩) hz
theorem vals1{x:V}(r:zP [x] us):∃u,us=[u]/\RelV x u:=by
 cases r with
 |cons r1 r2=>cases r2;exact⟨_,rfl,r1⟩
theorem vals2{x:V}(r:zP [x,y] us):∃u w',us=[u,w']/\RelV x u/\RelV y w':=by
 cases r with
 |cons r1 r2=>
  cases r2 with
  |cons r3 r4=>cases r4;exact⟨_,_,rfl,r1,r3⟩
theorem pq:zZ X (.builtin "abs") (λxs H Q=>∃i,xs=[.int i]/\Q (.int (if i<0 then -i else i)) H):=by
 intro pins s σ H xs us Q I r h
 obtain⟨i,rfl,q⟩:=h
 obtain⟨u,rfl,t,rfl⟩:=vals1 r
 exact call_abs_int λu tk=>⟨.int (if i<0 then -i else i),H,I.tok _,⟨_,rfl⟩,q⟩
theorem tR(hc:X.calm=true):zZ X (.builtin "max") (λxs H Q=>∃i j,xs=[.int i,.int j]/\Q (.int (if j > i then j else i)) H):=by
 intro pins s σ H xs us Q I r h
 obtain⟨i,j,rfl,q⟩:=h
 obtain⟨u,w',rfl,⟨t,rfl⟩,⟨t',rfl⟩⟩:=vals2 r
 refine max_two_ints (I.ok.hd hc) λh' tk k=>⟨_,H,I.kept k,?_,q⟩
 by_cases hj:j > i
 ·rw[if_pos hj,if_pos hj];exact⟨_,rfl⟩
 ·rw[if_neg hj,if_neg hj];exact⟨_,rfl⟩
theorem tQ(hc:X.calm=true):zZ X (.builtin "min") (λxs H Q=>∃i j,xs=[.int i,.int j]/\Q (.int (if j<i then j else i)) H):=by
 intro pins s σ H xs us Q I r h
 obtain⟨i,j,rfl,q⟩:=h
 obtain⟨u,w',rfl,⟨t,rfl⟩,⟨t',rfl⟩⟩:=vals2 r
 refine min_two_ints (I.ok.hd hc) λh' tk k=>⟨_,H,I.kept k,?_,q⟩
 by_cases hj:j<i
 ·rw[if_pos hj,if_pos hj];exact⟨_,rfl⟩
 ·rw[if_neg hj,if_neg hj];exact⟨_,rfl⟩
structure LW(h:Heap)(x dx C:Addr)(mA:Str->Option Value):Prop where
 obj:h.get? x=some (afK C dx)
 ns:h.Ns1 dx mA
 ne:dx≠x
theorem sD{dx:Addr}{mA:Str->Option Value}(n:h.Ns1 dx mA):∃od,h.get? dx=some od/\∀name,afV name od=some (mA name):=by
 obtain⟨o,es,ep,ho,hd,hk,_,hm⟩:=n
 refine⟨o,ho,λname=>?_⟩
 have e:=hm name
 unfold nsFind findBy at e
 rw[<- Array.find?_toList]at e
 unfold afV
 rw[hd]
 dsimp only
 split
 ·rename_i y q
  rw[q]at e
  exact congrArg some e
 ·rename_i q
  rw[q]at e
  have a:es.toList.any (·.refKey)=false:=by
   rw[List.any_eq_false]
   intro y hy
   obtain⟨z,t,FE⟩:=hk y (Array.mem_toList_iff.mp hy)
   simp[DictEntry.refKey,FE]
  have a':¬ es.toList.any (·.refKey)=true:=by rw[a];exact aaB
  rw[if_neg a']
  exact congrArg some e
variable{C:Addr}
theorem LW.look{dx:Addr}{mA:Str->Option Value}(I:LW h x dx C mA):∃od,PySem.W.InstAt h x (afK C dx) C (some od)/\∀name,afV name od=some (mA name) :=
 let ⟨od,ho,hl⟩:=sD I.ns
 ⟨od,⟨I.obj,rfl,rfl,ho⟩,hl⟩
variable{prog:aaI}{dx f:Addr}{mA:Str->Option Value}{name:Str}{v:Value}
theorem Dq.some_of{v:V}{o:Option Value}(r:Dq (some v) o):∃u,o=some u/\RelV v u:=by
 cases o with
 |none=>exact(show False from r).elim
 |some u=>exact⟨u,rfl,r⟩
section
variable{a:Addr}{fs UJ:List (Str×V)}
theorem xm(zY:CD P w H h)(e:H a=some (.ins C dx fs)):∃mA,LW h a dx C mA/\(∀f,Dq (fs.lookup f) (mA f))/\PySem.Within mA (fs.map (·.1))/\fs.length<=1000/\H dx=some (.own a):=by
 obtain⟨d,z,ne,ob,mA,n,r,q⟩:=(show Af P w H h a (.ins C dx fs)from zY a _ e)
 exact⟨mA,⟨ob,n,ne⟩,r,q,z,d⟩
end
structure Rt(K:aah)(C:Addr):Prop where
 pg:PySem.W.plainGet K C aeZ=true
 hd:PySem.W.hasDictIn K C=true
 po:PySem.W.plainOver K C=true
 sa:PySem.W.findIn K (.ref C) "__setattr__" = some (some (.builtin "object.__setattr__"))
theorem Rt.get(c:Rt K C)(f:Str):PySem.W.plainGet K C f=true:=c.pg
section
variable{a:Addr}{fs:List (Str×V)}{f:Str}{v:V}
end
variable{o value:Expr}{f:Str}{ER:Pos}{tv:TE}
variable{Q:Value->Shared->Prop}{c:Value}{b:Bool}
inductive Dp (K:aah) (H:Hp):V->Value->Prop where
 |rW:Dp K H .rW (.type "NoneType")
 |bl (x:Bool):Dp K H (.bl x) (.type "bool")
 |int (i:Int):Dp K H (.int i) (.type "int")
 |str (x:Str):Dp K H (.str x) (.type "str")
 |Mk (x:UInt64):Dp K H (.Mk x) (.type "float")
 |lst {a:Addr} {xs:List V} (e:H a=some (.lst xs)):Dp K H (.ref a) (.type "list")
 |CB {a:Addr} {o:Obj} {xs:List V} (e:H a=some (.CB o (.lst xs))):Dp K H (.ref a) (.type "list")
 |tup {a:Addr} {xs:List V} (e:H a=some (.tup xs)):Dp K H (.ref a) (.type "tuple")
 |dK {a:Addr} {kvs:List (Key×V)} (e:H a=some (.dK kvs)):Dp K H (.ref a) (.type "dict")
 |dT {a:Addr} {kvs:List (List Key×V)} (e:H a=some (.dT kvs)):Dp K H (.ref a) (.type "dict")
 |ins {a C dx:Addr} {fs:List (Str×V)} (e:H a=some (.ins C dx fs)) (cl:Rt K C) (ha:PySem.W.findIn K (.ref C) "__class__" = some (some (.builtin "object.__class__")))
   (hn:PySem.W.specialIn K (.builtin "object.__class__") "__get__" = some (some (.builtin "getset_descriptor.__get__"))) (OI:PySem.W.takesIn K (.builtin "object.__class__")=some true)
   (hm:PySem.W.mroIn K C (.type "object")=some true):Dp K H (.ref a) (.ref C)
theorem sN{x:V}{u t:Value}(I:Inv X pins σ H s)(rx:RelV x u)(ty:Dp X.K H x t)(e:aeH X.K t c=some b)(h:∀tk,Q (.bool b) {s with toks:=tk}):
  wpAny (model X.prog X.w) A (call (.builtin "isinstance") [u,c]) Q E s:=by
 cases ty with
 |rW=>cases (show u=aa6 from rx);exact abw PySem.W.kitx_none I.Ex acH e (λz=>nomatch z) h
 |bl y=>cases (show u=Value.bool y from rx);exact abw PySem.W.kitx_bool I.Ex acH e (λz=>nomatch z) h
 |int i=>obtain⟨t,q⟩:=(show ∃t,u=aeY i t from rx);cases q;exact abw PySem.W.kitx_int I.Ex acH e (λz=>nomatch z) h
 |str y=>obtain⟨t,q⟩:=(show ∃t,u=ab9 y t from rx);cases q;exact abw PySem.W.kitx_str I.Ex acH e (λz=>nomatch z) h
 |Mk y=>obtain⟨t,q⟩:=(show ∃t,u=Value.float y t from rx);cases q;exact abw PySem.W.kitx_float I.Ex acH e (λz=>nomatch z) h
 |@lst a xs ea=>
  cases (show u=aar a from rx)
  obtain⟨_,_,n,_,h1⟩:=(show Af X.prog X.w H s.heap a (.lst xs)from I.zY a _ ea)
  exact abw PySem.W.kitx_list I.Ex ⟨_,h1,rfl⟩ e (λz=>nomatch z) h
 |@CB a ob xs ea=>
  cases (show u=aar a from rx)
  obtain⟨_,_,_,n,_,h1⟩:=(show Af X.prog X.w H s.heap a (.CB ob (.lst xs))from I.zY a _ ea)
  exact abw PySem.W.kitx_list I.Ex ⟨_,h1,rfl⟩ e (λz=>nomatch z) h
 |@tup a xs ea=>
  cases (show u=aar a from rx)
  obtain⟨_,_,_,p⟩:=(show Af X.prog X.w H s.heap a (.tup xs)from I.zY a _ ea)
  obtain⟨o,h1,h2,_⟩:=p
  exact abw PySem.W.kitx_tuple I.Ex ⟨o,h1,h2⟩ e (λz=>nomatch z) h
 |@dK a kvs ea=>
  cases (show u=aar a from rx)
  obtain⟨_,_,vs,_,p⟩:=(show Af X.prog X.w H s.heap a (.dK kvs)from I.zY a _ ea)
  obtain⟨o,es,ep,h1,h2,_⟩:=p
  exact abw PySem.W.kitx_dict I.Ex ⟨o,h1,h2.1⟩ e (λz=>nomatch z) h
 |@dT a kvs ea=>
  cases (show u=aar a from rx)
  obtain⟨_,_,xs,_,o,es,ep,h1,h2,_⟩:=(show Af X.prog X.w H s.heap a (.dT kvs)from I.zY a _ ea)
  exact abw PySem.W.kitx_dict I.Ex ⟨o,h1,h2.1⟩ e (λz=>nomatch z) h
 |@ins a C dx fs ea cl ha hn OI hm=>
  cases (show u=aar a from rx)
  obtain⟨mA,O,_⟩:=xm I.zY ea
  obtain⟨od,J,_⟩:=O.look
  exact abw (PySem.W.kitx_own (cl.get _) cl.hd ha hn OI hm) I.Ex J e (λz=>nomatch z) h
structure AB(k:Nat)(A:Around):Prop where
 hd:A.handled=none
 dp:A.depth+3*k+5<recursionLimit
 un:A.units+16*k+200<cLine
 gd:A.guards=some []
theorem AB.mono(r:AB k A)(h:j<=k):AB j A:=⟨r.hd,by have:=r.dp;omega,by have:=r.un;omega,r.gd⟩
theorem AB.deeper(r:AB (k+1) A)(env:Env):AB k (A.deeper env) :=
 ⟨r.hd,by have:=r.dp;show A.depth+1+3*k+5<_;omega,by have:=r.un;show A.units+3+16*k+200<_;omega,r.gd⟩
theorem AB.depth(r:AB k A):A.depth<recursionLimit:=by have:=r.dp;omega
theorem AB.Kp(r:AB k A):A.units<cLine:=by have:=r.un;omega
def Ku:TA:=λ_ H Q=>Q [] H
def JT(ta:TE)(tr:TA):TA:=λσ H Q=>ta σ H λx H1=>tr σ H1 λxs H2=>Q (x::xs) H2
variable{t:TA}
theorem bN:PA X [] Ku:=λ_ _ _ _ H Q I h=>Calls.spliced_nil ⟨[],H,I,.nil,h⟩
theorem bu(ha:PE X e te)(hr:PA X es t)(hs:aam (e::es) X.env=(false,eval e X.env)::aam es X.env:=by rfl):PA X (e::es) (JT te t):=by
 intro pos pins s σ H Q I h
 rw[hs]
 show wpAny _ _ (spliced ((false,eval e X.env)::backTo pos (aam es X.env))) _ _ s
 refine Calls.spliced_cons (Aw (ha pins s σ H _ I h) λu s1 ⟨x,H1,I1,r1,q1⟩=>?_)
 exact Aw (hr pos pins s1 σ H1 _ I1 q1) λus s2 ⟨xs,H2,I2,r2,q2⟩=>⟨x::xs,H2,I2,.cons r1 r2,q2⟩
def Pq(t:TA):TE:=λσ H Q=>t σ H λxs H1=>xs.length<=sizeLine/\∀p,H1 p=none->Q (.ref p) (upd H1 p (.tup xs))
def Mz(t:TA):TE:=λσ H Q=>t σ H λxs H1=>xs.length<=sizeLine/\∀p,H1 p=none->Q (.ref p) (upd H1 p (.lst xs))
theorem yk{x1}(h:PA X es t):PE X (.Tuple es x1 pos) (Pq t):=by
 intro pins s σ H Q I hq
 refine wpAny_Tuple_spliced (Aw (h pos pins s σ H _ I hq) λus s1 ⟨xs,H1,I1,r,z,q⟩=>⟨by rw[<- r.length];exact z,?_⟩)
 have hf:H1 s1.heap.objs.size=none:=I1.zY.fresh (aak _)
 refine⟨.ref s1.heap.objs.size,upd H1 s1.heap.objs.size (.tup xs),I1.laid (t':=s1.toks) (λb u e=>aac _ e) (aak _) ?_,rfl,q _ hf⟩
 exact⟨z,us,r,⟨_,aai _ rfl,rfl,_,rfl⟩⟩
theorem lg(h:PA X es t):PE X (.List es pos) (Mz t):=by
 intro pins s σ H Q I hq
 refine wpAny_List_spliced (Aw (h pos pins s σ H _ I hq) λus s1 ⟨xs,H1,I1,r,z,q⟩=>⟨by rw[<- r.length];exact z,?_⟩)
 have hf:H1 s1.heap.objs.size=none:=I1.zY.fresh (aak _)
 refine⟨.ref s1.heap.objs.size,upd H1 s1.heap.objs.size (.lst xs),I1.laid (t':=s1.toks) (λb u e=>aac _ e) (aak _) ?_,rfl,q _ hf⟩
 exact⟨z,us,0,r,aai _ rfl⟩
abbrev Sp:=List V->Hp->VK->XK->Prop
abbrev Mo:=List Env->Hp->Shared->XK->Value->Shared->Prop
structure JN(P:aaI)(w:World)(K:aah)(mg:Str->Option Value)(base:Heap)(A:Around)(outer:List Env)(s:Shared)(H:Hp):Prop where
 frames:A.frames=some outer
 mod:Mod K mg base
 bs:∀b o,base.get? b=some o->s.heap.get? b=some o/\H b=none
 Kc:base.objs.size<=s.heap.objs.size
 D9:s.heap.FunFrames base outer
 Mj:∀b∈Iw outer,H b=none
 zY:CD P w H s.heap
 bare:aeS s.gens
def CE(outer:List Env)(P:aaI)(w:World)(H:Hp)(s:Shared)(Q:VK)(u:Value)(s':Shared):Prop :=
 ∃v H',s'.os=s.os/\aeS s'.gens/\Un (Iw outer) [] H H' s.heap s'.heap/\CD P w H' s'.heap/\RelV v u/\Q v H'
def CR(CX:Mo)(outer:List Env)(P:aaI)(w:World)(H:Hp)(s:Shared)(Q:VK)(E:XK)(r:Result)(s':Shared):Prop :=
 match r with
 |.ok (.ret u)=>CE outer P w H s Q u s'
 |.ok _=>False
 |.error e=>CX outer H s E e s'
structure Ae(P:aaI)(w:World)(K:aah)(mg:Str->Option Value)(base:Heap)(CX:Mo)(k:Nat)(f:Addr)(fd:abR)(ps:List Str)(sp:Sp):Prop where
 len:∀vs H Q E,sp vs H Q E->vs.length=ps.length
 run:∀(A:Around) (outer:List Env) (s:Shared) (H:Hp) (args:Args) (us:List Value) (vs:List V) (Q:VK) (E:XK),AB k A->JN P w K mg base A outer s H->BindsTo s fd args (ps.zip us)->zP vs us->sp vs H Q E ->
  ad5 (model P w) A (.call (.ref f) args) (CR CX outer P w H s Q E) s
variable{mg:Str->Option Value}{base:Heap}{CX:Mo}{fd:abR}{ps:List Str}{sp:Sp}
theorem Ae.mono{f:Addr}(F:Ae P w K mg base CX j f fd ps sp)(h:j<=k):
  Ae P w K mg base CX k f fd ps sp:=⟨F.len,λA outer s H args us vs Q E hr=>F.run A outer s H args us vs Q E (hr.mono h)⟩
theorem Ae.imp{f:Addr}{RD:Sp}(F:Ae P w K mg base CX k f fd ps sp)
  (h:∀vs H Q E,RD vs H Q E->sp vs H Q E):Ae P w K mg base CX k f fd ps RD :=
 ⟨λvs H Q E q=>F.len vs H Q E (h _ _ _ _ q),λA outer s H args us vs Q E hr he hb hv hs=>F.run A outer s H args us vs Q E hr he hb hv (h _ _ _ _ hs)⟩
theorem Inv.Q7(I:Inv X pins σ H s):JN X.prog X.w X.K X.mg X.base X.A X.stack s H :=
 ⟨I.ok.frames,I.ok.mod,I.bs,aa2 I.ok.Kc I.sz,I.stack,I.GZ,I.zY,I.bare⟩
theorem Inv.after{Q:VK}{u:Value}(I:Inv X pins σ H s)(h:CE X.stack X.prog X.w H s Q u s'):EP X pins σ Q u s':=by
 obtain⟨v,H',os,bare,un,zY,r,q⟩:=h
 obtain⟨hh,g,d,t,PU⟩:=s'
 obtain rfl:PU=s.os:=os
 exact⟨v,H',I.call (h':=hh) (g':=g) (d':=d) (t':=t) (ch:=[]) un zY bare (λb z=>absurd z (by simp)),r,q⟩
def MC(sp:Sp)(Ka:List V)(E:XK)(t:TA):TE:=λσ H Q=>t σ H λvs H1=>sp (vs++Ka) H1 Q E
def Binds(K:aah)(fd:abR)(ps:List Str)(ds:List Value):Prop :=
 ∀(s:Shared) (us:List Value),K.In s.heap->(us++ds).length=ps.length->BindsTo s fd ⟨us,[]⟩ (ps.zip (us++ds))
theorem Binds.all(h:∀us:List Value,us.length=ps.length->adj fd ⟨us,[]⟩=pure (ps.zip us)):Binds K fd ps []:=λs us _ hl=>by
 rw[aby]at hl ⊢
 exact .of_eq (h us hl)
def Fi(CX:Mo)(X:Cx)(E:XK):Prop:=∀(pins:List (Addr×Obj)) (σ:St) (H:Hp) (s:Shared) (e:Value) (s':Shared),Inv X pins σ H s->CX X.stack H s E e s'->X.xe e s'
variable{f:Addr}{Ka:List V}{ds:List Value}{E:XK}{x m:Str}{apos:Pos}
variable{vs:List V}
theorem rQ{Q:VK}(F:Ae X.prog X.w X.K X.mg X.base CX k f fd ps sp)(hr:AB k X.A)(hb:Binds X.K fd ps ds)(hd:zP Ka ds)(hx:Fi CX X E)
  (I:Inv X pins σ H s) (r:zP vs us) (h:sp (vs++Ka) H Q E):wpAny (model X.prog X.w) X.A (call (.ref f) us) (EP X pins σ Q) X.xe s:=by
 have r2:zP (vs++Ka) (us++ds):=r.append hd
 have hl:(us++ds).length=ps.length:=by rw[<- r2.length];exact F.len _ _ _ _ h
 refine wpAny_call (adH (F.run X.A X.stack s H ⟨us,[]⟩ (us++ds) (vs++Ka) Q E hr I.Q7 (hb s us I.Ex hl) r2 h) λr s' hq=>?_)
 cases r with
 |error e=>exact hx pins σ H s e s' I hq
 |ok fl=>
  cases fl with
  |ret u=>exact I.after hq
  |next=>exact ac0 hq
  |brk=>exact ac0 hq
  |cont=>exact ac0 hq
theorem jh(F:Ae X.prog X.w X.K X.mg X.base CX k f fd ps sp)(hr:AB k X.A)(hg:Gl X x)(hm:X.mg x=some (.ref f))(hk:abM X.K (.ref f)=true)(hb:Binds X.K fd ps ds)(hd:zP Ka ds)(hx:Fi CX X E)
  (ha:PA X (e::es) t) (C1:(x==("__debug__" : Str))=false:=by decide) (he:aam (e::es) X.env=(false,eval e X.env)::aam es X.env:=by rfl) (A5:(backTo pos (aam es X.env)).any (·.1)=false:=by rfl) :
  PE X (.Call (.Name x p) (e::es) [] pos) (MC sp Ka E t):=by
 intro pins s σ H Q I h
 refine ac2 (ml I hg hm ?_ C1)
 refine PySem.W.callWith_K (h₀:=X.base) I.ok.mod.kin hk (Aw (ha pos pins s σ H _ I h) λus s1 ⟨vs,H1,I1,r,q⟩=>⟨I1.Ex,?_⟩) he A5
 exact rQ F hr hb hd hx I1 r q
def PK(X:Cx)(Nd:List afi)(t:TA):Prop :=
 ∀(pos:Pos) (pins:List (Addr×Obj)) (s:Shared) (σ:St) (H:Hp) (Q:List V->Hp->Prop),Inv X pins σ H s->t σ H Q->wpAny (model X.prog X.w) X.A (evalAll ((backToKw pos (aeO Nd X.env)).map (·.2))) (AP X pins σ Q) X.xe s
variable{ks:List Str}{Hi:Pos}{Nd:List afi}{tk:TA}{nm:Option Str}
theorem ye:PK X [] Ku:=λ_ _ _ _ H Q I h=>wpAny_evalAll_nil ⟨[],H,I,.nil,h⟩
theorem wH(ha:PE X e te)(hr:PK X Nd t):PK X (⟨nm,e,Hi⟩::Nd) (JT te t):=by
 intro pos pins s σ H Q I h
 show wpAny _ _ (evalAll ((do let v <- eval e X.env;standAt pos;pure v)::(backToKw pos (aeO Nd X.env)).map (·.2))) _ _ s
 refine wpAny_evalAll_cons (aaa (Aw (ha pins s σ H _ I h) λu s1 ⟨x,H1,I1,r1,q1⟩=>aaa (acE (aaf ?_))))
 exact Aw (hr pos pins s1 σ H1 _ I1 q1) λus s2 ⟨xs,H2,I2,r2,q2⟩=>⟨x::xs,H2,I2,.cons r1 r2,q2⟩
variable{g:List Value->List Value->List Value}{gV:List V->List V->List V}
structure aB(N P:List Str)(sc:Scope):Prop where
 kind:sc.kind=.function
 co:sc.isCoroutine=false
 gen:sc.isGenerator=false
 nd:N.Nodup
 pre:N.take P.length=P
 par:∀x∈P,sc.names.lookup x=some .local\/sc.names.lookup x=some .cell
 nofree:∀y∈sc.names,y.2≠.free
variable{kindOf:Str->Option adI}
theorem np:∀{binds:List (Str×Value)} {m:Str->Option Value},(∀v,(x,v)∉binds)->bindL kindOf binds m x=m x
 |[],_,_=>rfl
 |(n,v)::r,m,h=>by
  unfold bindL
  rw[np λw hw=>h w (aaw _ hw)]
  split
  ·have:x≠n:=by rintro rfl;exact h v aay
   simp[this]
  ·rfl
theorem nr:∀{binds:List (Str×Value)} {m:Str->Option Value},(∀v,(x,v)∉binds)->bindC kindOf binds m x=m x
 |[],_,_=>rfl
 |(n,v)::r,m,h=>by
  unfold bindC
  rw[nr λw hw=>h w (aaw _ hw)]
  split
  ·rfl
  ·have:x≠n:=by rintro rfl;exact h v aay
   simp[this]
theorem nq:∀{P:List Str} {vs:List Value} {i:Nat} {m:Str->Option Value},P.Nodup->P[i]?=some x->vs[i]?=some v->kindOf x=some .local ->
  bindL kindOf (P.zip vs) m x=some v
 |[],_,_,_,_,h,_,_=>by simp at h
 |_::_,[],_,_,_,_,h,_=>by simp at h
 |p::P,w::vs,0,m,nd,h1,h2,hk=>by
  simp at h1 h2;subst h1;subst h2
  show bindL kindOf ((p,w)::P.zip vs) m p=_
  unfold bindL
  rw[np λv hv=>(List.nodup_cons.mp nd).1 (aet hv).1,if_pos hk]
  simp
 |p::P,w::vs,i+1,m,nd,h1,h2,hk=>by
  show bindL kindOf ((p,w)::P.zip vs) m x=_
  unfold bindL
  exact nq (i:=i) (List.nodup_cons.mp nd).2 (by simpa using h1) (by simpa using h2) hk
theorem nu:∀{P:List Str} {vs:List Value} {i:Nat} {m:Str->Option Value},P.Nodup->P[i]?=some x->vs[i]?=some v->kindOf x≠some .local ->
  bindC kindOf (P.zip vs) m x=some v
 |[],_,_,_,_,h,_,_=>by simp at h
 |_::_,[],_,_,_,_,h,_=>by simp at h
 |p::P,w::vs,0,m,nd,h1,h2,hk=>by
  simp at h1 h2;subst h1;subst h2
  show bindC kindOf ((p,w)::P.zip vs) m p=_
  unfold bindC
  rw[nr λv hv=>(List.nodup_cons.mp nd).1 (aet hv).1,if_neg hk]
  simp
 |p::P,w::vs,i+1,m,nd,h1,h2,hk=>by
  show bindC kindOf ((p,w)::P.zip vs) m x=_
  unfold bindC
  exact nu (i:=i) (List.nodup_cons.mp nd).2 (by simpa using h1) (by simpa using h2) hk
def start(N:List Str)(vs:List V):St:=vs.map some++aaK (N.length - vs.length) none
def EB(CX:Mo)(P:aaI)(w:World)(K:aah)(mg:Str->Option Value)(base:Heap)(N:List Str)(qual:Str)(scope:Scope)(f:Addr)(cd:Value)(A:Around)(outer:List Env)(s:Shared)(H:Hp)(E:XK):Cx where
 prog:=P
 w:=w
 K:=K
 mg:=mg
 base:=base
 A:=A.deeper (envOfC qual scope s.heap.objs.size f cd)
 N:=N
 s₀:=s
 H₀:=H
 env:=envOfC qual scope s.heap.objs.size f cd
 outer:=outer
 stack:=envOfC qual scope s.heap.objs.size f cd::outer
 ex:=[]
 calm:=true
 fn:=λ_=>true
 pn:=[]
 xe:=λe s'=>wpAny (model P w) (A.deeper (envOfC qual scope s.heap.objs.size f cd)) (leaving (envOfC qual scope s.heap.objs.size f cd) e) (λ_ KP=>CX outer H s E e KP) (λe' KP=>CX outer H s E e' KP) s'
theorem pc{sc:Scope}(h:sc.names.lookup x=some .cell):∃c,(cellsFrom n sc.names []).lookup x=some c:=by
 have q:=PySem.W.cellsFrom_some sc.names n [] (.inl h)
 exact Option.isSome_iff_exists.mp q
variable{qual:Str}{scope:Scope}
theorem sO{cd:Value}{outer:List Env}{s1:Shared}
  (S:aB N ps scope) (hd:A.handled=none) (e0:JN P w K mg base A outer s H) (hl:vs.length=ps.length) (r:zP vs us)
  (x:InCallC s s.heap.objs.size (bindL (envOfC qual scope s.heap.objs.size f cd).kindOf (ps.zip us) λ_=>none) (cellsFrom (s.heap.objs.size+1) scope.names []) (bindC (envOfC qual scope s.heap.objs.size f cd).kindOf (ps.zip us) λ_=>none) s1) :
  Inv (EB CX P w K mg base N qual scope f cd A outer s H E) [] (start N vs) H s1:=by
 have A5:ps.length<=N.length:=by have:=congrArg acb S.pre;rw[aa9]at this;omega
 obtain⟨h1,tk,rfl,hk⟩:=x.done
 have M4:∀b:Addr,b∉(EB CX P w K mg base N qual scope f cd A outer s H E).ex:=λb z=>absurd (show b∈([]:List Addr)from z) (by simp)
 refine⟨⟨e0.mod,S.kind,rfl,rfl,aak _,λy z c h1 h2=>?_,λy hy=>?_,λy c _ h=>?_,λ_=>hd,Around.frames_deeper e0.frames,.inr ⟨rfl,rfl⟩,λb z=>absurd z (M4 b),e0.bs,e0.Kc,λb _ _=>M4 b,λb z=>absurd z (M4 b),e0.D9,e0.Mj⟩,
  rfl,e0.bare,Un.kept hk,⟨_,x.toInCall.ns,λi y v h1 h2 h3=>?_⟩,λy c h=>⟨_,x.cell y c h⟩,e0.zY.fresh (aak _),λy c h=>?_,λp hp=>absurd (show p∈([]:List (Addr×Obj))from hp) (by simp),e0.zY.kept hk,?_⟩
 ·exact name_of_addr x.apart (ab4 h1) (ab4 h2)
 ·have hy:scope.names.lookup y=some .cell\/scope.names.lookup y=some .free:=hy
  rcases hy with hy|hy
  ·exact pc hy
  ·exact absurd rfl (S.nofree _ (ab4 hy))
 ·exact afn (x.above y c (ab4 h))
 ·have hi:i<vs.length:=by
   unfold start at h2
   by_cases hi:i<vs.length
   ·exact hi
   ·rw[adE (by simpa using hi)]at h2
    rw[List.getElem?_replicate]at h2
    split at h2<;>cases h2
  have ha:vs[i]?=some v:=by
   unfold start at h2
   rw[aaC (by simpa using hi),aal]at h2
   cases e:vs[i]? with
   |none=>rw[e]at h2;cases h2
   |some a=>rw[e]at h2;cases h2;rfl
  obtain⟨u,hu,rv⟩:=r.get ha
  have hp:ps[i]?=some y:=by
   rw[<- S.pre,List.getElem?_take_of_lt (by omega)];exact h1
  have RQ:ps.Nodup:=by rw[<- S.pre];exact S.nd.sublist (acI _ _)
  refine⟨u,rv,?_⟩
  rcases S.par y (abh hp)with k|k
  ·exact .inl ⟨k,nq RQ hp hu k⟩
  ·obtain⟨c,e⟩:=pc (n:=s.heap.objs.size+1) k
   refine .inr ⟨.inl k,c,e,?_⟩
   have q:=x.cell y c e
   rw[nu RQ hp hu (by show scope.names.lookup y≠_;rw[k];decide)]at q
   exact q
 ·exact e0.zY.fresh (afn (x.above y c (ab4 h)))
 ·unfold start
  show _=N.length
  rw[aat,aad,aca]
  omega
variable{pm:Value}
theorem vM{params:Arguments}{dV kV doc Ao ct oc:Value}{an od:Option Addr}
  {Jm:Array (Option Value)} {N ps:List Str} {sp:Sp} (lk:K.lookup f=some ⟨oc,od,.func (acZ name qual params body scope dV kV doc pm an Ao ct),Jm⟩) (hcd:aeI K Ao qual=true) (S:aB N ps scope)
  (len:∀vs H Q E,sp vs H Q E->vs.length=ps.length)
  (FG:∀(A:Around) (outer:List Env) (s:Shared) (H:Hp) (vs:List V) (Q:VK) (E:XK),AB k (A.deeper (envOfC qual scope s.heap.objs.size f Ao))->sp vs H Q E ->
   ∃t,GP (EB CX P w K mg base N qual scope f Ao A outer s H E) body t/\t {nx:=λ_ H'=>Q .rW H',rt:=Q} (start N vs) H) :
  Ae P w K mg base CX (k+1) f (acZ name qual params body scope dV kV doc pm an Ao ct) ps sp:=by
 refine⟨len,λA outer s H args us vs Q E hr e0 hb r IT=>?_⟩
 have hl:=len _ _ _ _ IT
 have KX:K.In s.heap:=e0.mod.kin.keeps λb o e=>(e0.bs b o e).1
 have lim:s.heap.NoLimit:=e0.mod.nolimit.keeps λb o e=>(e0.bs b o e).1
 have Au:∀y∈ps.zip us,scope.names.lookup y.1=some .local\/(scope.names.lookup y.1=some .cell/\((cellsFrom (s.heap.objs.size+1) scope.names []).lookup y.1).isSome=true):=λ⟨n,v⟩ hy=>by
  rcases S.par n (aet hy).1 with q|q
  ·exact .inl q
  ·exact .inr ⟨q,PySem.W.cellsFrom_some _ _ _ (.inl q)⟩
 refine codeAny_call_function hr.depth (KX _ _ lk) rfl S.co S.gen rfl (PySem.W.codeRec_of KX hcd) (hb _ _ _ _ ?_)
 refine wpAny_newFunctionEnv_cells S.kind Au λenv he s1 x=>?_
 subst he
 refine⟨lim.keeps x.toInCall.keep,codeAny_func ?_⟩
 obtain⟨t,ht,hq⟩:=FG A outer s H vs Q E (hr.deeper _) IT
 have I:Inv (EB CX P w K mg base N qual scope f Ao A outer s H E) [] (start N vs) H s1:=sO S hr.hd e0 hl r x
 refine aaL (ht [] s1 (start N vs) H _ I hq) (λfl s' hs=>?_) λe s' hs=>hs
 have fin:∀{σ':St} {H':Hp} {v:V} {u:Value},Inv (EB CX P w K mg base N qual scope f Ao A outer s H E) [] σ' H' s'->RelV v u->Q v H'->CE outer P w H s Q u s' :=
  λ{σ' H' v u} J rv q=>⟨v,H',J.os,J.bare,J.base,J.zY,rv,q⟩
 cases fl with
 |ret u=>
  obtain⟨v,σ',H',J,rv,q⟩:=hs
  exact fin J rv q
 |next=>
  obtain⟨σ',H',J,q⟩:=hs
  exact fin (v:=V.rW) (u:=aa6) J rfl q
 |brk=>
  obtain⟨_,_,_,q⟩:=hs
  exact ac0 q
 |cont=>
  obtain⟨_,_,_,q⟩:=hs
  exact ac0 q
variable{id T:String}{r:List V->Hp->VK->Prop}
def Om(r:List V->Hp->VK->Prop)(t:TA):TE:=λσ H Q=>t σ H λvs H1=>r vs H1 Q
theorem bE(hc:zZ X (.builtin id) r)(hg:Gl X x)(hm:X.mg x=none)(hv:acm x=some (.builtin id))(ha:PA X (e::es) t)(hn:x ≠ "__name__" :=by decide)(C1:(x==("__debug__" : Str))=false:=by decide)
  (he:aam (e::es) X.env=(false,eval e X.env)::aam es X.env:=by rfl) (A5:(backTo pos (aam es X.env)).any (·.1)=false:=by rfl):PE X (.Call (.Name x p) (e::es) [] pos) (Om r t):=by
 intro pins s σ H Q I h
 refine ac2 (gq I hg hm hv ?_ hn C1)
 exact PyProof.Rows.callWith_builtin1 (Aw (ha pos pins s σ H _ I h) λus s1 ⟨vs,H1,I1,r1,q1⟩=>hc pins s1 σ H1 vs us Q I1 r1 q1) he A5
theorem iM(hc:zZ X (.type T) r)(hg:Gl X x)(hm:X.mg x=none)(hv:acm x=some (.type T))(ha:PA X (e::es) t)(hn:x ≠ "__name__" :=by decide)(C1:(x==("__debug__" : Str))=false:=by decide)
  (he:aam (e::es) X.env=(false,eval e X.env)::aam es X.env:=by rfl) (A5:(backTo pos (aam es X.env)).any (·.1)=false:=by rfl):PE X (.Call (.Name x p) (e::es) [] pos) (Om r t):=by
 intro pins s σ H Q I h
 refine ac2 (gq I hg hm hv ?_ hn C1)
 exact adw (Aw (ha pos pins s σ H _ I h) λus s1 ⟨vs,H1,I1,r1,q1⟩=>hc pins s1 σ H1 vs us Q I1 r1 q1) he A5
end L2
namespace HT
open PySem PyProof.Rows
section
open PySem.SeqAt
open PySem.AutoSeq1 (wpAny_loadPart')
open PySem.MeetsSeq PySem.MeetsSeq2 PySem.MeetsSeq3
end
variable{prog:aaI}{w:World}{A:Around}{E:Value->Shared->Prop}{s:Shared}
theorem JG{t b:Addr}{vs ws:List Value}{Q:Value->Shared->Prop}(ht:IsTup s.heap t vs.toArray)(hb:IsTup s.heap b ws.toArray)(hv:vs≠[])
  (h1:ws=[]->Q (.ref t) s) (h2:ws≠[]->Q (.ref s.heap.objs.size) {s with heap:=s.heap.push {cls:=.type "tuple",data:=.seq (vs++ws).toArray}})
  (hsz:vs.length+ws.length<=sizeLine):wpAny (model prog w) A (acq .Add (.ref t) (.ref b)) Q E s:=by
 obtain⟨⟨cls,dd,data,sl⟩,ho,hc,n,hd⟩:=id ht
 obtain⟨⟨Vj,Sn,data2,RE⟩,Iq,NK,n2,hd2⟩:=id hb
 simp only at hc hd NK hd2
 subst hc hd NK hd2
 have e:vs.toArray++ws.toArray=(vs++ws).toArray:=by simp
 by_cases hw:ws=[]
 ·exact concat_meets ⟨_,ho,rfl⟩ ⟨_,Iq,rfl⟩ afu seq_tuple_add aee ad8 (adS _ _)
   (tuple_addW1 t b vs.toArray ws.toArray n n2 dd Sn sl RE (by simpa using hv) (by simp[hw])) ⟨ho,Iq,h1 hw⟩
 ·refine concat_meets ⟨_,ho,rfl⟩ ⟨_,Iq,rfl⟩ afu seq_tuple_add aee ad8 (adS _ _)
   (tuple_addW2 t b vs.toArray ws.toArray n n2 dd Sn sl RE (by simpa using hv) (by simpa using hw) (by rw[aag,aag];exact hsz)) ⟨ho,Iq,?_⟩
  rw[e]
  exact h2 hw
def AL(n d:Nat):Option Int->Nat
 |none=>d
 |some v=>if v<0 then (v+(n:Int)).toNat else min v.toNat n
theorem DU(n d:Nat):AL n d none=d:=rfl
theorem EV(n d k:Nat):AL n d (some (k:Int))=min k n:=by
 show (if (k:Int)<0 then ((k:Int)+(n:Int)).toNat else min (k:Int).toNat n)=min k n
 rw[if_neg (by omega),ab3]
theorem x5(n d:Nat)(hd:d<=n)(o:Option Int):AL n d o<=n:=by
 cases o with
 |none=>exact hd
 |some v=>
  show (if v<0 then (v+(n:Int)).toNat else min v.toNat n)<=n
  by_cases hv:v<0
  ·rw[if_pos hv];omega
  ·rw[if_neg hv];exact Nat.min_le_right _ _
theorem qC(v:Int)(n d:Nat):(if v<0 then max (v+(n:Int)) 0 else min v (n:Int))=((AL n d (some v):Nat):Int):=by
 show (if v<0 then max (v+(n:Int)) 0 else min v (n:Int))=(((if v<0 then (v+(n:Int)).toNat else min v.toNat n):Nat):Int)
 by_cases hv:v<0
 ·simp only[if_pos hv];omega
 ·simp only[if_neg hv];omega
theorem rA(lo hi:Option Int)(n:Nat):adN lo hi 1 (n:Int)=(((AL n 0 lo:Nat):Int),((AL n n hi:Nat):Int)):=by
 have h1:¬ ((1:Int)<0):=by omega
 unfold adN
 simp only[h1,if_false]
 refine Prod.ext ?_ ?_
 ·cases lo with
  |none=>rfl
  |some v=>exact qC v n 0
 ·cases hi with
  |none=>rfl
  |some v=>exact qC v n n
theorem qQ(i j:Nat):abz (i:Int) (j:Int) 1=j - i:=by
 unfold abz
 have h1:(1:Int) > 0:=by omega
 simp only[h1,if_true,Int.ediv_one]
 split<;>omega
theorem Bv{v:Value}{o:Option Int}{Q:Option Int->Shared->Prop}(p:IsPart v o)(h:Q o s):wpAny (model prog w) A (Builtin.Slice.slicePartIndex v) Q E s:=by
 cases p with
 |none=>exact slicePart_none h
 |int i t=>exact slicePart_int h
theorem BU{sl:Addr}{vl vu:Value}{lo hi:Option Int}{n:Nat}{Q:Int×Int×Nat->Shared->Prop}(hs:s.heap.IsSliceOf sl vl vu .none)(pl:IsPart vl lo)(pu:IsPart vu hi)
  (h:Q (((AL n 0 lo:Nat):Int),1,AL n n hi - AL n 0 lo) s):wpAny (model prog w) A (acN (.ref sl) (pure (n:Int))) Q E s:=by
 obtain⟨os,G5,IW,Hl⟩:=id hs
 unfold acN af0
 refine aaa (aaa (abv G5 Hl (x:=vl) rfl (aaa (abv G5 Hl (x:=vu) rfl (aaa (abv G5 Hl (x:=.none) rfl (aaf ?_)))))))
 refine aaa (slicePart_none ?_)
 show wpAny _ _ (if ((1:Int)==0)=true then _ else _) _ _ s
 rw[if_neg (by decide)]
 refine aaa (Bv pl (aaa (Bv pu (aaa (aaf ?_)))))
 show wpAny _ _ (match adN lo hi 1 (n:Int)with|(lo,hi)=>pure (lo,(1:Int),abz lo hi 1)) _ _ s
 rw[rA lo hi n]
 show wpAny _ _ (pure (((AL n 0 lo:Nat):Int),(1:Int),abz ((AL n 0 lo:Nat):Int) ((AL n n hi:Nat):Int) 1)) _ _ s
 rw[qQ]
 exact aaf h
theorem uj(xs:Array Value)(i k:Nat):((aaM k).filterMap λ(m:Nat)=>xs[((i:Int)+(m:Int)*1).toNat]?).toArray=((xs.toList.drop i).take k).toArray:=by
 have e:(λ(m:Nat)=>xs[((i:Int)+(m:Int)*1).toNat]?)=λm=>xs[i+m]?:=by
  funext m
  have:((i:Int)+(m:Int)*1).toNat=i+m:=by omega
  rw[this]
 rw[e]
 have:=pick_run xs i k
 rw[List.filterMap_map]at this
 have e2:((λx=>xs[x]?) ∘ λx=>i+x)=λm=>xs[i+m]?:=rfl
 rw[e2]at this
 rw[this]
theorem C2{t sl:Addr}{items:Array Value}{vl vu:Value}{lo hi:Option Int}{Q:Value->Shared->Prop}(ht:IsTup s.heap t items)(hs:s.heap.IsSliceOf sl vl vu .none)(pl:IsPart vl lo)(pu:IsPart vu hi)
  (hw:¬ (AL items.size 0 lo=0/\AL items.size items.size hi=items.size))
  (h:Q (.ref s.heap.objs.size) {s with heap:=s.heap.push {cls:=.type "tuple",data:=.seq ((items.toList.drop (AL items.size 0 lo)).take (AL items.size items.size hi - AL items.size 0 lo)).toArray}})
  (hsz:items.size<=sizeLine):wpAny (model prog w) A (ado (.ref t) (.ref sl)) Q E s:=by
 have G4:sizeOk (.seq ((items.toList.drop (AL items.size 0 lo)).take (AL items.size items.size hi - AL items.size 0 lo)).toArray):=by
  show ((items.toList.drop (AL items.size 0 lo)).take (AL items.size items.size hi - AL items.size 0 lo)).toArray.size<=sizeLine
  rw[aag,aa9,afw,aav]
  omega
 have hj:AL items.size items.size hi<=items.size:=x5 _ _ (aak _) hi
 obtain⟨os,G5,IW,Hl⟩:=id hs
 have Ux:s.TypeIs (.ref sl) "slice" := ⟨os,G5,IW⟩
 unfold ado
 try with_reducible refine aaN ?_
 first|refine aaa (aaf ?_)|skip
 refine aaa (adO ht.typeIs (by decide) ?_)
 refine aaa (abk (name:=aax "__getitem__") ht.typeIs abu
  (aaW abu ht.typeIs aeQ ?_ (aeX _ _)))
 show wpAny _ _ (adF (.ref t) >>= _) _ _ s
 refine aaa (tupleItemsOf_ ht ?_)
 refine aaa (acX Ux ?_)
 rw[if_pos (by decide)]
 refine aaa (BU hs pl pu ?_)
 have T5:¬ ((((AL items.size 0 lo:Nat):Int)==0 && (1:Int)==1 && (AL items.size items.size hi - AL items.size 0 lo)==items.size)=true):=by
  intro q
  rw[aaT,aaT]at q
  have q1:((AL items.size 0 lo:Nat):Int)=0:=eq_of_beq q.1.1
  have q2:AL items.size items.size hi - AL items.size 0 lo=items.size:=eq_of_beq q.2
  exact hw ⟨by omega,by omega⟩
 show wpAny _ _ (if (((AL items.size 0 lo:Nat):Int)==0 && (1:Int)==1 && (AL items.size items.size hi - AL items.size 0 lo)==items.size)=true then _ else _) _ _ s
 rw[if_neg T5,uj]
 first
  |exact aaa (m:=abS _) (aa4 (aaf ⟨_,rfl,aaf h⟩) G4)
  |exact aaa (m:=abS _) (aa4 (aaa (aaf (aaf ⟨_,rfl,aaf h⟩))) G4)
  |exact aaa (aaa (m:=abS _) (aa4 (aaf (aaf ⟨_,rfl,aaf h⟩)) G4))
  |exact aaa (aaa (m:=abS _) (aa4 (aaf ⟨_,rfl,aaf h⟩) G4))
end HT
namespace L2
open PySem PySem.Spec PyProof.Rows
abbrev TO:=St->Hp->(Option Int->Hp->Prop)->Prop
def PO(X:Cx)(e:Option Expr)(t:TO):Prop :=
 ∀(pins:List (Addr×Obj)) (s:Shared) (σ:St) (H:Hp) (Q:Option Int->Hp->Prop),Inv X pins σ H s->t σ H Q ->
  wpAny (model X.prog X.w) X.A (evalPart e X.env) (λu s'=>∃o H',Inv X pins σ H' s'/\IsPart u o/\Q o H') X.xe s
def wg:TO:=λ_ H Q=>Q none H
def Mx(t:TE):TO:=λσ H Q=>t σ H λx H1=>∃i,x=.int i/\Q (some i) H1
variable{X:Cx}{e:Expr}{te:TE}{lo hi:Option Expr}{tl th:TO}{pos p2:Pos}
theorem lX:PO X none wg:=by
 intro pins s σ H Q I h
 rw[evalPart_none]
 exact aaf ⟨none,H,I,.none,h⟩
theorem lW(h:PE X e te):PO X (some e) (Mx te):=by
 intro pins s σ H Q I hw
 rw[evalPart_some]
 refine Aw (h pins s σ H _ I hw) λu s1 ⟨x,H1,I1,r1,q1⟩=>?_
 obtain⟨i,rfl,q⟩:=q1
 obtain⟨t,rfl⟩:=r1
 exact⟨some i,H1,I1,.int i t,q⟩
def JI(X:Cx)(r:V->Option Int->Option Int->Hp->VK->Prop):Prop :=
 ∀(pins:List (Addr×Obj)) (s:Shared) (σ:St) (H:Hp) (x:V) (v vl vu:Value) (lo hi:Option Int) (sl:Addr) (Q:VK),Inv X pins σ H s->RelV x v->s.heap.IsSliceOf sl vl vu .none->IsPart vl lo->IsPart vu hi->r x lo hi H Q ->
  ∃T id,typeLookup (.type T) "__getitem__" = pure (some (.builtin id))/\s.TypeIs v T/\wpAny (model X.prog X.w) X.A (ado v (.ref sl)) (EP X pins σ Q) X.xe s
theorem JI.or{r r':V->Option Int->Option Int->Hp->VK->Prop}(h:JI X r)(h':JI X r'):JI X (λx lo hi H Q=>r x lo hi H Q\/r' x lo hi H Q):=by
 intro pins s σ H x v vl vu lo hi sl Q I rx hs pl pu q
 rcases q with q|q
 ·exact h pins s σ H x v vl vu lo hi sl Q I rx hs pl pu q
 ·exact h' pins s σ H x v vl vu lo hi sl Q I rx hs pl pu q
def S4(r:V->Option Int->Option Int->Hp->VK->Prop)(te:TE)(tl th:TO):TE:=λσ H Q=>te σ H λx H1=>tl σ H1 λl H2=>th σ H2 λu H3=>r x l u H3 Q
theorem j8{r:V->Option Int->Option Int->Hp->VK->Prop}(hr:JI X r)(he:PE X e te)(hl:PO X lo tl)(hu:PO X hi th):PE X (.Subscript e (.Slice lo hi none p2) pos) (S4 r te tl th):=by
 intro pins s σ H Q I h
 refine afc (Aw (he pins s σ H _ I h) λv s1 ⟨x,H1,I1,r1,q1⟩=>?_)
 refine wpAny_Slice (Aw (hl pins s1 σ H1 _ I1 q1) λvl s2 ⟨l,H2,I2,pl,q2⟩=>Aw (hu pins s2 σ H2 _ I2 q2) λvu s3 ⟨u,H3,I3,pu,q3⟩=>?_)
 rw[evalPart_none]
 refine aaf ?_
 have I4:Inv X pins σ H3 {s3 with heap:=s3.heap.push {cls:=.type "slice",data:=.fields #[vl,vu,.none]}}:=I3.kept (t':=s3.toks) λb ob q=>aac _ q
 obtain⟨T,id,hT,ht,hg⟩:=hr pins {s3 with heap:=s3.heap.push {cls:=.type "slice",data:=.fields #[vl,vu,.none]}} σ H3 x v vl vu l u s3.heap.objs.size Q I4 r1 (Heap.IsSliceOf.new ..) pl pu q3
 show wpAny (model X.prog X.w) X.A (aeV e (.Slice lo hi none p2) v (.ref s3.heap.objs.size)) (EP X pins σ Q) X.xe {s3 with heap:=s3.heap.push {cls:=.type "slice",data:=.fields #[vl,vu,.none]}}
 exact tail_any (ops:=[.ref s3.heap.objs.size,v]) ht hT hg (by with_unfolding_all rfl)
def Dm(xs:List V)(lo hi:Option Int):List V:=(xs.drop (HT.AL xs.length 0 lo)).take (HT.AL xs.length xs.length hi - HT.AL xs.length 0 lo)
theorem jP(xs:List V)(lo hi:Option Int):(Dm xs lo hi).length<=xs.length:=by
 unfold Dm
 rw[aa9,afw]
 omega
def PJ(K:aah):V->Option Int->Option Int->Hp->VK->Prop:=λx lo hi H Q=>∃a xs,x=.ref a/\AW K H a xs /\
 ¬ (HT.AL xs.length 0 lo=0/\HT.AL xs.length xs.length hi=xs.length)/\∀p,H p=none->Q (.ref p) (upd H p (.tup (Dm xs lo hi)))
theorem x4:JI X (PJ X.K):=by
 intro pins s σ H x v vl vu lo hi sl Q I rx hs pl pu h
 obtain⟨a,xs,rfl,hx,hw,q⟩:=h
 cases rx
 obtain⟨iD,r,ht,hz⟩:=I.tuple hx
 have hlen:iD.toArray.size=xs.length:=by rw[aag];exact r.length.symm
 refine⟨"tuple",_,PyProof.Rows.slot_tuple_getitem.lookup,ht.typeIs,?_⟩
 refine HT.C2 ht hs pl pu (by rw[hlen];exact hw) ?_ (by rw[hlen];exact hz)
 rw[hlen]
 refine⟨.ref s.heap.objs.size,_,I.laid (t':=s.toks) (o:=.tup (Dm xs lo hi)) (λb ob q=>aac _ q) (aak _) ?_,rfl,q _ (I.zY.fresh (aak _))⟩
 exact⟨aa2 (jP xs lo hi) hz,_,(r.drop (HT.AL xs.length 0 lo)).take (HT.AL xs.length xs.length hi - HT.AL xs.length 0 lo),afO _ _⟩
def MR(K:aah):R2:=λx y H Q=>∃a b xs ys,x=.ref a/\y=.ref b/\AW K H a xs/\AW K H b ys/\xs≠[]/\xs.length+ys.length<=sizeLine /\
 (ys=[]->Q (.ref a) H)/\(ys≠[]->∀p,H p=none->Q (.ref p) (upd H p (.tup (xs++ys))))
variable{xs:List V}{us:List Value}
theorem zP.EY(r:zP xs us):us=[]↔xs=[]:=by
 cases r with
 |nil=>simp
 |cons _ _=>simp
theorem wU:AK X (acq .Add) (MR X.K):=by
 intro pins s σ H x y v u Q I rx ry h
 obtain⟨a,b,xs,ys,rfl,rfl,ha,hb,hx,hz,q1,q2⟩:=h
 cases rx
 cases ry
 obtain⟨iD,r1,p1,_⟩:=I.tuple ha
 obtain⟨Bq,r2,p2,_⟩:=I.tuple hb
 refine HT.JG p1 p2 (λz=>hx (r1.EY.mp z)) (λz=>⟨.ref a,H,I,rfl,q1 (r2.EY.mp z)⟩) (λz=>?_) (by rw[<- r1.length,<- r2.length];exact hz)
 refine⟨.ref s.heap.objs.size,_,I.laid (t':=s.toks) (o:=.tup (xs++ys)) (λb ob q=>aac _ q) (aak _) ?_,rfl,q2 (λw=>z (r2.EY.mpr w)) _ (I.zY.fresh (aak _))⟩
 exact⟨by rw[aat];exact hz,_,r1.append r2,afO _ _⟩
def IQ(n:Nat)(i:Int):Option Nat:=if 0<=i then (if i<n then some i.toNat else none)else if -(n:Int)<=i then some (i+n).toNat else none
variable{α:Type}
def GL(xs:List α)(i:Int):Option α:=(IQ xs.length i).bind λj=>xs[j]?
variable{n j:Nat}{i:Int}
theorem qq(h:IQ n i=some j):seqIndex? i n=some j/\j<n /\ -(n:Int)<=i/\i<n:=by
 unfold IQ at h
 by_cases h0:0<=i
 ·rw[if_pos h0]at h
  by_cases h1:i<n
  ·rw[if_pos h1]at h
   have e:i.toNat=j:=aau h
   exact⟨by rw[seqIndex_of h0 h1,e],by omega,by omega,h1⟩
  ·rw[if_neg h1]at h;cases h
 ·rw[if_neg h0]at h
  by_cases h1 : -(n:Int)<=i
  ·rw[if_pos h1]at h
   have e:(i+n).toNat=j:=aau h
   exact⟨by rw[seqIndex_neg (by omega) h1,e],by omega,h1,by omega⟩
  ·rw[if_neg h1]at h;cases h
theorem mO{xs:List α}{v:α}(h:GL xs i=some v):∃j,seqIndex? i xs.length=some j/\xs[j]?=some v/\j<xs.length /\ -(xs.length:Int)<=i/\i<xs.length:=by
 unfold GL at h
 cases e:IQ xs.length i with
 |none=>rw[e]at h;cases h
 |some j=>
  rw[e]at h
  obtain⟨h1,h2,h3,h4⟩:=qq e
  exact⟨j,h1,h,h2,h3,h4⟩
theorem ai{xs:List α}{v:α}(h:xs[j]?=some v):GL xs (j:Int)=some v:=by
 have hj:j<xs.length:=(List.getElem?_eq_some_iff.mp h).1
 have e:IQ xs.length (j:Int)=some j:=by
  unfold IQ
  rw[if_pos (by omega),if_pos (by omega)];simp
 unfold GL;rw[e];exact h
def gG(b:Expr):Prop:=∀o i,afF b false o i=operate [o,i] (ado o i)
def IH(X:Cx)(r:R2):Prop :=
 ∀(value slice:Expr) (pins:List (Addr×Obj)) (s:Shared) (σ:St) (H:Hp) (x y:V) (v u:Value) (Q:VK),Inv X pins σ H s->RelV x v->RelV y u->r x y H Q ->
  afF slice false v u=operate [v,u] (ado v u)->wpAny (model X.prog X.w) X.A (aeV value slice v u) (EP X pins σ Q) X.xe s
def Sx(X:Cx)(id:String)(r:V->List V->Hp->VK->Prop):Prop :=
 ∀(pins:List (Addr×Obj)) (s:Shared) (σ:St) (H:Hp) (x:V) (xs:List V) (v:Value) (us:List Value) (Q:VK),Inv X pins σ H s->RelV x v->zP xs us->r x xs H Q ->
  wpAny (model X.prog X.w) X.A (call (.builtin id) (v::us)) (EP X pins σ Q) X.xe s
variable{a b:Expr}{ta tb:TE}
variable{r r':R2}
theorem IH.or(h:IH X r)(h':IH X r'):IH X (λx y H Q=>r x y H Q\/r' x y H Q):=by
 intro value slice pins s σ H x y v u Q I rx ry q hs
 rcases q with q|q
 ·exact h value slice pins s σ H x y v u Q I rx ry q hs
 ·exact h' value slice pins s σ H x y v u Q I rx ry q hs
theorem bU(hr:IH X r)(ha:PE X a ta)(hb:PE X b tb)(hs:gG b):PE X (.Subscript a b pos) (DB r ta tb):=by
 intro pins s σ H Q I h
 exact afc (LU ha hb I h λv u s2 x y H2 I2 rx ry q=>hr a b pins s2 σ H2 x y v u Q I2 rx ry q (hs _ _))
def DZ(K:aah):R2:=λx y H Q=>∃p xs i v,x=.ref p/\y=.int i/\Bs K H p xs/\GL xs i=some v/\Q v H
def ML(K:aah):R2:=λx y H Q=>∃p xs i v,x=.ref p/\y=.int i/\AW K H p xs/\GL xs i=some v/\Q v H
def MM:R2:=λx y H Q=>∃z i c,x=.str z/\y=.int i/\z.length<=sizeLine/\GL z.cps.toList i=some c/\Q (.str ⟨#[c]⟩) H
theorem AG:IH X (DZ X.K):=by
 intro value slice pins s σ H x y v u Q I rx ry h hs
 obtain⟨p,xs,i,z,rfl,rfl,hq,he,q⟩:=h
 cases rx
 obtain⟨t,rfl⟩:=ry
 obtain⟨iD,r,pl,hz⟩:=I.list hq
 obtain⟨j,h1,h2,h3,h4,h5⟩:=mO he
 obtain⟨w,ew,Du⟩:=r.get h2
 have hl:=r.length
 have hn:=CO
 have fin:EP X pins σ Q w s:=⟨z,H,I,Du,q⟩
 by_cases h0:0<=i
 ·have hj:i.toNat=j:=by
   rw[seqIndex_of h0 h5]at h1
   exact aau h1
  exact item_listR pl.isList h0 (by omega) (by rw[hj];simpa using ew) fin hs
 ·have hj:(i+(iD.toArray.size:Int)).toNat=j:=by
   rw[seqIndex_neg (by omega) h4]at h1
   rw[aag,<- hl]
   exact aau h1
  exact subscriptTail_builtinR (x:=w) pl.isList.typeIs slot_list_getitem.lookup
   (wpAny_getItem_list_neg (Q:=λr s'=>r=w/\EP X pins σ Q r s') pl.isList (by omega) (by rw[aag]<;>omega) (by omega) (by rw[hj];simpa using ew) ⟨rfl,fin⟩) hs
theorem Lh:IH X (ML X.K):=by
 intro value slice pins s σ H x y v u Q I rx ry h hs
 obtain⟨p,xs,i,z,rfl,rfl,hq,he,q⟩:=h
 cases rx
 obtain⟨t,rfl⟩:=ry
 obtain⟨iD,r,pl,hz⟩:=I.tuple hq
 obtain⟨j,h1,h2,h3,h4,h5⟩:=mO he
 obtain⟨w,ew,Du⟩:=r.get h2
 have hl:=r.length
 have hn:=CO
 have fin:EP X pins σ Q w s:=⟨z,H,I,Du,q⟩
 exact subscriptTail_builtinR (x:=w) pl.typeIs slot_tuple_getitem.lookup
  (getItem_tuple (j:=j) (Q:=λr s'=>r=w/\EP X pins σ Q r s') pl (by omega) (by omega) (by rw[aag,<- hl];exact h1) (by simpa using ew) ⟨rfl,fin⟩) hs
theorem yR:IH X MM:=by
 intro value slice pins s σ H x y v u Q I rx ry h hs
 obtain⟨z,i,c,rfl,rfl,hz,he,q⟩:=h
 obtain⟨t,rfl⟩:=rx
 obtain⟨t',rfl⟩:=ry
 obtain⟨j,h1,h2,h3,h4,h5⟩:=mO he
 have hl:z.cps.toList.length=z.length:=by simp[adh]
 rw[hl]at h1 h4 h5
 have hn:=CO
 exact tail_any (ads s z t) slot_str_getitem.lookup (getItem_str (c:=c) (by
  have e1:decide (i < -(2 ^ 63:Int))=false:=decide_eq_false (by omega)
  have e2:decide (i ≥ 2 ^ 63)=false:=decide_eq_false (by omega)
  rw[e1,e2,Bool.or_false]) (by rw[h1];simpa using h2) ⟨.str ⟨#[c]⟩,H,I.tok _,⟨_,rfl⟩,q⟩) hs
def RH(K:aah):R2:=λx y H Q=>DZ K x y H Q\/ML K x y H Q\/MM x y H Q
theorem Li:IH X (RH X.K):=AG.or (Lh.or yR)
theorem qT(iD:List Value)(n j:Nat)(u:Value):aaY (·.setIfInBounds j u) {cls:=.type "list",data:=.seq iD.toArray n}={cls:=.type "list",data:=.seq (iD.set j u).toArray n}:=by
 simp[aaY]
variable{pins:List (Addr×Obj)}{σ:St}{H:Hp}{s:Shared}
theorem Inv.lst{p:Addr}(I:Inv X pins σ H s)(h:H p=some (.lst xs)):
  ∃(iD:List Value) (n:Nat),zP xs iD/\s.heap.get? p=some {cls:=.type "list",data:=.seq iD.toArray n}/\xs.length<=sizeLine:=by
 obtain⟨z,iD,n,r,e⟩:=I.zY p _ h
 exact⟨iD,n,r,e,z⟩
variable{iD:List Value}
theorem Inv.Lg{p:Addr}{ys:List V}{its':List Value}{n':Nat}{f:Obj->Obj}(I:Inv X pins σ H s)(h:H p=some (.lst xs))
  (ho:s.heap.get? p=some {cls:=.type "list",data:=.seq iD.toArray n}) (hf:f {cls:=.type "list",data:=.seq iD.toArray n}={cls:=.type "list",data:=.seq its'.toArray n'}) (r:zP ys its') (hz:ys.length<=sizeLine) (t:Nat) :
  Inv X pins σ (upd H p (.lst ys)) {s with heap:=s.heap.update p f,toks:=t}:=by
 have e:(s.heap.update p f).get? p=some {cls:=.type "list",data:=.seq its'.toArray n'}:=by
  rw[abr f ho (by rw[hf]<;>rfl),hf]
 refine I.write (x:=p) (e:=p) (by rw[h];trivial) (.inl rfl) (λb u hb q=>(adc _ _ (abG hb)).trans q) ⟨_,e⟩ ?_
 exact⟨hz,its',n',r,e⟩
def G1:V->V->V->Hp->(Hp->Prop)->Prop:=λo i v H Q=>∃p xs k j,o=.ref p/\i=.int k/\H p=some (.lst xs)/\IQ xs.length k=some j/\Q (upd H p (.lst (xs.set j v)))
theorem jY:FP X G1:=by
 intro pins s σ H o i v ov iv u Q I ro ri rv h
 obtain⟨p,xs,k,j,rfl,rfl,hp,hj,q⟩:=h
 cases ro
 obtain⟨t,rfl⟩:=ri
 obtain⟨iD,n,r,ho,hz⟩:=I.lst hp
 obtain⟨h1,h2,h3,h4⟩:=qq hj
 have hl:=r.length
 have hn:=CO
 have I':Inv X pins σ (upd H p (.lst (xs.set j v))) {s with heap:=s.heap.update p (aaY (·.setIfInBounds j u))} :=
  I.Lg hp ho (qT iD n j u) (r.set rv j) (by rw[aeu];exact hz) s.toks
 by_cases h0:0<=k
 ·have hk:k.toNat=j:=by
   rw[seqIndex_of h0 h4]at h1
   exact aau h1
  exact PySem.W.ki_setAt ho h0 (by omega) (by rw[aag,<- hl];exact h4) (by rw[hk];exact⟨_,I',q⟩)
 ·have hk:(k+(iD.toArray.size:Int)).toNat=j:=by
   rw[seqIndex_neg (by omega) h3]at h1
   rw[aag,<- hl]
   exact aau h1
  exact PySem.W.ki_setBack ho (by omega) (by rw[aag,<- hl];exact h3) (by omega) (by rw[hk];exact⟨_,I',q⟩)
theorem n4(lo hi:Option Int)(n:Nat):(adu lo hi none n).1=((HT.AL n 0 lo:Nat):Int)/\(adu lo hi none n).2.1=((HT.AL n n hi:Nat):Int)/\(adu lo hi none n).2.2=1:=by
 refine⟨?_,?_,rfl⟩
 ·cases lo with
  |none=>simp[adu,HT.AL]
  |some i=>
   simp only[adu,HT.AL,Option.getD_none,show (1:Int) > 0 by decide,if_true]
   by_cases h:i<0
   ·simp only[h,if_true]<;>omega
   ·simp only[h,if_false]<;>omega
 ·cases hi with
  |none=>simp[adu,HT.AL]
  |some i=>
   simp only[adu,HT.AL,Option.getD_none,show (1:Int) > 0 by decide,if_true]
   by_cases h:i<0
   ·simp only[h,if_true]<;>omega
   ·simp only[h,if_false]<;>omega
theorem nz(iD:List Value)(lo hi:Option Int):slicePick iD.toArray lo hi none=((iD.drop (HT.AL iD.length 0 lo)).take (HT.AL iD.length iD.length hi - HT.AL iD.length 0 lo)).toArray:=by
 obtain⟨h1,h2,h3⟩:=n4 lo hi iD.toArray.size
 unfold slicePick
 rw[h1,h2,h3]
 simp only[sliceRange_one,pick_run,aag]<;>rfl
def PL(K:aah):V->Option Int->Option Int->Hp->VK->Prop:=λx lo hi H Q=>∃a xs,x=.ref a/\Bs K H a xs/\∀p,H p=none->Q (.ref p) (upd H p (.lst (Dm xs lo hi)))
theorem lN:JI X (PL X.K):=by
 intro pins s σ H x v vl vu lo hi sl Q I rx hs pl pu h
 obtain⟨a,xs,rfl,hx,q⟩:=h
 cases rx
 obtain⟨iD,r,ht,hz⟩:=I.list hx
 have hlen:=r.length
 refine⟨"list",_,slot_list_getitem.lookup,ht.isList.typeIs,?_⟩
 refine wpAny_getItem_list_slice ht.isList hs pl pu .none (by simp) ?_ (by rw[aag]<;>omega)
 rw[nz,<- hlen]
 refine⟨.ref s.heap.objs.size,_,I.laid (t':=s.toks) (o:=.lst (Dm xs lo hi)) (λb ob q=>aac _ q) (aak _) ?_,rfl,q _ (I.zY.fresh (aak _))⟩
 exact⟨aa2 (jP xs lo hi) hz,_,0,(r.drop (HT.AL xs.length 0 lo)).take (HT.AL xs.length xs.length hi - HT.AL xs.length 0 lo),aai _ rfl⟩
theorem oC:AK X (aaV .NotIn) (λx y H Q=>∃i j,x=.str i/\y=.str j/\Q (.bl (!(!(ada j i 0 j.length 1).isEmpty))) H):=by
 intro pins s σ H x y v u Q I rx ry h
 obtain⟨i,j,rfl,rfl,q⟩:=h
 obtain⟨t,rfl⟩:=rx
 obtain⟨t',rfl⟩:=ry
 exact notIn_str ⟨.bl _,H,I,rfl,q⟩
theorem i7:zZ X (.builtin "len") (λxs H Q=>∃p ys,xs=[.ref p]/\(Bs X.K H p ys\/AW X.K H p ys)/\Q (.int ys.length) H):=by
 intro pins s σ H xs us Q I r h
 obtain⟨p,ys,rfl,hq,q⟩:=h
 obtain⟨u,rfl,rx⟩:=vals1 r
 cases rx
 have hn:=CO
 rcases hq with hq|hq
 ·obtain⟨iD,r',pl,hz⟩:=I.list hq
  have hlen:=r'.length
  exact Calls.call_len_list pl.isList (by simp only[aag]<;>omega) ⟨.int ys.length,H,I.tok _,⟨s.toks+1,by rw[aag,hlen]⟩,q⟩
 ·obtain⟨iD,r',pl,hz⟩:=I.tuple hq
  have hlen:=r'.length
  exact len_tuple pl (by simp only[aag]<;>omega) ⟨.int ys.length,H,I.tok _,⟨s.toks+1,by rw[aag,hlen]⟩,q⟩
theorem pk:zZ X (.builtin "len") (λxs H Q=>∃z,xs=[.str z]/\z.length<=sizeLine/\Q (.int z.length) H):=by
 intro pins s σ H xs us Q I r h
 obtain⟨z,rfl,hz,q⟩:=h
 obtain⟨u,rfl,t,rfl⟩:=vals1 r
 have hn:=CO
 exact len_str (by omega) ⟨.int z.length,H,I.tok _,⟨_,rfl⟩,q⟩
variable{f:Value}
theorem zZ.or{r r':List V->Hp->VK->Prop}(h:zZ X f r)(h':zZ X f r'):zZ X f (λxs H Q=>r xs H Q\/r' xs H Q):=by
 intro pins s σ H xs us Q I rs q
 rcases q with q|q
 ·exact h pins s σ H xs us Q I rs q
 ·exact h' pins s σ H xs us Q I rs q
theorem pj:zZ X (.type "list") (λxs H Q=>∃p ys,xs=[.ref p]/\(Bs X.K H p ys\/AW X.K H p ys)/\∀l,H l=none->Q (.ref l) (upd H l (.lst ys))):=by
 intro pins s σ H xs us Q I r h
 obtain⟨p,ys,rfl,hq,q⟩:=h
 obtain⟨u,rfl,rx⟩:=vals1 r
 cases rx
 have fin:∀(iD:List Value),zP ys iD->ys.length<=sizeLine->∀(h':Heap) (c':Nat),(∀b o',s.heap.get? b=some o'->h'.get? b=some o') ->
   h'.get? s.heap.objs.size=some {cls:=.type "list",dict:=none,data:=.seq iD.toArray c',slots:=#[]}->EP X pins σ Q (.ref s.heap.objs.size) {s with heap:=h'}:=λiD r' hz h' c' kp e=>
  ⟨.ref s.heap.objs.size,_,I.laid (t':=s.toks) kp (aak _) (show Af X.prog X.w _ h' _ (.lst ys)from ⟨hz,iD,c',r',e⟩),rfl,q _ (I.zY.fresh (aak _))⟩
 rcases hq with hq|hq
 ·obtain⟨iD,r',pl,hz⟩:=I.list hq
  have hlen:=r'.length
  obtain⟨o,ho,hc,n,hd⟩:=pl.isList
  exact call_list_seq p (.inl rfl) ho hc hd (λh' c' kp e=>fin iD r' hz h' c' kp e) (by simp only[aag]<;>omega)
 ·obtain⟨iD,r',pl,hz⟩:=I.tuple hq
  have hlen:=r'.length
  obtain⟨o,ho,hc,n,hd⟩:=pl
  exact call_list_seq p (.inr rfl) ho hc hd (λh' c' kp e=>fin iD r' hz h' c' kp e) (by simp only[aag]<;>omega)
theorem nL:zZ X (.type "tuple") (λxs H Q=>∃p ys,xs=[.ref p]/\((Bs X.K H p ys/\∀l,H l=none->Q (.ref l) (upd H l (.tup ys)))\/(AW X.K H p ys/\Q (.ref p) H))):=by
 intro pins s σ H xs us Q I r h
 obtain⟨p,ys,rfl,h⟩:=h
 obtain⟨u,rfl,rx⟩:=vals1 r
 cases rx
 rcases h with ⟨hq,q⟩|⟨hq,q⟩
 ·obtain⟨iD,r',pl,hz⟩:=I.list hq
  have hlen:=r'.length
  refine call_tuple_list pl.isList (λh' kp=>?_) (by simp only[aag]<;>omega)
  have I1:Inv X pins σ H {s with heap:=h'}:=I.kept (t':=s.toks) kp
  have I2:Inv X pins σ (upd H h'.objs.size (.tup ys)) {s with heap:=h'.push {cls:=.type "tuple",data:=.seq iD.toArray}} :=
   I1.laid (t':=s.toks) (λb o e=>aac _ e) (aak _) (show Af X.prog X.w _ _ _ (.tup ys)from ⟨hz,iD,r',afO _ _⟩)
  exact⟨.ref h'.objs.size,_,I2,rfl,q _ (I1.zY.fresh (aak _))⟩
 ·obtain⟨iD,r',pl,hz⟩:=I.tuple hq
  exact call_tuple_same pl ⟨.ref p,H,I,rfl,q⟩
def Rz(K:aah)(T:String)(x:V)(H:Hp):Prop:=match x with
 |.str _=>T = "str"
 |.int _=>T = "int"
 |.ref p=>(T = "list" /\ ∃xs,Bs K H p xs)\/(T = "tuple" /\ ∃o,K.lookup p=some o/\o.cls=.type "tuple" /\ o.dict=none) \/
   (T = "dict" /\ ((∃kvs,H p=some (.dK kvs))\/∃kvs,H p=some (.dT kvs)))\/(T = "set" /\ ∃S n,H p=some (.set S n))
 |_=>False
variable{x:V}{v:Value}
theorem xV{T:String}(I:Inv X pins σ H s)(r:RelV x v)(ty:Rz X.K T x H):
  s.TypeIs v T/\∀a,v=.ref a->∃ob,s.heap.get? a=some ob/\ob.dict=none:=by
 cases x with
 |str z=>
  obtain⟨t,rfl⟩:=r
  cases (show T = "str" from ty)
  exact⟨ads s z t,λ_ e=>nomatch e⟩
 |int i=>
  obtain⟨t,rfl⟩:=r
  cases (show T = "int" from ty)
  exact⟨typeIs_int s i t,λ_ e=>nomatch e⟩
 |ref p=>
  cases r
  rcases ty with ⟨rfl,xs,hq⟩|⟨rfl,o,hk,hc,hd⟩|⟨rfl,hk⟩|⟨rfl,S,n,hk⟩
  ·obtain⟨iD,_,pl,_⟩:=I.list hq
   refine⟨pl.isList.typeIs,λa e=>?_⟩
   cases e
   obtain⟨o,n,e,c,hd,_⟩:=pl
   exact⟨o,e,hd⟩
  ·refine⟨⟨o,I.Ex p o hk,hc⟩,λa e=>?_⟩
   cases e
   exact⟨o,I.Ex _ o hk,hd⟩
  ·have z:∃o,s.heap.get? p=some o/\o.ExactDict:=by
    rcases hk with ⟨kvs,hk⟩|⟨kvs,hk⟩
    ·obtain⟨_,_,_,_,o,_,_,e,ex,_⟩:=I.zY p _ hk
     exact⟨o,e,ex⟩
    ·obtain⟨_,_,_,_,o,_,_,e,ex,_⟩:=I.zY p _ hk
     exact⟨o,e,ex⟩
   obtain⟨o,e,ex⟩:=z
   refine⟨⟨o,e,ex.1⟩,λa e2=>?_⟩
   cases e2
   exact⟨o,e,ex.2.1⟩
  ·obtain⟨o,_,_,_,e,ex,_⟩:=I.zY p _ hk
   refine⟨⟨o,e,ex.1⟩,λa e2=>?_⟩
   cases e2
   exact⟨o,e,ex.2.1⟩
 |_=>exact ac0 ty
def RA(K:aah)(T:String)(r:V->List V->Hp->VK->Prop)(to:TE)(t:TA):TE:=λσ H Q=>to σ H λx H1=>Rz K T x H1/\t σ H1 λxs H2=>r x xs H2 Q
variable{o:Expr}{es:List Expr}{to:TE}{t:TA}{name:Str}{apos Bl:Pos}{T id:String}{r:V->List V->Hp->VK->Prop}
theorem vH(pa:PlainAttrs T)(slot:Slot T name id)(Ju:typeOf (.builtin id)=pure (.type "method_descriptor"))(hm:Sx X id r)(ho:PE X o to)(ha:PA X (e::es) t)
  (Bz:acr o name X.env (eval o X.env)=eval o X.env:=by rfl)
  (Lw:((backTo Bl (aam (e::es) X.env)).all (λx=>!x.1) && (backToKw Bl (aeO [] X.env)).all (λx=>x.1.isSome)
   && decide ((e::es).length+([]:List afi).length+(if ([]:List afi).isEmpty then 0 else 1)<30))=true:=by rfl)
  (By:(apos.endLine==Bl.line)=true:=by rfl) (hs:aam (e::es) X.env=(false,eval e X.env)::aam es X.env:=by rfl) (Gr:(backTo Bl (aam es X.env)).any (·.1)=false:=by rfl) :
  PE X (.Call (.Attribute o name apos) (e::es) [] Bl) (RA X.K T r to t):=by
 intro pins s σ H Q I h
 refine wpAny_Call_method_late Bz Lw By rfl (Aw (ho pins s σ H _ I h) λv s1 ⟨x,H1,I1,r1,ty,q1⟩=>?_)
 obtain⟨h1,h2⟩:=xV I1 r1 ty
 refine⟨T,id,pa,slot,Ju,h1,h2,?_⟩
 have hA:=ha Bl pins s1 σ H1 _ I1 q1
 rw[hs]at hA ⊢
 refine ade (by show (false || (backTo Bl (aam es X.env)).any (·.1))=false;rw[Gr]<;>rfl) (Calls.evalArgs_plain ?_)
 exact Aw hA λus s2 ⟨vs,H2,I2,r2,q2⟩=>hm pins s2 σ H2 x vs v us Q I2 r1 r2 q2

def Sy(X:Cx)(id:String)(r:V->List V->Hp->VK->Prop):Prop :=
 ∀(pins:List (Addr×Obj)) (s:Shared) (σ:St) (H:Hp) (x:V) (xs:List V) (v:Value) (us:List Value) (Q:VK),Inv X pins σ H s->RelV x v->zP xs us->r x xs H Q ->
  wpAny (model X.prog X.w) X.A (call (.builtin id) (v::us)) (EP X pins σ Q) X.xe s
theorem zP.one:∀{x:V} {us:List Value},zP [x] us->∃u,us=[u]/\RelV x u
 |_,_,.cons r .nil=>⟨_,rfl,r⟩
theorem zP.eraseIdx:∀{xs:List V} {us:List Value} (i:Nat),zP xs us->zP (xs.eraseIdx i) (us.eraseIdx i)
 |_,_,_,.nil=>.nil
 |_,_,0,.cons _ t=>t
 |_,_,i+1,.cons r t=>.cons r (zP.eraseIdx i t)
theorem zP.reverse(h:zP xs us):zP xs.reverse us.reverse:=by
 induction h with
 |nil=>exact .nil
 |cons r t ih=>rw[acJ,acJ];exact zP.append ih (.cons r .nil)
theorem zP.rep(h:zP xs us):∀k:Nat,zP (aaK k xs).flatten (aaK k us).flatten
 |0=>.nil
 |k+1=>by
  rw[abq,abq,ab2,ab2]
  exact zP.append h (zP.rep h k)
theorem m3:∀(l:List α) (i:Nat),(l.eraseIdx i).length<=l.length
 |[],_=>aak _
 |_::_,0=>abU _
 |_::r,i+1=>Nat.succ_le_succ (m3 r i)
theorem na(iD:List Value):∀(k:Nat) (acc:List Value),
  afh (λx1 x2=>x1++x2) acc.toArray (aaK k iD.toArray)=(acc++(aaK k iD).flatten).toArray
 |0,acc=>by simp
 |k+1,acc=>by
  have e:acc.toArray++iD.toArray=(acc++iD).toArray:=by simp
  have e2:(acc++iD)++(aaK k iD).flatten=acc++(aaK (k+1) iD).flatten:=by
   rw[abq,ab2,acK]
  rw[<- e2,<- na iD k (acc++iD),<- e,abq,abC]
variable{l b:Addr}{ys zs:List V}
variable{t':Nat}
theorem Inv.Nb{its':List Value}{f:Array Value->Array Value}(I:Inv X pins σ H s)(hH:H l=some (.lst xs))
  (e:s.heap.get? l=some {cls:=.type "list",data:=.seq iD.toArray n}) (hf:f iD.toArray=its'.toArray) (hv:zP ys its') (hz:ys.length<=sizeLine) :
  Inv X pins σ (upd H l (.lst ys)) {s with heap:=s.heap.update l (aaY f),toks:=t'}:=by
 have q:=PySem.IsL.update e f
 rw[hf]at q
 refine I.write (x:=l) (e:=l) (by rw[hH];exact trivial) (.inl rfl) (λb' u hb hu=>(adc s.heap (aaY f) (abG hb)).trans hu) ⟨_,q⟩ ?_
 exact⟨hz,its',_,hv,q⟩
theorem Inv.Nc(I:Inv X pins σ H s)(hv:zP ys iD)(hz:ys.length<=sizeLine):
  Inv X pins σ (upd H s.heap.objs.size (.lst ys)) {s with heap:=s.heap.push {cls:=.type "list",data:=.seq iD.toArray},toks:=t'} :=
 I.laid (λ_ _ q=>aac _ q) (aak _) ⟨hz,iD,0,hv,aai _ rfl⟩
theorem Inv.fresh(I:Inv X pins σ H s):H s.heap.objs.size=none:=I.zY.fresh (aak _)
theorem Inv.Ig(I:Inv X pins σ H s)(hH:H l=some (.lst xs)):xs.length<=sizeLine/\∃(iD:List Value) (n:Nat),zP xs iD/\xs.length=iD.length/\s.heap.get? l=some {cls:=.type "list",data:=.seq iD.toArray n}:=by
 obtain⟨z,iD,n,r,e⟩:=I.zY l _ hH
 exact⟨z,iD,n,r,r.length,e⟩
theorem uJ(h:n<=sizeLine):adZ n=false:=by
 unfold adZ
 exact decide_eq_false (by omega)
def qc:V->List V->Hp->VK->Prop:=λx vs H Q=>∃l xs y,x=.ref l/\vs=[y]/\H l=some (.lst xs)/\xs.length<sizeLine/\Q .rW (upd H l (.lst (xs++[y])))
theorem cL:Sy X "list.append" qc:=by
 intro pins s σ H x vs v us Q I rx rv h
 obtain⟨l,xs,y,rfl,rfl,hH,hz,q⟩:=h
 cases rx
 obtain⟨u,rfl,ru⟩:=rv.one
 obtain⟨z,iD,n,r,hl,e⟩:=I.Ig hH
 refine afa F.slot_list_append ⟨_,e,rfl⟩ F.entry_list_append (F.args_list_append_2 _ _) (PySem.list_append l iD.toArray n u (by rw[aag];omega)) ⟨e,?_⟩
 refine⟨.rW,_,I.Nb (its':=iD++[u]) hH e (by simp) (r.append (.cons ru .nil)) ?_,rfl,q⟩
 rw[aat,List.length_singleton]
 omega
def La:V->List V->Hp->VK->Prop:=λx vs H Q=>∃l xs i k y,x=.ref l/\vs=[.int i]/\H l=some (.lst xs) /\ -(2 ^ 63)<=i/\i<2 ^ 63/\seqIndex? i xs.length=some k/\xs[k]?=some y/\Q y (upd H l (.lst (xs.eraseIdx k)))
theorem uL:Sy X "list.pop" La:=by
 intro pins s σ H x vs v us Q I rx rv h
 obtain⟨l,xs,i,k,y,rfl,rfl,hH,h1,h2,hk,hy,q⟩:=h
 cases rx
 obtain⟨u,rfl,ru⟩:=rv.one
 obtain⟨t,rfl⟩:=ru
 obtain⟨z,iD,n,r,hl,e⟩:=I.Ig hH
 obtain⟨w,hw,Du⟩:=r.get hy
 refine afa F.slot_list_pop ⟨_,e,rfl⟩ F.entry_list_pop (F.args_list_pop_2 _ _)
  (MeetsSeq.list_pop_at l iD.toArray n i t k w (fitsIndex_both h1 h2) (by rw[aag,<- hl];exact hk) (by rw[<- abb];exact hw) (by rw[aag];omega)) ⟨e,?_⟩
 refine⟨y,_,I.Nb (its':=iD.eraseIdx k) hH e ?_ (r.eraseIdx k) ?_,Du,q⟩
 ·show iD.toArray.eraseIdxIfInBounds k=(iD.eraseIdx k).toArray
  rw[List.eraseIdxIfInBounds_toArray]
 ·have:=m3 xs k
  omega
def MS:R2:=λx y H Q=>∃l b xs zs,x=.ref l/\y=.ref b/\H l=some (.lst xs)/\H b=some (.lst zs)/\xs.length+zs.length<=sizeLine/\∀p,H p=none->Q (.ref p) (upd H p (.lst (xs++zs)))
theorem yA:AK X (acq .Add) MS:=by
 intro pins s σ H x y v u Q I rx ry h
 obtain⟨l,b,xs,zs,rfl,rfl,hH,hB,hz,q⟩:=h
 cases rx
 cases ry
 obtain⟨z,iD,n,r,hl,e⟩:=I.Ig hH
 obtain⟨z2,Bq,n2,r2,G6,e2⟩:=I.Ig hB
 refine PySem.P.add_list e e2 ?_ (by rw[aag,aag];omega)
 have ea:iD.toArray++Bq.toArray=(iD++Bq).toArray:=by simp
 rw[ea]
 exact⟨.ref _,_,I.Nc (t':=s.toks) (r.append r2) (by rw[aat];omega),rfl,q _ I.fresh⟩
def MI:R2:=λx y H Q=>∃l k xs,x=.ref l/\y=.int k/\H l=some (.lst xs) /\ -(2 ^ 63)<=k/\k<2 ^ 63/\xs.length*k.toNat<=sizeLine /\
 ∀p,H p=none->Q (.ref p) (upd H p (.lst (aaK k.toNat xs).flatten))
theorem xa(xs:List α)(k:Nat):(aaK k xs).flatten.length=k*xs.length:=by
 induction k with
 |zero=>simp
 |succ k ih=>rw[abq,ab2,aat,ih,Nat.succ_mul,aes]
theorem yw:AK X (acq .Mult) MI:=by
 intro pins s σ H x y v u Q I rx ry h
 obtain⟨l,k,xs,rfl,rfl,hH,h1,h2,hz,q⟩:=h
 cases rx
 obtain⟨t,rfl⟩:=ry
 obtain⟨z,iD,n,r,hl,e⟩:=I.Ig hH
 have hlen:iD.toArray.size*k.toNat<=sizeLine:=by rw[aag,<- hl];exact hz
 have A6:¬ iD.toArray.size*k.toNat > (2 ^ 63 - 1) / 8:=by
  have:(sizeLine:Nat)<=(2 ^ 63 - 1) / 8:=by decide
  omega
 have QE:¬ (!Builtin.List.listFitsIndex k)=true:=by
  rw[fitsIndex_both h1 h2]
  exact aaB
 have NF:¬ adZ (iD.toArray.size*k.toNat)=true:=by
  rw[uJ hlen]
  exact aaB
 have D7:afh (λx1 x2=>x1++x2) #[] (aaK (if iD.toArray.isEmpty=true then 0 else k.toNat) iD.toArray)=(aaK k.toNat iD).flatten.toArray:=by
  have f0:∀m:Nat,afh (λx1 x2=>x1++x2) #[] (aaK m iD.toArray)=(aaK m iD).flatten.toArray:=λm=>by
   have:=na iD m []
   rw[aaH]at this
   exact this
  rw[f0]
  cases iD with
  |nil=>simp
  |cons a r'=>rw[if_neg (by simp)]
 refine wpAny_binaryOp_repeat_ref (T := "list") (U := "int") (by decide) ⟨_,e,rfl⟩ (λs'=>typeIs_int s' k t) noFill_list_mul F.fills_int_mul F.slot_int_rmul repeat_list F.slot_int_index.lookup
  (afa F.slot_int_rmul (typeIs_int s k t) F.entry_int_rmul (F.args_int_rmul_2 _ _) (int___rmul___int_list k t l iD.toArray n)
   ⟨e,rfl,⟨_,e,rfl⟩,afa F.slot_list_mul ⟨_,e,rfl⟩ F.entry_list_mul (F.args_list_mul_2 _ _) (AutoListH.list___mul___list_int_3 l iD.toArray n k t QE A6 NF) ⟨e,?_⟩⟩)
 rw[D7]
 exact⟨.ref _,_,I.Nc (t':=s.toks) (r.rep k.toNat) (by rw[xa,Nat.mul_comm];exact hz),rfl,q _ I.fresh⟩
variable{prog:aaI}{w:World}{A:Around}{E:Value->Shared->Prop}
end L2
namespace Att
open PySem PySem.W PySem.Calls PyProof.Rows
theorem lA{P:Params}{h:Heap}:∀(ns:List Int) (vs:List Value),WellAll P h vs (ns.map WData.int)->IntsAre vs ns:=by
 intro ns
 induction ns with
 |nil=>
  intro vs w
  rw[afp]at w
  cases w
  exact .nil
 |cons n ns ih=>
  intro vs w
  rw[aap]at w
  cases w with
  |cons a b=>
   cases a
   exact .cons _ _ (ih _ b)
theorem rP{l:OpenLaw}{n:Nat}(hn:l.most=some n){P:Params}{h:Heap}{args:List WData}{vals:List Value}
  (Jw:l.row.toRowW.claim.pre args=true) (Qj:WellAll P h vals args) :
  ∃a vs ns,vals=[aar a]/\args=[WData.list (ns.map WData.int)]/\h.get? a=some {cls:=.type "list",data:=.seq vs.toArray}/\IntsAre vs ns/\ns.length<=n:=by
 have TQ:WShape.hasAll [] args [.list .int]=true:=(pre_splitW Jw).1
 have hc:l.pre.holds [] {args:=args}=true:=(pre_splitW Jw).2
 obtain⟨d,r,rfl,h1,h2⟩:=hasAllW_cons TQ
 obtain rfl:=hasAllW_nil h2
 obtain⟨xs,rfl,h3⟩:=hasW_list h1
 obtain⟨ns,rfl⟩:=items_int h3
 have hlen:ns.length<=n:=by
  unfold OpenLaw.pre at hc
  have h4:(WTm.not (.lt (.lit (.int (n:Int))) (.len (.arg 0)))).holds [] {args:=[.list (ns.map .int)]}=true:=by
   have h4:=(holds_andW hc).1
   rw[hn]at h4
   exact h4
  have h5:=condW_of h4 (w_not (w_lt w_lit (w_len_list (w_arg rfl))))
  rw[aad]at h5
  refine Nat.le_of_not_lt λq=>?_
  have q':(n:Int)<((ns.length:Nat):Int):=by omega
  first
   |(rw[decide_eq_true q']at h5;exact absurd h5 (by decide))
   |(simp at h5;omega)
 cases Qj with
 |cons w1 w2=>
  cases w2
  cases w1 with
  |list ho QP=>exact⟨_,_,ns,rfl,rfl,ho,lA ns _ QP,hlen⟩
theorem r8(l:OpenLaw)(args:List WData):l.row.toRowW.claim.post args (.bool true) args=true :=
 postW_of (r:=l.row.toRowW) (X:=(true==true))
  (show WShape.has [] (.bool true) .bool=true by first|rfl|decide|simp[WShape.has,WShape.arms,WShape.armsAll])
  (show (WTm.eq .res (.lit (.bool true))).value [] {args:=args,res:=some (.bool true),after:=args}=some (.bool (true==true))from w_eq_bool (w_res rfl) w_lit) rfl
theorem FN{l:OpenLaw}{n:Nat}{q:aaI}{loose:List Str}{XP:(Str->Option Value)->Heap->Prop}{YP:World->Heap->Prop}{d:DefRec}
  (hn:l.most=some n) (NI:d.params.defaults=[])
  (call:∀(w:World) (s₀ s₁:Shared) (mg mb:Str->Option Value) (fa:Addr) (o:Obj) (pm cd doc:Value) (a:Addr) (vs:List Value) (ns:List Int),
   Ground q loose [] XP w s₀ mg mb s₁.heap->YP w s₁.heap ->
   s₁.heap.get? fa=some o->o.data=.func (docDef d.name d.params d.body d.scope pm cd doc)->s₁.heap.CodeRec cd d.name->mg d.name=some (.ref fa) ->
   s₁.heap.get? a=some {cls:=.type "list",data:=.seq vs.toArray}->IntsAre vs ns->ns.length<=n->s₁.gens=#[] ->
   ad5 (model l.prog w) afG (.call (.ref fa) ⟨[.ref a],[]⟩) (λr s'=>r=.ok (.ret (.bool true))/\OldK s₁.heap s'.heap/\s'.os=s₁.os/\aeS s'.gens) s₁) :
  WalkO q loose XP YP l.row.toRowW d [] (λf vs=>PySem.call f vs):=by
 intro w s₀ s₁ mg mb G Y fa o pm cd doc dV kV ho hd hcd hD hmg hg args vals as Jw Ug Vy Qj VC
 obtain rfl:dV=.none:=Dflts.none hD NI
 obtain rfl:kV=.none:=Dflts.noKw hD
 obtain⟨a,vs,ns,rfl,rfl,Lo,hints,hlen⟩:=rP hn Jw Qj
 refine enter_call (adH (call w s₀ s₁ mg mb fa o pm cd doc a vs ns G Y ho (fd_plain hd) hcd hmg Lo hints hlen hg) λr s' hq=>?_)
 obtain⟨rfl,h2,h3,h4⟩:=hq
 exact⟨.inl ⟨.bool true,.bool true,[],rfl,λ_=>rfl,.bool true,r8 l _,λ_=>⟨adX,λ_ hm=>(nomatch hm)⟩⟩,h2,h3,h4⟩
variable{prog:aaI}{w:World}{A:Around}{E:Value->Shared->Prop}{s:Shared}{K:Frag}
end Att
namespace L2
open PySem PySem.Spec PyProof.Rows
theorem mS:∀{vs:List Value} {ns:List Int},IntsAre vs ns->zP (ns.map V.int) vs
 |_,_,.nil=>.nil
 |_,_,.cons n t h=>.cons ⟨t,rfl⟩ (mS h)
end L2

namespace L2
open PySem PySem.Spec PyProof.Rows
def eB(s:Stmt):Arguments:=match s with
 |.FunctionDef _ a _ _ _ _ _ _ _ _=>a
 |_=>{posonlyargs:=[],args:=[],vararg:=none,kwonlyargs:=[],kw_defaults:=[],kwarg:=none,defaults:=[]}
def bR(s:Stmt):List Stmt:=match s with
 |.FunctionDef _ _ b _ _ _ _ _ _ _=>b
 |_=>[]
def au(s:Stmt):Scope:=match s with
 |.FunctionDef _ _ _ _ _ _ sc _ _ _=>sc
 |_=>{kind:=.function,names:=[],isGenerator:=false,isCoroutine:=false}
abbrev Bn:Mo:=λ_ _ _ _ _ _=>False
abbrev E0:XK:=λ_ _ _=>False
variable{X:Cx}
theorem Fv:Fi Bn X E0:=λ_ _ _ _ _ _ _ h=>h.elim
structure Hu(K:aah)(x qual:Str)(st:Stmt)(f:Addr)(fd:abR):Prop where
 ex:∃(oc:Value) (od:Option Addr) (kV doc pm:Value) (an:Option Addr) (Ao ct:Value) (Jm:Array (Option Value)),
  fd=acZ x qual (eB st) (bR st) (au st) .none kV doc pm an Ao ct/\K.lookup f=some ⟨oc,od,.func fd,Jm⟩/\aeI K Ao qual=true
 kp:abM K (.ref f)=true
variable{P:aaI}{w:World}{K:aah}{mg:Str->Option Value}{base:Heap}
variable{x qual:Str}{st:Stmt}{f:Addr}{fd:abR}{N ps:List Str}{k:Nat}{sp:Sp}
theorem Hu.ok(F:Hu K x qual st f fd)(S:aB N ps (au st))(len:∀vs H Q E,sp vs H Q E->vs.length=ps.length)
  (FG:∀(Ao:Value) (A:Around) (outer:List Env) (s:Shared) (H:Hp) (vs:List V) (Q:VK) (E:XK),AB k (A.deeper (envOfC qual (au st) s.heap.objs.size f Ao))->sp vs H Q E ->
   ∃t,GP (EB Bn P w K mg base N qual (au st) f Ao A outer s H E).Jq (bR st) t/\t {nx:=λ_ H'=>Q .rW H',rt:=Q} (start N vs) H):Ae P w K mg base Bn (k+1) f fd ps sp:=by
 obtain⟨oc,od,kV,doc,pm,an,Ao,ct,Jm,rfl,lk,hcd⟩:=F.ex
 refine vM lk hcd S len λA outer s H vs Q E hr IT=>?_
 obtain⟨t,h,q⟩:=FG Ao A outer s H vs Q E hr IT
 exact⟨t,h.Jq,q⟩
theorem Hu.binds(F:Hu K x qual st f fd)
  (h:∀(kV doc pm:Value) (an:Option Addr) (Ao ct:Value) (us:List Value),us.length=ps.length->adj (acZ x qual (eB st) (bR st) (au st) .none kV doc pm an Ao ct) ⟨us,[]⟩=pure (ps.zip us)):Binds K fd ps []:=by
 obtain⟨oc,od,kV,doc,pm,an,Ao,ct,Jm,rfl,lk,hcd⟩:=F.ex
 exact .all (h kV doc pm an Ao ct)
variable{pm:Value}
theorem sY{oc:Value}{od an:Option Addr}{Jm:Array (Option Value)}{kV doc Ao ct:Value}(l:K.lookup f=some ⟨oc,od,.func (acZ x qual (eB st) (bR st) (au st) .none kV doc pm an Ao ct),Jm⟩)
  (c:aeI K Ao qual=true) (k:abM K (.ref f)=true):Hu K x qual st f (acZ x qual (eB st) (bR st) (au st) .none kV doc pm an Ao ct):=⟨⟨oc,od,kV,doc,pm,an,Ao,ct,Jm,rfl,l,c⟩,k⟩
variable{pos:Pos}
theorem pv(i:Nat)(hN:X.N[i]?=some x:=by rfl)(hv:GN X.env.scope x:=by first|exact Or.inl rfl|exact Or.inr (Or.inl rfl)|exact Or.inr (Or.inr rfl))(hd:(x==("__debug__" : Str))=false:=by decide)
  (hcd:(x==("__classdict__" : Str))=false:=by decide):PE X (.Name x pos) (AR i):=yj hN hv hd hcd
variable{A B:Prop}
theorem D6(h:B):if false=true then A else B:=by
 rw[if_neg aaB]
 exact h
theorem Ey(h:A):if true=true then A else B:=by
 rw[if_pos rfl]
 exact h
theorem Nj{c:Prop}[Decidable c](h1:c->A)(h2:¬ c->B):if c then A else B:=by
 by_cases h:c
 ·rw[if_pos h]
  exact h1 h
 ·rw[if_neg h]
  exact h2 h
def eQ(H H':Hp):Prop:=∀b o,H b=some o->H' b=some o
theorem eQ.refl(H:Hp):eQ H H:=λ_ _ h=>h
variable{H H':Hp}{l:Addr}
theorem eQ.free(e:eQ H H')(h:H' l=Option.none):H l=Option.none:=by
 cases q:H l with
 |none=>rfl
 |some o=>
  rw[e l o q]at h
  cases h
variable{a:Addr}{xs:List V}
theorem eQ.seq(e:eQ H H')(h:Bs K H a xs):Bs K H' a xs:=by
 rcases h with (h|⟨o,h⟩)|h
 ·exact .inl (.inl (e _ _ h))
 ·exact .inl (.inr ⟨o,e _ _ h⟩)
 ·exact .inr h
section
variable{κ:Type}[DecidableEq κ]
def B0(kvs:List (κ×V))(k:κ):Option V:=(kvs.find? λkv=>decide (kv.1=k)).map (·.2)
def putK(kvs:List (κ×V))(k:κ)(v:V):List (κ×V) :=
 if (kvs.any λkv=>decide (kv.1=k))=true then kvs.map (λkv=>if kv.1=k then (kv.1,v)else kv)else kvs++[(k,v)]
def Eg(kvs:List (κ×V))(k:κ):List (κ×V):=kvs.filter λkv=>decide (kv.1≠k)
theorem gI{p:κ×V}{r:List (κ×V)}{k:κ}(e:p.1=k):B0 (p::r) k=some p.2:=by simp[B0,abx,e]
theorem gJ{p:κ×V}{r:List (κ×V)}{k:κ}(e:¬ p.1=k):B0 (p::r) k=B0 r k:=by simp[B0,abx,e]
theorem nU(k:κ):∀kvs:List (κ×V),(kvs.any λkv=>decide (kv.1=k))=(B0 kvs k).isSome
 |[]=>rfl
 |p::r=>by
  rw[List.any_cons]
  by_cases e:p.1=k
  ·simp only[gI e,decide_eq_true e,Bool.true_or,Option.isSome_some]
  ·rw[gJ e,decide_eq_false e,Bool.false_or];exact nU k r
theorem fX(kvs:List (κ×V))(k:κ)(v:V):(putK kvs k v).length<=kvs.length+1:=by
 unfold putK
 split
 ·rw[aad];omega
 ·rw[aat,abA,adB];omega
theorem Dq.BX{o:Option V}{u:Option Value}(r:Dq o u):o.isSome=u.isSome:=by
 cases o with
 |none=>cases u with
  |none=>rfl
  |some _=>exact(show False from r).elim
 |some _=>cases u with
  |none=>exact(show False from r).elim
  |some _=>rfl
theorem KV.val{kvs:List (κ×V)}{vs:List (κ×Value)}(r:KV kvs vs)(k:κ):Dq (B0 kvs k) (aeM vs k):=by
 unfold KV at r
 induction r with
 |nil=>exact acH
 |@cons p q ps qs h t ih=>
  obtain⟨h1,h2⟩:=h
  by_cases e:p.1=k
  ·have e':q.1=k:=h1.symm.trans e
   have b:aeM (q::qs) k=some q.2:=by simp[aeM,abx,e']
   rw[gI e,b];exact h2
  ·have e':¬ q.1=k:=λz=>e (h1.trans z)
   have b:aeM (q::qs) k=aeM qs k:=by simp[aeM,abx,e']
   rw[gJ e,b];exact ih
theorem KV.any{kvs:List (κ×V)}{vs:List (κ×Value)}(r:KV kvs vs)(k:κ):(kvs.any λkv=>decide (kv.1=k))=vs.any λkv=>decide (kv.1=k):=by
 unfold KV at r
 induction r with
 |nil=>rfl
 |cons h t ih=>rw[List.any_cons,List.any_cons,ih,h.1]
theorem KV.KQ{kvs:List (κ×V)}{vs:List (κ×Value)}(r:KV kvs vs)(k:κ){y:V}{u:Value}(ry:RelV y u):
  KV (kvs.map λkv=>if kv.1=k then (kv.1,y)else kv) (vs.map λkv=>if kv.1=k then (kv.1,u)else kv):=by
 unfold KV at r ⊢
 induction r with
 |nil=>exact .nil
 |@cons p q ps qs h t ih=>
  rw[aap,aap]
  refine .cons ?_ ih
  obtain⟨h1,h2⟩:=h
  by_cases e:p.1=k
  ·rw[if_pos e,if_pos (h1.symm.trans e)];exact⟨h1,ry⟩
  ·rw[if_neg e,if_neg (λz=>e (h1.trans z))];exact⟨h1,h2⟩
theorem KV.put{kvs:List (κ×V)}{vs:List (κ×Value)}(r:KV kvs vs)(k:κ){y:V}{u:Value}(ry:RelV y u):KV (putK kvs k y) (stored vs k u):=by
 unfold putK stored
 rw[r.any k]
 by_cases e:(vs.any λkv=>decide (kv.1=k))=true
 ·rw[if_pos e,if_pos e];exact r.KQ k ry
 ·rw[if_neg e,if_neg e];exact Paired.snoc r ⟨rfl,ry⟩
theorem KV.drop{kvs:List (κ×V)}{vs:List (κ×Value)}(r:KV kvs vs)(k:κ):KV (Eg kvs k) (without vs k):=by
 unfold KV at r ⊢
 unfold Eg without
 induction r with
 |nil=>exact .nil
 |@cons p q ps qs h t ih=>
  obtain⟨h1,h2⟩:=h
  rw[ab8,ab8]
  by_cases e:p.1=k
  ·have a:¬ decide (p.1≠k)=true:=by simp[e]
   have b:¬ decide (q.1≠k)=true:=by simp[h1.symm.trans e]
   rw[if_neg a,if_neg b];exact ih
  ·have e':¬ q.1=k:=λz=>e (h1.trans z)
   have a:decide (p.1≠k)=true:=by simp[e]
   have b:decide (q.1≠k)=true:=by simp[e']
   rw[if_pos a,if_pos b];exact .cons ⟨h1,h2⟩ ih
theorem KV.keys{kvs:List (κ×V)}{vs:List (κ×Value)}(r:KV kvs vs):kvs.map (·.1)=vs.map (·.1):=by
 unfold KV at r
 induction r with
 |nil=>rfl
 |cons h t ih=>rw[aap,aap,ih,h.1]
theorem KV.length{kvs:List (κ×V)}{vs:List (κ×Value)}(r:KV kvs vs):kvs.length=vs.length:=ae1 r
theorem vk(kvs:List (κ×V))(k:κ):(Eg kvs k).length<=kvs.length:=aaS _ _
end
variable{u:Value}
theorem fD{k:Key}(r:RelV (kV k) u):(aN P w).is k u=true:=by
 cases k with
 |inl i=>obtain⟨t,e⟩:=(show ∃t,u=aeY i t from r);subst e;exact pN P w i t
 |inr x=>obtain⟨t,e⟩:=(show ∃t,u=ab9 x t from r);subst e;exact jM P w x t
theorem m5:∀{ks:List Key} {us:List Value},zP (ks.map kV) us->ItemsAre (aN P w) ks us
 |[],_,r=>by rw[afp]at r;cases r;exact .nil
 |k::ks,_,r=>by
  rw[aap]at r
  cases r with
  |cons h t=>exact .cons (fD h) (m5 t)
abbrev KT(H:Hp):List (List Key×V)->List (List Key×Addr×Value)->Prop:=Paired λp q=>p.1=q.1/\H q.2.1=some (.tup (p.1.map kV))/\RelV p.2 q.2.2
variable{kvs:List (List Key×V)}
theorem KT.val{xs:List (List Key×Addr×Value)}(r:KT H kvs xs)(k:List Key):Dq (B0 kvs k) ((atKey xs k).map (·.2)):=by
 induction r with
 |nil=>exact acH
 |@cons p q ps qs h t ih=>
  obtain⟨h1,_,h2⟩:=h
  by_cases e:p.1=k
  ·have e':q.1=k:=h1.symm.trans e
   have b:atKey (q::qs) k=some q.2:=by simp[atKey,abx,e']
   rw[gI e,b];exact h2
  ·have e':¬ q.1=k:=λz=>e (h1.trans z)
   have b:atKey (q::qs) k=atKey qs k:=by simp[atKey,abx,e']
   rw[gJ e,b];exact ih
variable{y:V}
theorem KT.KQ{xs:List (List Key×Addr×Value)}(r:KT H kvs xs)(k:List Key)(ry:RelV y u):
  KT H (kvs.map λkv=>if kv.1=k then (kv.1,y)else kv) (xs.map (putAt k u)):=by
 induction r with
 |nil=>exact .nil
 |@cons p q ps qs h t ih=>
  rw[aap,aap]
  refine .cons ?_ ih
  obtain⟨h1,h2,h3⟩:=h
  unfold putAt
  by_cases e:p.1=k
  ·rw[if_pos e,if_pos (h1.symm.trans e)];exact⟨h1,h2,ry⟩
  ·rw[if_neg e,if_neg (λz=>e (h1.trans z))];exact⟨h1,h2,h3⟩
variable{b:Addr}
theorem KT.put{xs:List (List Key×Addr×Value)}(r:KT H kvs xs)(k:List Key)(hb:H b=some (.tup (k.map kV)))(ry:RelV y u):
  KT H (putK kvs k y) (storedH xs k b u):=by
 have e:(kvs.any λkv=>decide (kv.1=k))=(atKey xs k).isSome:=by
  rw[nU,(r.val k).BX,afg]
 unfold putK storedH
 rw[e]
 by_cases q:(atKey xs k).isSome=true
 ·rw[if_pos q,if_pos q];exact r.KQ k ry
 ·rw[if_neg q,if_neg q];exact Paired.snoc r ⟨rfl,hb,ry⟩
theorem KT.keeps{xs:List (List Key×Addr×Value)}(r:KT H kvs xs)(ht:∀b ys,H b=some (.tup ys)->H' b=some (.tup ys)):KT H' kvs xs :=
 Paired.Lf r λ_ _ z=>⟨z.1,ht _ _ z.2.1,z.2.2⟩
variable{h:Heap}
theorem vD{u:HO}(ok:CD P w H h)(e:Rd H a u):Af P w H h a u:=e.ok ok
theorem hJ{kvs:List (Key×V)}(ok:CD P w H h)(e:Rd H a (.dK kvs)):kvs.length<=sizeLine/\(a==acx)=false/\∃vs,KV kvs vs/\h.DictOf (aN P w) a vs :=
 show Af P w H h a (.dK kvs)from vD ok e
theorem hU{kvs:List (Key×V)}(ok:CD P w H h)(e:H a=some (.dK kvs)):kvs.length<=sizeLine/\(a==acx)=false/\∃vs,KV kvs vs/\h.DictOf (aN P w) a vs:=hJ ok (.inl e)
theorem iQ{ks:List Key}(ok:CD P w H h)(e:H a=some (.tup (ks.map kV))):(afE (aN P w)).is h ks a:=by
 obtain⟨_,iD,r,o,h1,h2,n,h3⟩:=(show Af P w H h a (.tup (ks.map kV))from ok a _ e)
 exact⟨o,iD.toArray,n,h1,h2,h3,by simpa using m5 r⟩
theorem jw(ok:CD P w H h)(e:Rd H a (.dT kvs)):kvs.length<=sizeLine/\(a==acx)=false /\
  ∃xs,KT H kvs xs/\h.DictOfH (afE (aN P w)) a xs:=by
 obtain⟨z,y,xs,r,o,es,ep,h1,h2,h3,h4,h5⟩:=(show Af P w H h a (.dT kvs)from vD ok e)
 refine⟨z,y,xs,r,o,es,ep,h1,h2,h3,h4,λx hx=>?_,h5⟩
 have all:∀{l:List (List Key×V)} {m:List (List Key×Addr×Value)},KT H l m->∀x∈m,(afE (aN P w)).is h x.1 x.2.1:=by
  intro l m q
  induction q with
  |nil=>intro x hx;exact nomatch hx
  |@cons p q ps qs hq t ih=>
   intro x hx
   rcases List.mem_cons.mp hx with e|hx
   ·subst e
    exact iQ ok (by rw[<- hq.1];exact hq.2.1)
   ·exact ih x hx
 exact all r x hx
theorem zF(ok:CD P w H h)(e:H a=some (.dT kvs)):kvs.length<=sizeLine/\(a==acx)=false /\
  ∃xs,KT H kvs xs/\h.DictOfH (afE (aN P w)) a xs:=jw ok (.inl e)
def GV(H:Hp)(a:Addr)(y:V)(r:Option V):Prop :=
 (∃kvs k,Rd H a (.dK kvs)/\y=kV k/\r=B0 kvs k)\/∃kvs k b,Rd H a (.dT kvs)/\y=.ref b/\H b=some (.tup (k.map kV))/\r=B0 kvs k
def LZ(H:Hp)(a:Addr)(y v:V)(H':Hp):Prop :=
 (∃kvs k,H a=some (.dK kvs)/\y=kV k/\kvs.length<sizeLine/\H'=upd H a (.dK (putK kvs k v))) \/
 ∃kvs k b,H a=some (.dT kvs)/\y=.ref b/\H b=some (.tup (k.map kV))/\kvs.length<sizeLine/\H'=upd H a (.dT (putK kvs k v))
theorem RR{kvs:List (Key×V)}{k:Key}(e:H a=some (.dK kvs)):GV H a (kV k) (B0 kvs k):=.inl ⟨kvs,k,.inl e,rfl,rfl⟩
variable{v:V}
theorem Tt{kvs:List (Key×V)}{k:Key}(e:H a=some (.dK kvs))(hl:kvs.length<sizeLine):LZ H a (kV k) v (upd H a (.dK (putK kvs k v))):=.inl ⟨kvs,k,e,rfl,hl,rfl⟩
variable{pins:List (Addr×Obj)}{σ:St}{s:Shared}{r:Value}{o:Option V}{A:Around}{E:Value->Shared->Prop}
theorem Inv.Ra(I:Inv X pins σ H s):acx<s.heap.objs.size:=by
 have h:aaJ<s.heap.objs.size:=(I.mod.glob.keeps I.bk).lt
 exact Nat.lt_trans (by decide) h
variable{Q:Value->Shared->Prop}
theorem tK(hu:A.units+1<cLine)(I:Inv X pins σ H s)(g:GV H a y (some v))(ry:RelV y u)(h:∀w' s',Inv X pins σ H s'->RelV v w'->Q w' s'):
  wpAny (model X.prog X.w) A (ado (.ref a) u) Q E s:=by
 rcases g with ⟨kvs,k,e,ey,l⟩|⟨kvs,k,b,e,ey,eb,l⟩
 ·subst ey
  obtain⟨z,hd,vs,rel,dd⟩:=hJ I.zY e
  obtain⟨w',hw,Du⟩:=Dq.some_of (v:=v) (o:=aeM vs k) (by rw[l];exact rel.val k)
  exact wpAny_getItem_of (fD ry) dd.mapOf hw (h w' _ (I.tok _) Du)
 ·subst ey
  cases (show u=aar b from ry)
  obtain⟨z,hd,xs,rel,dd⟩:=jw I.zY e
  obtain⟨w',hw,Du⟩:=Dq.some_of (v:=v) (o:=(atKey xs k).map (·.2)) (by rw[l];exact rel.val k)
  obtain⟨p,hp,Mc⟩:=Option.map_eq_some_iff.mp hw
  refine wpAny_getItem_heap (adG hu) (iQ I.zY eb) dd hp ?_
  rw[Mc]
  exact h w' _ (I.tok _) Du
theorem zJ(hu:A.units+1<cLine)(I:Inv X pins σ H s)(g:GV H a y o)(ry:RelV y u)(h:∀s',Inv X pins σ H s'->Q (.bool o.isSome) s'):
  wpAny (model X.prog X.w) A (aaV .In u (.ref a)) Q E s:=by
 rcases g with ⟨kvs,k,e,ey,l⟩|⟨kvs,k,b,e,ey,eb,l⟩
 ·subst ey
  obtain⟨z,hd,vs,rel,dd⟩:=hJ I.zY e
  refine wpAny_in_of (fD ry) hd dd.mapOf ?_
  rw[<- (rel.val k).BX,<- l]
  exact h _ (I.tok _)
 ·subst ey
  cases (show u=aar b from ry)
  obtain⟨z,hd,xs,rel,dd⟩:=jw I.zY e
  refine wpAny_in_heap (adG hu) (iQ I.zY eb) hd dd ?_
  have q:=(rel.val k).BX
  rw[afg]at q
  rw[<- q,<- l]
  exact h _ (I.tok _)
theorem xG(hu:A.units+1<cLine)(I:Inv X pins σ H s)(g:GV H a y o)(ry:RelV y u)(h:∀s',Inv X pins σ H s'->Q (.bool (!o.isSome)) s'):
  wpAny (model X.prog X.w) A (aaV .NotIn u (.ref a)) Q E s:=by
 rcases g with ⟨kvs,k,e,ey,l⟩|⟨kvs,k,b,e,ey,eb,l⟩
 ·subst ey
  obtain⟨z,hd,vs,rel,dd⟩:=hJ I.zY e
  refine wpAny_notIn_of (fD ry) hd dd.mapOf ?_
  rw[<- (rel.val k).BX,<- l]
  exact h _ (I.tok _)
 ·subst ey
  cases (show u=aar b from ry)
  obtain⟨z,hd,xs,rel,dd⟩:=jw I.zY e
  refine wpAny_notIn_heap (adG hu) (iQ I.zY eb) hd dd ?_
  have q:=(rel.val k).BX
  rw[afg]at q
  rw[<- q,<- l]
  exact h _ (I.tok _)
variable{h':Heap}{t':Nat}
theorem jz{ob:HO}(I:Inv X pins σ H s)(mu:N7 (H a))(hs:acn a s.heap h')(he:∃q,h'.get? a=some q)(new:Af X.prog X.w (upd H a ob) h' a ob):
  Inv X pins σ (upd H a ob) {s with heap:=h',toks:=t'} :=
 I.write (x:=a) (e:=a) mu (.inl rfl) (λb q hb z=>(hs.2 b hb).trans z) he new
variable{vs:List (Key×Value)}
theorem oY{kvs:List (Key×V)}(z:kvs.length<=sizeLine)(hd:(a==acx)=false)(rel:KV kvs vs)(dd:h'.DictOf (aN P w) a vs):
  Af P w H' h' a (.dK kvs):=⟨z,hd,vs,rel,dd⟩
theorem tJ{Q:Unit->Shared->Prop}(hu:A.units+1<cLine)(I:Inv X pins σ H s)(g:LZ H a y v H')(ry:RelV y u)(rv:RelV v r)(h:∀s',Inv X pins σ H' s'->Q () s'):
  wpAny (model X.prog X.w) A (setItem (.ref a) u r) Q E s:=by
 rcases g with ⟨kvs,k,e,ey,l,eH⟩|⟨kvs,k,b,e,ey,eb,l,eH⟩
 ·subst ey eH
  obtain⟨z,hd,vs,rel,dd⟩:=hU I.zY e
  have hz:vs.length<=sizeLine:=by rw[<- rel.length];exact z
  have hl:(putK kvs k v).length<=sizeLine:=by have:=fX kvs k v;omega
  refine wpAny_setItem_pairs (hsz:=hz) (fD ry) dd λh' I0 hs=>h _ ?_
  have he:∃q,h'.get? a=some q:=let ⟨q,_,_,hq,_⟩:=I0;⟨q,hq⟩
  exact jz I (by rw[e];exact acH) hs he (oY hl hd (rel.put k rv) I0)
 ·subst ey eH
  cases (show u=aar b from ry)
  obtain⟨z,hd,xs,rel,dd⟩:=zF I.zY e
  have hz:xs.length<=sizeLine:=by rw[<- ae1 rel];exact z
  have hl:(putK kvs k v).length<=sizeLine:=by have:=fX kvs k v;omega
  refine wpAny_setItem_heap (hsz:=hz) (adG hu) (iQ I.zY eb) dd λh' I0 hs=>h _ ?_
  obtain⟨q,es,ep,hq,h2,h3,h4,_,h5⟩:=I0
  refine jz I (by rw[e];exact acH) hs ⟨q,hq⟩ ⟨hl,hd,_,(rel.put k eb rv).keeps λc ys ec=>?_,q,es,ep,hq,h2,h3,h4,h5⟩
  rw[ak (vL ec e (λz=>nomatch z))]
  exact ec
variable{kvs:List (Key×V)}{k:Key}
theorem zG{more:List Value}(I:Inv X pins σ H s)(e:H a=some (.dK kvs))(ry:RelV (kV k) u)(l:B0 kvs k=some v)(hm:more=[]\/∃x,more=[x])
  (h:∀w' s',Inv X pins σ (upd H a (.dK (Eg kvs k))) s'->RelV v w'->Q w' s'):wpAny (model X.prog X.w) A (call (.builtin "dict.pop") (.ref a::u::more)) Q E s:=by
 obtain⟨z,hd,vs,rel,dd⟩:=hU I.zY e
 obtain⟨w',hw,Du⟩:=Dq.some_of (v:=v) (o:=aeM vs k) (by rw[<- l];exact rel.val k)
 have hp:(keyPart u).isSome=true:=by
  cases k with
  |inl i=>obtain⟨t,q⟩:=(show ∃t,u=aeY i t from ry);subst q;rfl
  |inr x=>obtain⟨t,q⟩:=(show ∃t,u=ab9 x t from ry);subst q;rfl
 have ha:argsOk "dict.pop" ⟨.ref a::u::more,[]⟩:=by
  rcases hm with q|⟨x,q⟩
  ·subst q;exact PySem.F.args_dict_pop_2 _ _
  ·subst q;exact PySem.F.args_dict_pop_3 _ _ _
 refine call_meetsIn PySem.F.slot_dict_pop dd.typeIs PySem.F.entry_dict_pop ha (meets_dict_pop_there (aN X.prog X.w) a (fD ry) more hm hp)
  ⟨vs,w',dd,by rw[<- rel.length];exact z,hw,λh' I0 hs=>h w' _ ?_ Du⟩
 have he:∃q,h'.get? a=some q:=let ⟨q,_,_,hq,_⟩:=I0;⟨q,hq⟩
 exact jz I (by rw[e];exact acH) hs he (oY (aa2 (vk kvs k) z) hd (rel.drop k) I0)
theorem zH(I:Inv X pins σ H s)(e:Rd H a (.dK kvs))(h:∀t s',Inv X pins σ H s'->Q (.int kvs.length t) s'):wpAny (model X.prog X.w) A (call (.builtin "len") [.ref a]) Q E s:=by
 obtain⟨z,hd,vs,rel,dd⟩:=hJ I.zY e
 refine call_len_dict hd dd (by rw[<- rel.length];rw[aaz]at z;omega) ?_
 rw[<- rel.length]
 exact h _ _ (I.tok _)
def LX(i:Expr):Prop:=∀ov iv,afF i false ov iv=operate [ov,iv] (ado ov iv)
variable{env:Env}
theorem wj{prog:aaI}{value slice:Expr}{T id:String}
  (hl:typeLookup (.type T) "__getitem__" = pure (some (.builtin id))) (hs:LX slice)
  (h:wpAny (model prog w) A (eval value env) (λo s₁=>wpAny (model prog w) A (eval slice env) (λi s₂=>s₂.TypeIs o T/\wpAny (model prog w) A (ado o i) Q E s₂) E s₁) E s) :
  wpAny (model prog w) A (eval (.Subscript value slice pos) env) Q E s:=by
 refine afc (aaL h (λo s₁ h₁=>aaL h₁ (λi s₂ h₂=>?_) λ_ _ x=>x) λ_ _ x=>x)
 obtain⟨hT,h₂⟩:=h₂
 unfold aeV
 refine aaa ?_
 rw[getitemInPython_of_ne hT.not_modules]
 refine aaa (wpAny_specialOf hT hl ?_)
 have fin:wpAny (model prog w) A (afF slice false o i) (λr s₃=>wpAny (model prog w) A (letTemporaryGo value o r >>= λ_=>pure r) Q E s₃) E s₂:=by
  rw[hs o i]
  exact wpAny_operating (aaL h₂ (λr s₃ h₃=>aaa (wpAny_letTemporaryGo (aaf h₃))) λ_ _ x=>x)
 first
  |exact aaf (aaa fin)
  |exact aaa (aaf (aaa fin))
  |exact aaa fin
theorem pT(I:Inv X pins σ H s)(g:GV H a y o):s.TypeIs (.ref a) "dict" :=by
 rcases g with ⟨kvs,k,e,_,_⟩|⟨kvs,k,b,e,_,_,_⟩
 ·obtain⟨_,_,vs,_,dd⟩:=hJ I.zY e
  exact dd.typeIs
 ·obtain⟨_,_,xs,_,dd⟩:=jw I.zY e
  exact dd.typeIs
variable{o i e value:Expr}{pos' ER:Pos}{td ty tv:TE}
theorem oZ(h:Heap)(hb:acx<h.objs.size):Af P w H (h.push {cls:=.type "dict",data:=.dict #[]}) h.objs.size (.dK []) :=
 ⟨abd _,beq_eq_false_iff_ne.mpr (abG (aaq hb)),[],.nil,Heap.DictOf.new h⟩
def Kz:TE:=λ_ H Q=>∀p,H p=none->Q (.ref p) (upd H p (.dK []))
theorem ux:PE X (.Dict [] [] pos) Kz:=λpins s σ H Q I h=>
 wpAny_Dict_empty ⟨.ref s.heap.objs.size,_,I.laid (a:=s.heap.objs.size) (o:=.dK []) (t':=s.toks) (λ_ _ q=>aac _ q) (aak _) (oZ s.heap I.Ra),rfl,h _ (I.zY.fresh (aak _))⟩
def F9:List (TE×TE)->St->Hp->(List (V×V)->Hp->Prop)->Prop
 |[],_,H,Q=>Q [] H
 |(tk,tv)::r,σ,H,Q=>tk σ H λx H1=>tv σ H1 λy H2=>F9 r σ H2 λps H3=>Q ((x,y)::ps) H3
abbrev VV:List (V×V)->List (Value×Value)->Prop:=Paired λp q=>RelV p.1 q.1/\RelV p.2 q.2
def OW(X:Cx)(pos:Pos)(keys:List (Option Expr))(values:List Expr)(JQ:List (TE×TE)):Prop :=
 ∀(pins:List (Addr×Obj)) (s:Shared) (σ:St) (H:Hp) (Q:List (V×V)->Hp->Prop),Inv X pins σ H s->F9 JQ σ H Q ->
  wpAny (model X.prog X.w) X.A (evalPairs (pairTrees keys values X.env pos)) (λvs s'=>∃ps H',Inv X pins σ H' s'/\VV ps vs/\Q ps H') X.xe s
theorem wG:OW X pos [] [] []:=λpins s σ H Q I h=>pairTrees_nil_walk ⟨[],H,I,.nil,h⟩
theorem ui{k v:Expr}{ks:List (Option Expr)}{vs:List Expr}{tk:TE}{JQ:List (TE×TE)}(hk:PE X k tk)(hv:PE X v tv)(hr:OW X pos ks vs JQ):
  OW X pos (some k::ks) (v::vs) ((tk,tv)::JQ):=λpins s σ H Q I h=>
 pairTrees_cons_walk (Aw (hk pins s σ H _ I h) λu s1 ⟨x,H1,I1,rx,q1⟩=>Aw (hv pins s1 σ H1 _ I1 q1) λw2 s2 ⟨y,H2,I2,ry,q2⟩=>
  Aw (hr pins s2 σ H2 _ I2 q2) λws s3 ⟨ps,H3,I3,rel,q3⟩=>⟨(x,y)::ps,H3,I3,.cons ⟨rx,ry⟩ rel,q3⟩)
def Ic(kvs more:List (Key×V)):List (Key×V):=more.foldl (λacc kv=>putK acc kv.1 kv.2) kvs
structure M1(X:Cx)(o:Expr)(m:Str)(apos:Pos)(e:Expr)(Bl:Pos):Prop where
 base:acr o m X.env (eval o X.env)=eval o X.env
 few:((backTo Bl (aam [e] X.env)).all (λx=>!x.1) && (backToKw Bl (aeO [] X.env)).all (λx=>x.1.isSome)
  && decide (([e]:List Expr).length+([]:List afi).length+(if ([]:List afi).isEmpty then 0 else 1)<30))=true
 line:(apos.endLine==Bl.line)=true
 trees:backTo Bl (aam [e] X.env)=[(false,eval e X.env)]
def Sz(H:Hp)(a:Addr):Prop:=(∃kvs,Rd H a (.dK kvs))\/∃kvs,Rd H a (.dT kvs)
theorem oO(I:Inv X pins σ H s)(d:Sz H a):
  s.TypeIs (.ref a) "dict" /\ (∀b,aar a=.ref b->∃ob,s.heap.get? b=some ob/\ob.dict=none)/\(a==acx)=false:=by
 rcases d with ⟨kvs,e⟩|⟨kvs,e⟩
 ·obtain⟨_,hd,vs,_,dd⟩:=hJ I.zY e
  refine⟨dd.typeIs,λb q=>?_,hd⟩
  cases q
  obtain⟨ob,_,_,h1,h2,_⟩:=dd
  exact⟨ob,h1,h2.2.1⟩
 ·obtain⟨_,hd,xs,_,dd⟩:=jw I.zY e
  refine⟨dd.typeIs,λb q=>?_,hd⟩
  cases q
  obtain⟨ob,_,_,h1,h2,_⟩:=dd
  exact⟨ob,h1,h2.2.1⟩
variable{d:V}{o:Option V}
def Ky(td ty:TE):TE:=λσ H Q=>td σ H λx H1=>∃a,x=.ref a/\Sz H1 a/\ty σ H1 λy H2=>∃kvs k v,H2 a=some (.dK kvs)/\y=kV k/\B0 kvs k=some v/\Q v (upd H2 a (.dK (Eg kvs k)))
variable{o f:Expr}{apos Bl:Pos}{tx:TE}
theorem uw(ho:PE X o td)(he:PE X e ty)(m:M1 X o "pop" apos e Bl):PE X (.Call (.Attribute o "pop" apos) [e] [] Bl) (Ky td ty):=by
 intro pins s σ H Q I h
 refine wpAny_Call_method m.base m.few m.line ad7 PySem.F.slot_dict_pop PySem.F.type_dict_pop (Aw (ho pins s σ H _ I h) λu s1 ⟨x,H1,I1,rx,a,ex,d,q1⟩=>?_)
 subst ex
 obtain rfl:u=aar a:=rx
 obtain⟨t1,t2,_⟩:=oO I1 d
 refine⟨t1,t2,?_⟩
 rw[m.trees]
 refine ade rfl (Calls.evalArgs_plain (Calls.spliced_cons (Aw (he pins s1 σ H1 _ I1 q1) λiv s2 ⟨y,H2,I2,ry,kvs,k,v,ea,ey,l,q2⟩=>Calls.spliced_nil ?_)))
 subst ey
 exact zG I2 ea ry l (.inl rfl) λw' s3 I3 Du=>⟨v,_,I3,Du,q2⟩
theorem tS:zZ X (.builtin "len") (λxs H Q=>∃a kvs,xs=[V.ref a]/\H a=some (.dK kvs)/\Q (.int kvs.length) H):=by
 intro pins s σ H xs us Q I r h
 obtain⟨a,kvs,rfl,ha,q⟩:=h
 obtain⟨u,rfl,ru⟩:=vals1 r
 cases ru
 exact zH I (.inl ha) λt s' I'=>⟨.int kvs.length,H,I',⟨t,rfl⟩,q⟩
section
variable{κ:Type}[DecidableEq κ]
end
end L2
set_option maxHeartbeats 4000000
namespace L2
open PySem PySem.Spec PyProof.Rows
def Cn(cells:List (Str×Addr)):List (Str×adI)->List (Str×Addr)->List (Str×Addr)
 |[],acc=>acc
 |(n,k)::r,acc=>if k==.free then Cn cells r ((n,(cells.lookup n).getD 0)::acc)else Cn cells r acc
theorem lH{env:Env}:∀(names:List (Str×adI)) (acc:List (Str×Addr)),(∀x∈names,x.2=.free->∃c,env.cells.lookup x.1=some c) ->
  (forIn names acc λ(x:Str×adI) (cs:List (Str×Addr))=>match x with
   |(name,kind)=>if (kind==abp)=true then (do let c <- cellOf env name;pure (aev ((name,c)::cs)))else pure (aev cs):Sem (List (Str×Addr)))=pure (Cn env.cells names acc)
 |[],acc,_=>by simp[Cn]
 |(n,k)::r,acc,h=>by
  have hr:=λacc=>lH (env:=env) r acc λx hx=>h x (aaw _ hx)
  rw[afN]
  unfold Cn
  by_cases hk:(k==abp)=true
  ·obtain⟨c,hc⟩:=h (n,k) aay (by simpa using hk)
   have Gv:env.cells.lookup n=some c:=hc
   have e:cellOf env n=pure c:=by unfold cellOf;rw[Gv]
   rw[if_pos hk]
   dsimp only
   rw[if_pos hk,e,pure_bind,pure_bind]
   rw[Gv]
   exact hr _
  ·rw[if_neg hk]
   dsimp only
   rw[if_neg hk,pure_bind]
   exact hr acc
variable{scope:Scope}{env:Env}
theorem ij(h:∀x∈scope.names,x.2=.free->∃c,env.cells.lookup x.1=some c):closureFor scope env=pure (Cn env.cells scope.names []):=by
 have e:=lH (env:=env) scope.names [] h
 unfold closureFor
 simp only[pure_bind,bind_pure]
 exact e
variable{x:Str}
theorem fq{cells:List (Str×Addr)}{c:Addr}:∀{names:List (Str×adI)} {acc:List (Str×Addr)},(∀y∈names,y.2=.free->∃c,cells.lookup y.1=some c)->(∀c,acc.lookup x=some c->cells.lookup x=some c) ->
  (Cn cells names acc).lookup x=some c->cells.lookup x=some c
 |[],acc,_,ha,e=>ha c e
 |(n,k)::r,acc,h,ha,e=>by
  have hr:∀y∈r,y.2=.free->∃c,cells.lookup y.1=some c:=λy hy=>h y (aaw _ hy)
  unfold Cn at e
  split at e
  ·rename_i hk
   refine fq hr (λc' e'=>?_) e
   rw[abn]at e'
   split at e'
   ·rename_i hx
    obtain⟨c0,hc⟩:=h (n,k) aay (by simpa using hk)
    have Gv:cells.lookup n=some c0:=hc
    rw[Gv]at e'
    have:x=n:=by simpa using hx
    rw[this,Gv];exact e'
   ·exact ha c' e'
  ·exact fq hr ha e
theorem hW{cells:List (Str×Addr)}:∀{names:List (Str×adI)} {acc:List (Str×Addr)},((x,abp)∈names\/∃c,acc.lookup x=some c)->∃c,(Cn cells names acc).lookup x=some c
 |[],acc,h=>by
  rcases h with h|h
  ·simp at h
  ·exact h
 |(n,k)::r,acc,h=>by
  unfold Cn
  split
  ·refine hW ?_
   rcases h with h|⟨c,h⟩
   ·rcases List.mem_cons.mp h with e|e
    ·cases e
     exact .inr ⟨_,by rw[abn];simp;rfl⟩
    ·exact .inl e
   ·refine .inr ?_
    rw[abn]
    split
    ·exact⟨_,rfl⟩
    ·exact⟨c,h⟩
  ·rename_i hk
   refine hW ?_
   rcases h with h|h
   ·rcases List.mem_cons.mp h with e|e
    ·cases e
     exact absurd rfl hk
    ·exact .inl e
   ·exact .inr h
def zV(X:Cx)(scope:Scope)(N:List Str)(C:Addr)(s₀:Shared)(H₀:Hp)(ex:List Addr)(pn:List (Addr×Obj)):Cx :=
 {X with N:=N,s₀:=s₀,H₀:=H₀,env:=compEnvC scope (Cn X.env.cells scope.names []) C X.env,outer:=X.stack,stack:=X.stack,ex:=ex,fn:=λ_=>false,pn:=pn,xe:=λ_ _=>False}
def AE(js:List (Option Nat))(σ:St):St:=js.map λo=>o.bind λj=>(σ[j]?).getD none
def Ce(M:List Str)(scope:Scope)(N:List Str)(js:List (Option Nat)):Bool :=
 decide (N.length=js.length) && (N.zip js).all λp=>match p.2 with
  |none=>true
  |some j=>decide (M[j]?=some p.1) && (decide (scope.names.lookup p.1=some .free) || decide (scope.names.lookup p.1=none))
def DT(env:Env)(scope:Scope):Bool :=
 scope.names.all λx=>match x.2 with
  |.free=>decide (env.kindOf x.1=some .cell) || decide (env.kindOf x.1=some .free)
  |.cell=>false
  |.local=>decide (scope.names.lookup x.1=some .local)
  |_=>true
theorem kX{scope:Scope}{k:adI}:∀{names:List (Str×adI)},(∀y∈names,y.2≠.cell)->(k=.cell\/k=.free) ->
  (names.map λ(n,k)=>if (k==abp && env.scope.kind==.function && env.kindOf n==some .cell)then (n,ac7)else (n,k)).lookup x=some k->(x,abp)∈names:=by
 intro names hn hk h
 have hm:=ab4 h
 obtain⟨⟨n,k0⟩,h0,e⟩:=List.mem_map.mp hm
 dsimp only at e
 split at e
 ·rename_i hc
  cases e
  simp only[aaT]at hc
  have:k0=.free:=by simpa using hc.1.1
  subst this
  exact h0
 ·cases e
  rcases hk with e|e
  ·exact absurd e (hn _ h0)
  ·subst e;exact h0
theorem iK{env:Env}{x:Str}:∀{names:List (Str×adI)},names.lookup x=some .free ->
  (names.map λ(n,k)=>if (k==abp && env.scope.kind==.function && env.kindOf n==some .cell)then (n,ac7)else (n,k)).lookup x=some .cell \/
  (names.map λ(n,k)=>if (k==abp && env.scope.kind==.function && env.kindOf n==some .cell)then (n,ac7)else (n,k)).lookup x=some .free
 |[],h=>by simp at h
 |(n,k)::r,h=>by
  have ih:=@iK env x r
  show adz x ((if (k==abp && env.scope.kind==.function && env.kindOf n==some .cell)=true then (n,ac7)else (n,k))::_)=_\/adz x ((if (k==abp && env.scope.kind==.function && env.kindOf n==some .cell)=true then (n,ac7)else (n,k))::_)=_
  cases hx:x==n with
  |true=>
   simp only[abn,hx]at h
   cases h
   by_cases hc:(abp==abp && env.scope.kind==.function && env.kindOf n==some .cell)=true
   ·rw[if_pos hc];left;simp only[abn,hx]
   ·rw[if_neg hc];right;simp only[abn,hx]
  |false=>
   simp only[abn,hx]at h
   by_cases hc:(k==abp && env.scope.kind==.function && env.kindOf n==some .cell)=true
   ·rw[if_pos hc];simp only[abn,hx];exact ih h
   ·rw[if_neg hc];simp only[abn,hx];exact ih h
variable{X:Cx}{pins:List (Addr×Obj)}{σ:St}{H:Hp}{s:Shared}
structure JJ(env:Env)(scope:Scope):Prop where
 fr:∀x∈scope.names,x.2=.free->env.kindOf x.1=some .cell\/env.kindOf x.1=some .free
 nc:∀x∈scope.names,x.2≠.cell
 lc:∀x∈scope.names,x.2=.local->scope.names.lookup x.1=some .local
theorem qa(h:DT env scope=true):JJ env scope:=by
 have q:=List.all_eq_true.mp h
 refine⟨λx hx e=>?_,λx hx e=>?_,λx hx e=>?_⟩
 ·have:=q x hx
  rw[e]at this
  simp only[aey,decide_eq_true_eq]at this
  exact this
 ·have:=q x hx
  rw[e]at this
  cases this
 ·have:=q x hx
  rw[e]at this
  simpa using this
theorem JJ.cells(h:JJ X.env scope)(ok:X.Ok):∀x∈scope.names,x.2=.free->∃c,X.env.cells.lookup x.1=some c:=λx hx e=>ok.has x.1 (h.fr x hx e)
structure Kj(M:List Str)(scope:Scope)(N:List Str)(js:List (Option Nat)):Prop where
 len:N.length=js.length
 at':∀(i:Nat) (x:Str) (j:Nat),N[i]?=some x->js[i]?=some (some j)->M[j]?=some x/\(scope.names.lookup x=some .free\/scope.names.lookup x=none)
variable{N:List Str}{js:List (Option Nat)}
theorem pi{M:List Str}(h:Ce M scope N js=true):Kj M scope N js:=by
 unfold Ce at h
 rw[aaT]at h
 refine⟨of_decide_eq_true h.1,λi x j hx hj=>?_⟩
 have hm:(x,some j)∈N.zip js:=by
  refine abh (i:=i) ?_
  rw[aaX]
  exact⟨hx,hj⟩
 have q:=List.all_eq_true.mp h.2 _ hm
 simp only[aaT,aey,decide_eq_true_eq]at q
 exact q
theorem iJ{env:Env}{x:Str}:∀{names:List (Str×adI)},names.lookup x=none ->
  (names.map λ(n,k)=>if (k==abp && env.scope.kind==.function && env.kindOf n==some .cell)then (n,ac7)else (n,k)).lookup x=none
 |[],h=>rfl
 |(n,k)::r,h=>by
  have ih:=@iJ env x r
  show adz x ((if (k==abp && env.scope.kind==.function && env.kindOf n==some .cell)=true then (n,ac7)else (n,k))::_)=_
  cases hx:x==n with
  |true=>simp only[abn,hx]at h;cases h
  |false=>
   simp only[abn,hx]at h
   by_cases hc:(k==abp && env.scope.kind==.function && env.kindOf n==some .cell)=true
   ·rw[if_pos hc];simp only[abn,hx];exact ih h
   ·rw[if_neg hc];simp only[abn,hx];exact ih h
variable{C:Addr}{fp:List Addr}
theorem oP{h₁:Heap}{tk:Nat}(I:Inv X pins σ H s)(DM:JJ X.env scope)(A6:Kj X.N scope N js)(Au:scope.kind=.function)
  (hf:∀b∈fp,CV X pins H b) (Ur:∀b∈fp,b<s.heap.objs.size) (hC:C=s.heap.objs.size) (keep:∀b o,s.heap.get? b=some o->h₁.get? b=some o) (J6:h₁.Ns C λ_=>none) :
  Inv (zV X scope N C s H fp (X.pn++pins)) [] (AE js σ) H {s with heap:=h₁,toks:=tk}:=by
 have IW:=DM.cells I.ok
 have Mm:∀x c,(Cn X.env.cells scope.names []).lookup x=some c->X.env.cells.lookup x=some c:=λx c e=>fq IW (λc e=>by simp at e) e
 have L9:∀b o,s.heap.get? b=some o->b≠C:=λb o e=>by rw[hC];exact aaq (aaj e)
 refine⟨⟨I.ok.mod,Au,I.ok.glob,I.ok.blt,afo hC.symm,λx y c e1 e2=>?_,λx hx=>?_,λx c e=>?_,I.ok.hd,I.ok.frames,.inl rfl,λb hb=>⟨?_,λx c e=>?_⟩,I.bs,aa2 I.ok.Kc I.sz,λb o e hb=>?_,λb hb z=>?_,I.stack,I.GZ⟩,
  rfl,I.bare,Un.kept keep,⟨_,J6,λi x v h1 h2 h3=>?_⟩,λx c e=>?_,I.zY.fresh (afo hC.symm),λx c e=>I.BY x c (Mm x c e),λp hp=>?_,I.zY.kept keep,?_⟩
 ·exact I.ok.inj x y c (Mm x c e1) (Mm y c e2)
 ·have hm:(x,abp)∈scope.names:=by
   rcases hx with hx|hx
   ·exact kX (scope:=scope) (env:=X.env) (k:=.cell) DM.nc (.inl rfl) hx
   ·exact kX (scope:=scope) (env:=X.env) (k:=.free) DM.nc (.inr rfl) hx
  exact hW (.inl hm)
 ·exact absurd e (by intro z;cases z)
 ·show b≠C
  rw[hC];exact aaq (Ur b hb)
 ·exact(hf b hb).2.2.2.2.1 x c (Mm x c e)
 ·obtain⟨_,_,_,q,_⟩:=hf b hb
  rcases q with q|q
  ·exact I.ok.HZ b o e q
  ·exact absurd (aaG (aaj (I.ok.bs b o e).1) q) (abl _)
 ·obtain⟨_,q1,q2,_⟩:=hf b hb
  rcases List.mem_cons.mp (I.C7 b z)with e|e
  ·exact q1 e
  ·exact q2 e
 ·have h1:N[i]?=some x:=h1
  unfold AE at h2
  rw[aal]at h2
  cases ej:js[i]? with
  |none=>rw[ej]at h2;cases h2
  |some o=>
   cases o with
   |none=>rw[ej]at h2;cases h2
   |some j=>
    rw[ej]at h2
    have IZ:(σ[j]?).getD none=some v:=by simpa using h2
    have hσ:σ[j]?=some (some v):=by
     cases eσ:σ[j]? with
     |none=>rw[eσ]at IZ;cases IZ
     |some w'=>rw[eσ]at IZ;exact congrArg some IZ
    obtain⟨hM,IV⟩:=A6.at' i x j h1 ej
    rcases IV with IV|IV
    case inr=>
     have hn:=iJ (env:=X.env) IV
     rcases h3 with h3|h3|h3
     ·exact absurd (hn.symm.trans h3) (by simp)
     ·exact absurd (hn.symm.trans h3) (by simp)
     ·exact absurd (hn.symm.trans h3) (by simp)
    have NB:=ab4 IV
    have R8:=DM.fr _ NB rfl
    have Qm:GN X.env.scope x:=R8.elim (λz=>.inr (.inl z)) λz=>.inr (.inr z)
    obtain⟨m,hn,hl⟩:=I.loc
    obtain⟨u,ru,lk⟩:=hl j x v hM hσ Qm
    refine⟨u,ru,?_⟩
    rcases lk with ⟨k,_⟩|⟨k,c,ec,z⟩
    ·rcases R8 with q|q
     ·rw[show X.env.kindOf x=some .cell from q]at k;cases k
     ·rw[show X.env.kindOf x=some .free from q]at k;cases k
    ·obtain⟨c',Gv⟩:=hW (cells:=X.env.cells) (acc:=[]) (.inl NB)
     have e2:=Mm x c' Gv
     rw[ec]at e2;cases e2
     refine .inr ⟨iK (env:=X.env) IV,c,Gv,?_⟩
     obtain⟨o,ho,hd⟩:=z
     exact⟨o,keep _ _ ho,hd⟩
 ·obtain⟨v,o,ho,hd⟩:=I.cell x c (Mm x c e)
  exact⟨v,o,keep _ _ ho,hd⟩
 ·have T4:p∈X.pn++pins:=by
   have Mc:p∈(X.pn++pins)++[]:=hp
   rwa [aby]at Mc
  obtain⟨e,n,ne,nf,d⟩:=I.pin p T4
  refine⟨keep _ _ e,n,L9 _ _ e,λz=>?_,d⟩
  rcases List.mem_cons.mp (I.C7 p.1 z)with q|q
  ·exact ne q
  ·exact nf q
 ·unfold AE
  rw[aad]
  exact A6.len.symm
variable{H':Hp}{s':Shared}
theorem oQ{σ':St}(I:Inv X pins σ H s)(J:Inv (zV X scope N C s H fp (X.pn++pins)) [] σ' H' s')(hf:∀b∈fp,CV X pins H b):Inv X pins σ H' s' :=
 I.NX (ch:=fp) J.os J.base J.zY J.bare λb hb=>let ⟨_,q1,_,q3,q4,q5⟩:=hf b hb;⟨q3,q1,q4,q5⟩
def CL(js:List (Option Nat))(g:TG):Prop:=∀x σ H Q,g x σ H Q->g x σ H λσ' H'=>Q σ' H'/\σ'.length=σ.length/\∀(k j:Nat),js[k]?=some (some j)->σ'[k]?=σ[k]?
def Ob(js:List (Option Nat))(g:HC):Prop:=∀x σ H Q,g x σ H Q->g x σ H λσ' H'=>Q σ' H'/\σ'.length=σ.length/\∀(k j:Nat),js[k]?=some (some j)->σ'[k]?=σ[k]?
variable{i:Nat}
theorem mw(h:js[i]?=some none:=by rfl):CL js (CI i):=by
 intro x σ H Q hq
 refine⟨hq,by simp,λk j hk=>?_⟩
 rw[aaE]
 rintro rfl
 rw[h]at hk;cases hk
theorem y6:Ob js LG:=by
 rintro x σ H Q ⟨e,hq⟩
 exact⟨e,hq,rfl,λ_ _ _=>rfl⟩
variable{t:TG}{u:HC}
theorem xn(h1:CL js t)(h2:Ob js u)(mono:∀x σ H Q Q',(∀a b,Q a b->Q' a b)->t x σ H Q->t x σ H Q')(M9:∀x σ H Q Q',(∀a b,Q a b->Q' a b)->u x σ H Q->u x σ H Q'):Ob js (FH t u):=by
 rintro x σ H Q ⟨v,r,e,hq⟩
 refine⟨v,r,e,mono _ _ _ _ _ (λσ1 H1 hh=>?_) (h1 v σ H _ hq)⟩
 obtain⟨a,l1,k1⟩:=hh
 exact M9 _ _ _ _ _ (λσ2 H2 ⟨b,l2,k2⟩=>⟨b,l2.trans l1,λk j hk=>(k2 k j hk).trans (k1 k j hk)⟩) (h2 r σ1 H1 _ a)
variable{K:aah}{n:Nat}
theorem yZ{t:HC}(h:Ob js t):CL js (LD K n t):=by
 rintro x σ H Q ⟨a,xs,e,hs,hl,hq⟩
 exact⟨a,xs,e,hs,hl,h xs σ H Q hq⟩
theorem ju:∀x σ H (Q Q':St->Hp->Prop),(∀a b,Q a b->Q' a b)->CI i x σ H Q->CI i x σ H Q':=λ_ _ _ _ _ h q=>h _ _ q
theorem my(m1:∀x σ H (Q Q':St->Hp->Prop),(∀a b,Q a b->Q' a b)->t x σ H Q->t x σ H Q')(m2:∀x σ H (Q Q':St->Hp->Prop),(∀a b,Q a b->Q' a b)->u x σ H Q->u x σ H Q'):
  ∀x σ H (Q Q':St->Hp->Prop),(∀a b,Q a b->Q' a b)->FH t u x σ H Q->FH t u x σ H Q':=λ_ _ _ _ _ h ⟨v,r,e,q⟩=>⟨v,r,e,m1 _ _ _ _ _ (λ_ _=>m2 _ _ _ _ _ h) q⟩
def PF(X:Cx)(ifs:List Expr)(t:TT):Prop :=
 ∀(pins:List (Addr×Obj)) (s:Shared) (σ:St) (H:Hp) (Q:Bool->Hp->Prop),Inv X pins σ H s->t σ H Q ->
  wpAny (model X.prog X.w) X.A (forIn ifs true λc r=>if r=true then do let ok <- isTrue c X.env (eval c X.env);pure (aev ok)else pure (aev r)) (TP X pins σ Q) X.xe s
def Pn:TT:=λ_ H Q=>Q true H
theorem yi:PF X [] Pn:=λpins s σ H Q I h=>wpAny_tests_nil ⟨H,I,h⟩
variable{c:Expr}
theorem sd{t:TT}(h:PT X c t):PF X [c] t:=λpins s σ H Q I hq=>wpAny_tests_one (h pins s σ H Q I hq)
def Pu(wi:TI)(g:TG)(tc:TT)(te:TE)(js:List (Option Nat)):TE:=λσ H Q=>wi σ H λJ H1=>∀l,H1 l=none ->
 ∃W:Nat->Nat->List V->Hp->Prop,(∃m,W 0 m [] (upd H1 l (.lst [])))/\∀i m ys H2,W i m ys H2 ->
  (J.stop i H2/\Q (.ref l) H2)\/(J.go i H2/\∀x H3,J.yld i H2 x H3->g x (AE js σ) H3 λσ4 H4=>tc σ4 H4 λb H5=>
   if b=true then te σ4 H5 λy H6=>H6 l=some (.lst ys)/\ys.length<sizeLine/\∃m',m'<m/\W (i+1) m' (ys++[y]) (upd H6 l (.lst (ys++[y])))else ∃m',m'<m/\W (i+1) m' ys H5)
variable{tg elt iter:Expr}{ifs:List Expr}{pos:Pos}{wi:TI}{g:TG}{tc:TT}{te:TE}
variable{Q:VK}{E:Value->Shared->Prop}{pos':Pos}
theorem qm{use:Option (Value->Sem Unit)}{QQ:Value->Shared->Prop}(hc:X.calm=true)(hx:X.xe=λ_ _=>False)(hi:PI X tg iter wi)
  (hg:∀C s₀ H₀ ex pn,PG (zV X scope N C s₀ H₀ ex pn) tg g) (ht:∀C s₀ H₀ ex pn,PF (zV X scope N C s₀ H₀ ex pn) ifs tc) (he:∀C s₀ H₀ ex pn,PE (zV X scope N C s₀ H₀ ex pn) elt te) (Iu:CL js g)
  (DM:DT X.env scope=true) (A6:Ce X.N scope N js=true) (Au:scope.kind=.function) (hs:∀x,abo iter X.env x=pure x)
  (I:Inv X pins σ H s) (h:Pu wi g tc te js σ H Q)
  (fin:∀(l C:Addr) (H':Hp) (s':Shared),Inv X pins σ H' s'->Q (.ref l) H'->H' C=none->C≠X.env.locals->X.s₀.heap.objs.size<=C->(∀x c,X.env.cells.lookup x=some c->c≠C)->(∀p∈X.pn++pins,p.1≠C)->(∃m,s'.heap.Ns C m)->afz (model X.prog X.w) X.A E use QQ (.ref l) C (.ok .next) s') :
  wpAny (model X.prog X.w) X.A (ad4 (.ListComp elt [⟨tg,iter,ifs,0⟩] scope pos) scope X.env pos' (newList []) false (eval iter X.env) use) QQ E s:=by
 have SC:=qa DM
 have CP:=pi A6
 refine wpAny_comprehension_free (cl:=Cn X.env.cells scope.names []) rfl hs (ij (SC.cells I.ok)) Au SC.lc ?_
 refine aaL (hi pins s σ H _ I h) (λv s1 h1=>aaL h1 (λOF s2 h2=>?_) (λ_ _ z=>by rw[hx]at z;exact z.elim)) (λ_ _ z=>by rw[hx]at z;exact z.elim)
 obtain⟨it,fp,tn,J,H2,rfl,I2,T,KG,f2,hq⟩:=h2
 have Mi:H2 s2.heap.objs.size=none:=I2.zY.fresh (aak _)
 obtain⟨W,⟨m0,w0⟩,turn⟩:=hq s2.heap.objs.size Mi
 refine aa4 (aeB (λx hx=>SC.nc x hx) (by intro y hy;simp at hy) (λh₁ hns₁ hsb₁=>?_) Au)
 dsimp only at hns₁ hsb₁ ⊢
 generalize JC:s2.heap.push {cls:=.type "list",dict:=none,data:=.seq ([]:List Value).toArray}=hp3 at hns₁ hsb₁ ⊢
 have NQ:hp3.objs.size=s2.heap.objs.size+1:=by rw[<- JC,aa3]
 have I3:Inv X pins σ (upd H2 s2.heap.objs.size (.lst [])) {s2 with heap:=hp3}:=by
  rw[<- JC]
  exact I2.laid (t':=s2.toks) (λb u e=>aac _ e) (aak _) ⟨by show 0<=_;exact abd _,[],_,.nil,aai _ rfl⟩
 have keep:∀b o,hp3.get? b=some o->h₁.get? b=some o:=λb o e=>hsb₁.extBut b o (aaq (aaj e)) (aac _ e)
 have LJ:∀b∈fp,b<s2.heap.objs.size:=λb hb=>by
  obtain⟨o,e,_⟩:=T.obj _ _ KG b hb
  exact aaj e
 have f3:∀b∈fp,CV X pins (upd H2 s2.heap.objs.size (.lst [])) b:=λb hb=>⟨by rw[ak (aaq (LJ b hb))];exact(f2 b hb).1,(f2 b hb).2⟩
 have J4:=oP (tk:=s2.toks+([]:List (Str×Value)).length) (C:=hp3.objs.size) (fp:=fp) (h₁:=h₁) (scope:=scope) (N:=N) (js:=js) I3 SC CP Au f3 (λb hb=>by show b<hp3.objs.size;rw[NQ];exact abi (LJ b hb)) rfl keep (by
  have:(λx=>adz x ([]:List (Str×Value)).reverse)=λ_=>none:=by funext x;rfl
  rw[this]at hns₁;exact hns₁)
 have MF:tn 0 h₁:=T.keep _ _ _ KG λb hb o e=>keep b o (by rw[<- JC];exact aac _ e)
 have loop:∀s4:Shared,s4={s2 with heap:=h₁,toks:=s2.toks+([]:List (Str×Value)).length} ->
   ad5 (model X.prog X.w) X.A (.compLoop (.ListComp elt [⟨tg,iter,ifs,0⟩] scope pos) 0 (.ref it) (.ref s2.heap.objs.size) (compEnvC scope (Cn X.env.cells scope.names []) hp3.objs.size X.env)) (afz (model X.prog X.w) X.A E use QQ (.ref s2.heap.objs.size) hp3.objs.size) s4:=by
  rintro s4 rfl
  generalize hY:zV X scope N hp3.objs.size {s2 with heap:=hp3} (upd H2 s2.heap.objs.size (.lst [])) fp (X.pn++pins)=Y at J4
  have LK:∀{H':Hp},(∀b∈fp,H' b=none)->∀b∈fp,CV Y [] H' b:=λhn b hb=>by
   subst hY
   refine⟨hn b hb,?_,?_,.inl hb,λx c e=>?_,λp hp=>?_⟩
   ·show b≠hp3.objs.size
    rw[NQ];exact aaq (abi (LJ b hb))
   ·intro z
    rcases List.mem_cons.mp (I3.C7 b z)with q|q
    ·exact(f3 b hb).2.1 q
    ·exact(f3 b hb).2.2.1 q
   ·exact(f3 b hb).2.2.2.2.1 x c (fq (SC.cells I.ok) (λc e=>by simp at e) e)
   ·exact(f3 b hb).2.2.2.2.2 p (by simpa[zV]using hp)
  have QC:PG Y tg g:=by subst hY;exact hg _ _ _ _ _
  have Qo:PF Y ifs tc:=by subst hY;exact ht _ _ _ _ _
  have QF:PE Y elt te:=by subst hY;exact he _ _ _ _ _
  have eA:Y.A=X.A:=by subst hY;rfl
  have eP:Y.prog=X.prog:=by subst hY;rfl
  have eW:Y.w=X.w:=by subst hY;rfl
  have eK:Y.K=X.K:=by subst hY;rfl
  have eC:Y.calm=true:=by subst hY;exact hc
  have eX:Y.xe=λ_ _=>False:=by subst hY;rfl
  have eE:Y.env=compEnvC scope (Cn X.env.cells scope.names []) hp3.objs.size X.env:=by subst hY;rfl
  have T':Turn Y.prog Y.w Y.K tg J fp it tn:=by rw[eP,eW,eK];exact T
  have eL:(AE js σ).length=js.length:=by unfold AE;rw[aad]
  rw[<- eP,<- eW,<- eA,<- eE]
  refine codeAny_loop rfl (λn s'=>∃i ys H',Inv Y [] (AE js σ) H' s'/\tn i s'.heap/\(∀b∈fp,H' b=none)/\W i n ys H') (λn s' hI=>?_) m0 ⟨0,[],_,J4,MF,λb hb=>(f3 b hb).1,w0⟩
  obtain⟨i,ys,H5,I5,Jg,LI,w5⟩:=hI
  show wpAny _ Y.A ((compTurn (.ListComp elt [⟨tg,iter,ifs,0⟩] scope pos) 0 (.ref it) (.ref s2.heap.objs.size) Y.env).onRaise (λx=>do noteFrame x Y.env;theTreesLotGoes x)) _ _ s'
  refine wpAny_noted ?_
  rw[compTurn_list]
  refine aaa (acE (aaa ?_))
  have Gm:∀(x:Value) (s:Shared) (P:Prop),Y.xe x s->P:=λx s P z=>by rw[eX]at z;exact z.elim
  rcases turn i n ys H5 w5 with ⟨stop,qn⟩|⟨go,step⟩
  ·refine aaL (T'.done Y rfl rfl rfl eC i [] s' _ H5 Y.xe I5 (LK LI) Jg stop) (λr s6 ⟨hr,I6⟩=>?_) λx s z=>Gm x s _ z
   subst hr
   refine aaf ?_
   show afz _ _ _ _ _ _ _ _ _
   rw[eP,eW,eA]
   have back:Inv X pins σ H5 s6:=by subst hY;exact oQ I3 I6 f3
   have Jy:∃m,s6.heap.Ns hp3.objs.size m:=by
    obtain⟨m,hm,_⟩:=I6.loc
    have:Y.env.locals=hp3.objs.size:=by rw[eE];rfl
    rw[this]at hm
    exact⟨m,hm⟩
   have QX:H5 hp3.objs.size=none:=by
    have:=I6.free
    have e:Y.env.locals=hp3.objs.size:=by rw[eE];rfl
    rw[e]at this;exact this
   refine fin s2.heap.objs.size hp3.objs.size H5 s6 back qn QX ?_ ?_ ?_ ?_ Jy
   ·exact abZ I3.lt
   ·exact I3.sz
   ·intro x c e z
    obtain⟨v,o,ho,_⟩:=I3.cell x c e
    exact absurd (aaj ho) (by rw[z];exact abl _)
   ·intro p hp z
    have:=aaj (I3.pin p hp).1
    rw[z]at this;exact absurd this (abl _)
  ·refine aaL (T'.item Y rfl rfl rfl eC i [] s' _ H5 Y.xe I5 (LK LI) Jg go) (λr s6 h6=>?_) λx s z=>Gm x s _ z
   obtain⟨u,hr,h6⟩:=h6
   subst hr
   dsimp only
   refine aaa ?_
   refine aaL h6 (λ_ s7 h7=>?_) λx s z=>Gm x s _ z
   obtain⟨x,H7,I7,r7,y7,KD,Q3⟩:=h7
   have Rn:=I7.pinned (LK Q3) (T.obj _ _ KD)
   have g7:=Iu x (AE js σ) H7 _ (step x H7 y7)
   refine aaa ?_
   refine aaL (QC _ s7 (AE js σ) H7 x u _ Rn r7 g7) (λ_ s8 h8=>?_) λx s z=>Gm x s _ z
   obtain⟨σ8,H8,I8,q8,l8,k8⟩:=h8
   refine aaa ?_
   refine aaL (Qo _ s8 σ8 H8 _ I8 q8) (λb s9 h9=>?_) λx s z=>Gm x s _ z
   obtain⟨H9,I9,q9⟩:=h9
   have again:∀{s':Shared} {H':Hp},Inv Y ([]++C8 fp s7.heap) σ8 H' s'->Inv Y [] (AE js σ) H' s'/\tn (i+1) s'.heap/\∀b∈fp,H' b=none:=λ{s' H'} I'=>by
    refine⟨(I'.Cq).weak l8.symm λk v e=>?_,T.keep _ _ _ KD λb hb o e=>(I'.pin (b,o) (aaR _ (aaR _ (ci hb e)))).1,λb hb=>?_⟩
    ·cases ej:js[k]? with
     |none=>
      unfold AE at e
      rw[aal,ej]at e;cases e
     |some o=>
      cases o with
      |none=>
       unfold AE at e
       rw[aal,ej]at e;cases e
      |some j=>rw[k8 k j ej];exact e
    ·obtain⟨o,e,d⟩:=T.obj _ _ KD b hb
     exact(I'.pin (b,o) (aaR _ (aaR _ (ci hb e)))).2.1
   cases b with
   |false=>
    rw[if_neg aaB]at q9
    obtain⟨m',hm,w9⟩:=q9
    obtain⟨a1,a2,a3⟩:=again I9
    exact aaf ⟨rfl,m',hm,i+1,ys,H9,a1,a2,a3,w9⟩
   |true=>
    rw[if_pos rfl]at q9
    refine aaa (aaa ?_)
    refine aaL (QF _ s9 σ8 H9 _ I9 q9) (λy PD QZ=>?_) λx s z=>Gm x s _ z
    obtain⟨yv,O0,Ro,PQ,UP,z10,m',hm,SK⟩:=QZ
    refine aaa ?_
    refine aaL (cL (X:=Y) _ PD σ8 O0 (.ref s2.heap.objs.size) [yv] (.ref s2.heap.objs.size) [y] (λ_ H'=>H'=upd O0 s2.heap.objs.size (.lst (ys++[yv]))) Ro rfl (.cons PQ .nil) ⟨_,ys,yv,rfl,rfl,UP,z10,rfl⟩) (λ_ Ow QY=>?_) λx s z=>Gm x s _ z
    obtain⟨_,SA,OZ,_,OT⟩:=QY
    subst OT
    obtain⟨a1,a2,a3⟩:=again OZ
    exact aaf (aaf ⟨rfl,m',hm,i+1,ys++[yv],_,a1,a2,a3,SK⟩)
 exact codeAny_compStart_list (loop _ rfl) (T.self X.A 0 _ _ _ MF (loop _ rfl))
theorem vG(hi:PI X tg iter wi)(hg:∀C s₀ H₀ ex pn,PG (zV X scope N C s₀ H₀ ex pn) tg g)(ht:∀C s₀ H₀ ex pn,PF (zV X scope N C s₀ H₀ ex pn) ifs tc)(he:∀C s₀ H₀ ex pn,PE (zV X scope N C s₀ H₀ ex pn) elt te)(Iu:CL js g)
  (hc:X.calm=true:=by rfl) (hx:X.xe=(λ_ _=>False):=by rfl) (DM:DT X.env scope=true:=by rfl) (A6:Ce X.N scope N js=true:=by rfl) (Au:scope.kind=.function:=by rfl) (hs:∀x,abo iter X.env x=pure x:=by intro _;rfl) :
  PE X (.ListComp elt [⟨tg,iter,ifs,0⟩] scope pos) (Pu wi g tc te js):=by
 intro pins s σ H Q I h
 rw[eval_ListComp]
 refine qm (use:=none) hc hx hi hg ht he Iu DM A6 Au hs I h λl C H' s' I' q f0 f1 f2 f3 f4 ⟨m,hm⟩=>?_
 refine⟨m,hm,λh' sb=>⟨.ref l,H',?_,rfl,q⟩⟩
 exact I'.turned (t':=s'.toks) (it:=C) (λb o hb e=>sb.extBut b o hb e) f0 f1 (.inr f2) f3 f4
variable{y:Str}{py:Pos}
theorem zo{B5:Pos}(hN:X.N.Nodup)(hy:X.N[i]?=some y)(hk:X.env.scope.names.lookup y=some .local)(hi:PI X tg iter wi)(hg:∀C s₀ H₀ ex pn,PG (zV X scope N C s₀ H₀ ex pn) tg g)(ht:∀C s₀ H₀ ex pn,PF (zV X scope N C s₀ H₀ ex pn) ifs tc)(he:∀C s₀ H₀ ex pn,PE (zV X scope N C s₀ H₀ ex pn) elt te)(Iu:CL js g)
  (Lm:acP (.ListComp elt [⟨tg,iter,ifs,0⟩] scope pos) (some (.Name y py)) B5.line X.env=pure true:=by rfl)
  (hc:X.calm=true:=by rfl) (hx:X.xe=(λ_ _=>False):=by rfl) (DM:DT X.env scope=true:=by rfl) (A6:Ce X.N scope N js=true:=by rfl) (Au:scope.kind=.function:=by rfl) (hs:∀x,abo iter X.env x=pure x:=by intro _;rfl) :
  PS X (.Assign [.Name y py] (.ListComp elt [⟨tg,iter,ifs,0⟩] scope pos) B5) (Gb (Pu wi g tc te js) (CI i)):=by
 intro pins s σ H D I h
 rw[exec_Assign_Name_used _ _ _ _ Lm]
 refine aaa (acE (aaa ?_))
 show wpAny _ X.A (do let _ <- ad4 (.ListComp elt [⟨tg,iter,ifs,0⟩] scope pos) scope X.env _ (newList []) false (eval iter X.env) (some (assign (.Name y py) X.env))) _ _ s
 refine aaa (aaL (qm (use:=some (assign (.Name y py) X.env)) (E:=X.xe) (QQ:=λ_ s'=>SP X pins D .next s') hc hx hi hg ht he Iu DM A6 Au hs I h λl C H' s' I' q f0 f1 f2 f3 f4 ⟨m,hm⟩=>?_) (λ_ s' hq=>aaf (aaf hq)) λ_ _ e=>e)
 show wpAny _ X.A (assign (.Name y py) X.env (.ref l)) _ _ _
 refine ae5 (iq I' hN hy (.inl hk) (v:=.ref l) rfl (λKP Rp ⟨a,sb,ha⟩=>?_) (.inr hk))
 have QR:C≠a:=by
  rcases ha with rfl|ha
  ·exact f1
  ·exact λz=>f3 _ _ ha z.symm
 refine⟨m,hm.sameBut sb QR,λh' PB=>⟨_,H',?_,q⟩⟩
 exact Rp.turned (t':=KP.toks) (it:=C) (λb o hb e=>PB.extBut b o hb e) f0 f1 (.inr f2) f3 f4
end L2
namespace Srt
open PySem PySem.W PyProof.Rows
variable{α:Type}
def pw(lt:Nat->Nat->Bool)(n:Nat):KasT α->(α->Prop)->Prop
 |.ret a,Q=>Q a
 |.ask i j k,Q=>i<n/\j<n/\i≠j/\pw lt n (k (lt i j)) Q
theorem pw_bind{β:Type}{lt:Nat->Nat->Bool}{n:Nat}{f:α->KasT β}{Q:β->Prop}:∀(t:KasT α),pw lt n t (λa=>pw lt n (f a) Q)->pw lt n (t.bind f) Q
 |.ret _,h=>h
 |.ask i j k,h=>⟨h.1,h.2.1,h.2.2.1,pw_bind (k (lt i j)) h.2.2.2⟩
structure Ord(lt:Nat->Nat->Bool)(n:Nat):Prop where
 irr:∀i,i<n->lt i i=false
 tr:∀i j k,i<n->j<n->k<n->lt i j=true->lt j k=true->lt i k=true
 tot:∀i j,i<n->j<n->i≠j->lt i j=false->lt j i=true
section
variable{lt:Nat->Nat->Bool}{n:Nat}
def at'(p:Array Nat)(i:Nat):Nat:=p.getD i 0
structure Pm(p:Array Nat)(n:Nat):Prop where
 sz:p.size=n
 lt:∀i,i<n->at' p i<n
 nd:∀i j,i<n->j<n->at' p i=at' p j->i=j
theorem aZ(p:Array Nat)(i:Nat):at' p i=(p[i]?).getD 0:=by
 unfold at'
 by_cases h:i<p.size
 ·simp[Array.getD,h]
 ·simp[Array.getD,h]
def GW(lt:Nat->Nat->Bool)(p:Array Nat)(k:Nat):Prop:=∀i j,i<j->j<k->lt (at' p i) (at' p j)=true
def Rr(lt:Nat->Nat->Bool)(p:Array Nat)(k:Nat):Prop:=∀i j,i<j->j<k->lt (at' p j) (at' p i)=true
theorem pA(o:Ord lt n){p:Array Nat}(P:Pm p n):∀(f m:Nat) (Q:Nat->Prop),1<=m->m+f<=n->GW lt p m->(∀m',m<=m'->m'<=m+f->GW lt p m'->(m'<m+f->lt (at' p m') (at' p (m' - 1))=true)->Q m')->pw lt n (kas_asc p f m) Q
 |0,m,Q,_,_,ha,h=>h m (aak _) (aak _) ha λz=>absurd z (abl _)
 |f+1,m,Q,h1,hm,ha,h=>by
  refine⟨P.lt _ (by omega),P.lt _ (by omega),λz=>(by have:=P.nd _ _ (by omega) (by omega) z;omega),?_⟩
  cases c:lt (p.getD m 0) (p.getD (m - 1) 0)with
  |true=>
   show Q m
   exact h m (aak _) (by omega) ha λ_=>c
  |false=>
   show pw lt n (kas_asc p f (m+1)) Q
   have e:lt (at' p (m - 1)) (at' p m)=true:=o.tot _ _ (P.lt _ (by omega)) (P.lt _ (by omega)) (λz=>by have:=P.nd _ _ (by omega) (by omega) z;omega) c
   refine pA o P f (m+1) Q (by omega) (by omega) (λi j DH hj=>?_) λm' a b c d=>h m' (by omega) (by omega) c λz=>d (by omega)
   by_cases ej:j=m
   ·subst ej
    by_cases ei:i=j - 1
    ·subst ei;exact e
    ·exact o.tr _ (at' p (j - 1)) _ (P.lt _ (by omega)) (P.lt _ (by omega)) (P.lt _ (by omega)) (ha i (j - 1) (by omega) (by omega)) e
   ·exact ha i j DH (by omega)
theorem qv(o:Ord lt n){p:Array Nat}(P:Pm p n):∀(f m:Nat) (Q:Array Nat×Nat×Nat->Prop),1<=m->m+f<=n->Rr lt p m->(∀m',m<=m'->m'<=m+f->Rr lt p m'->Q (p,m',0))->pw lt n (kas_desc f p m 0) Q
 |0,m,Q,_,_,ha,h=>h m (aak _) (aak _) ha
 |f+1,m,Q,h1,hm,ha,h=>by
  refine⟨P.lt _ (by omega),P.lt _ (by omega),λz=>(by have:=P.nd _ _ (by omega) (by omega) z;omega),?_⟩
  cases c:lt (p.getD m 0) (p.getD (m - 1) 0)with
  |true=>
   show pw lt n (if 0 > 0 then kas_desc f (aeP p (m - (0+1)) m) (m+1) 0 else kas_desc f p (m+1) 0) Q
   rw[if_neg (abl 0)]
   refine qv o P f (m+1) Q (by omega) (by omega) (λi j DH hj=>?_) λm' a b c=>h m' (by omega) (by omega) c
   by_cases ej:j=m
   ·subst ej
    by_cases ei:i=j - 1
    ·subst ei;exact c
    ·exact o.tr _ (at' p (j - 1)) _ (P.lt _ (by omega)) (P.lt _ (by omega)) (P.lt _ (by omega)) c (ha i (j - 1) (by omega) (by omega))
   ·exact ha i j DH (by omega)
  |false=>
   have e:lt (at' p (m - 1)) (at' p m)=true:=o.tot _ _ (P.lt _ (by omega)) (P.lt _ (by omega)) (λz=>by have:=P.nd _ _ (by omega) (by omega) z;omega) c
   show pw lt n (KasT.ask (p.getD (m - 1) 0) (p.getD m 0) _) Q
   refine⟨P.lt _ (by omega),P.lt _ (by omega),λz=>(by have:=P.nd _ _ (by omega) (by omega) z;omega),?_⟩
   rw[show lt (p.getD (m - 1) 0) (p.getD m 0)=true from e]
   exact h m (aak _) (by omega) ha
theorem n6{p:Array Nat}{m i:Nat}(hm:m<=p.size)(hi:i<m):at' (aeP p 0 m) i=at' p (m - 1 - i):=by
 rw[aZ,aZ]
 unfold aeP
 rw[getElem?_mirror hm _ (by omega)]
 have e:0+m - 1 - i=m - 1 - i:=by omega
 split
 ·rw[e]
 ·rename_i h
  have:i=m - 1 - i:=by omega
  rw[<- this]
theorem wB{p:Array Nat}{m i:Nat}(hm:m<=p.size)(hi:m<=i):at' (aeP p 0 m) i=at' p i:=by
 rw[aZ,aZ]
 unfold aeP
 rw[getElem?_mirror hm _ (by omega),if_neg (by omega)]
theorem x8{p:Array Nat}{m:Nat}(P:Pm p n)(hm:m<=n):Pm (aeP p 0 m) n:=by
 have hs:m<=p.size:=by rw[P.sz];exact hm
 have key:∀i,i<n->∃i',i'<n/\at' (aeP p 0 m) i=at' p i'/\((i<m/\i'=m - 1 - i)\/(m<=i/\i'=i)):=λi hi=>by
  by_cases h:i<m
  ·exact⟨m - 1 - i,by omega,n6 hs h,.inl ⟨h,rfl⟩⟩
  ·exact⟨i,hi,wB hs (by omega),.inr ⟨by omega,rfl⟩⟩
 refine⟨by unfold aeP;rw[mirror_size];exact P.sz,λi hi=>?_,λi j hi hj e=>?_⟩
 ·obtain⟨i',h1,h2,_⟩:=key i hi
  rw[h2];exact P.lt i' h1
 ·obtain⟨i',h1,h2,h3⟩:=key i hi
  obtain⟨j',k1,k2,k3⟩:=key j hj
  rw[h2,k2]at e
  have:=P.nd _ _ h1 k1 e
  omega
theorem t5(o:Ord lt n){p:Array Nat}(P:Pm p n){m:Nat}{Q:Nat×Array Nat->Prop}(h1:1<=m)(hm:m<=n)(hd:Rr lt p m)(h:∀m' q,1<=m'->m'<=n->Pm q n->GW lt q m'->Q (m',q)):pw lt n (kas_tail3 m n p) Q:=by
 refine pw_bind _ ?_
 have P':=x8 P hm
 have hs:m<=p.size:=by rw[P.sz];exact hm
 refine pA o P' _ _ _ h1 (by omega) (λi j DH hj=>?_) λm' a b c _=>h m' _ (by omega) (by omega) P' c
 rw[n6 hs (by omega),n6 hs hj]
 exact hd _ _ (by omega) (by omega)
theorem vy(o:Ord lt n){p:Array Nat}(P:Pm p n)(h2:2<=n){Q:Nat×Array Nat->Prop}(h:∀m q,1<=m->m<=n->Pm q n->GW lt q m->Q (m,q)):pw lt n (kas_count n p) Q:=by
 refine pw_bind _ ?_
 refine pA o P _ _ _ (aak 1) (by omega) (λi j DH hj=>by omega) λm a b c d=>?_
 by_cases e:(m==n)=true
 ·rw[if_pos e]
  exact h m p (by omega) (by omega) P c
 ·rw[if_neg e]
  have Bu:m≠n:=λz=>e (by simp[z])
  by_cases hm:m > 1
  ·rw[if_pos hm]
   refine⟨P.lt _ (by omega),P.lt _ (by omega),λz=>(by have:=P.nd _ _ (by omega) (by omega) z;omega),?_⟩
   rw[show lt (p.getD 0 0) (p.getD (m - 1) 0)=true from c 0 (m - 1) (by omega) (by omega)]
   exact h m p (by omega) (by omega) P c
  ·rw[if_neg hm]
   have Ud:m=1:=by omega
   subst Ud
   refine pw_bind _ ?_
   have d1:lt (at' p 1) (at' p (1 - 1))=true:=d (by omega)
   refine qv o P _ _ _ (by omega) (by omega) (λi j DH hj=>?_) λm' a b hd=>?_
   ·have:i=0:=by omega
    have:j=1:=by omega
    subst i j
    exact d1
   ·show pw lt n (if 0 > 0 then kas_tail3 m' n (aeP p (m' - (0+1)) m')else kas_tail3 m' n p) Q
    rw[if_neg (abl 0)]
    exact t5 o P (by omega) (by omega) hd h
theorem j7(o:Ord lt n){p:Array Nat}(P:Pm p n){k:Nat}(hk:k<n)(ha:GW lt p k):∀(f l r:Nat) (Q:Nat->Prop),l<=r->r<=k->r<=l+f->(∀i,i<l->lt (at' p i) (at' p k)=true)->(∀i,r<=i->i<k->lt (at' p k) (at' p i)=true) ->
  (∀l',l'<=k->(∀i,i<l'->lt (at' p i) (at' p k)=true)->(∀i,l'<=i->i<k->lt (at' p k) (at' p i)=true)->Q l')->pw lt n (kas_place p k f l r) Q
 |0,l,r,Q,hl,hr,hf,h1,h2,h=>by
  have:l=r:=by omega
  subst this
  exact h l hr h1 h2
 |f+1,l,r,Q,hl,hr,hf,h1,h2,h=>by
  unfold kas_place
  by_cases RX:l ≥ r
  ·rw[if_pos RX]
   have:l=r:=by omega
   subst this
   exact h l hr h1 h2
  ·rw[if_neg RX]
   have hm:(l+r) / 2<k:=by omega
   refine⟨P.lt _ hk,P.lt _ (by omega),λz=>(by have:=P.nd _ _ hk (by omega) z;omega),?_⟩
   cases c:lt (p.getD k 0) (p.getD ((l+r) / 2) 0)with
   |true=>
    show pw lt n (kas_place p k f l ((l+r) / 2)) Q
    refine j7 o P hk ha f l _ Q (by omega) (by omega) (by omega) h1 (λi hi R3=>?_) h
    by_cases e:i=(l+r) / 2
    ·subst e;exact c
    ·exact o.tr _ (at' p ((l+r) / 2)) _ (P.lt _ hk) (P.lt _ (by omega)) (P.lt _ (by omega)) c (ha _ _ (by omega) R3)
   |false=>
    show pw lt n (kas_place p k f ((l+r) / 2+1) r) Q
    have e:lt (at' p ((l+r) / 2)) (at' p k)=true:=o.tot _ _ (P.lt _ hk) (P.lt _ (by omega)) (λz=>by have:=P.nd _ _ hk (by omega) z;omega) c
    refine j7 o P hk ha f _ r Q (by omega) hr (by omega) (λi hi=>?_) h2 h
    by_cases e':i=(l+r) / 2
    ·subst e';exact e
    ·exact o.tr _ (at' p ((l+r) / 2)) _ (P.lt _ (by omega)) (P.lt _ (by omega)) (P.lt _ hk) (ha _ _ (by omega) (by omega)) e
theorem i8{p:Array Nat}{k l i:Nat}(hk:k<p.size)(hl:l<=k):at' (bubble p k (k - l)) i=if i=l then at' p k else if l<i/\i<=k then at' p (i - 1)else at' p i:=by
 rw[aZ]
 rw[getElem?_bubble hk (k - l) (by omega)]
 have e:k - (k - l)=l:=by omega
 rw[e]
 split
 ·rw[aZ]
 ·split
  ·rw[aZ]
  ·rw[aZ]
theorem tT(o:Ord lt n):∀(f k:Nat) (p:Array Nat) (Q:Array Nat->Prop),Pm p n->GW lt p k->k+f=n->(∀q,Pm q n->GW lt q n->Q q)->pw lt n (kas_bin f p k) Q
 |0,k,p,Q,P,ha,hk,h=>by
  have:k=n:=by omega
  subst this
  exact h p P ha
 |f+1,k,p,Q,P,ha,hk,h=>by
  have Lu:k<n:=by omega
  have hs:k<p.size:=by rw[P.sz];exact Lu
  refine pw_bind _ (j7 o P Lu ha k 0 k _ (abd _) (aak _) (by omega) (λi hi=>by omega) (λi hi R3=>by omega) λl hl h1 h2=>?_)
  refine tT o f (k+1) _ Q ⟨by rw[bubble_size];exact P.sz,λi hi=>?_,λi j hi hj e=>?_⟩ (λi j DH hj=>?_) (by omega) h
  ·rw[i8 hs hl]
   split
   ·exact P.lt _ Lu
   ·split
    ·exact P.lt _ (by omega)
    ·exact P.lt _ hi
  ·rw[i8 hs hl,i8 hs hl]at e
   have P1:=P.nd
   split at e
   ·split at e
    ·omega
    ·split at e
     ·have:=P1 _ _ Lu (by omega) e;omega
     ·have:=P1 _ _ Lu (by omega) e;omega
   ·split at e
    ·split at e
     ·have:=P1 _ _ (by omega) Lu e;omega
     ·split at e
      ·have:=P1 _ _ (by omega) (by omega) e;omega
      ·have:=P1 _ _ (by omega) (by omega) e;omega
    ·split at e
     ·have:=P1 _ _ (by omega) Lu e;omega
     ·split at e
      ·have:=P1 _ _ (by omega) (by omega) e;omega
      ·have:=P1 _ _ (by omega) (by omega) e;omega
  ·rw[i8 hs hl,i8 hs hl]
   split
   ·split
    ·omega
    ·split
     ·exact h2 _ (by omega) (by omega)
     ·omega
   ·split
    ·split
     ·omega
     ·split
      ·exact ha _ _ (by omega) (by omega)
      ·omega
    ·split
     ·exact h1 _ (by omega)
     ·split
      ·exact ha _ _ (by omega) (by omega)
      ·exact ha _ _ DH (by omega)
theorem lL(o:Ord lt n)(h2:2<=n){Q:Array Nat->Prop}(h:∀p,Pm p n->GW lt p n->Q p):pw lt n (kas_sort n) Q:=by
 have P0:Pm (adJ (aaM n)) n:=by
  have e:∀i,i<n->at' (adJ (aaM n)) i=i:=λi hi=>by rw[aZ];simp[hi]
  refine⟨by simp,λi hi=>by rw[e i hi];exact hi,λi j hi hj q=>by rw[e i hi,e j hj]at q;exact q⟩
 refine pw_bind _ (vy o P0 h2 λm q h1 hm P ha=>?_)
 show pw lt n (if m<n then kas_bin (n - max m 1) q (max m 1)else .ret q) Q
 by_cases e:m<n
 ·rw[if_pos e]
  have em:max m 1=m:=by omega
  rw[em]
  exact tT o _ _ _ _ P ha (by omega) h
 ·rw[if_neg e]
  have:m=n:=by omega
  subst this
  exact h q P ha
end
theorem pw_wp{lt:Nat->Nat->Bool}{n:Nat}{cmp:Nat->Nat->(Bool->Shared->Prop)->Shared->Prop}{Q:α->Prop}{QQ:α->Shared->Prop}{J:Shared->Prop}
  (hc:∀i j C s,i<n->j<n->i≠j->J s->(∀s',J s'->C (lt i j) s')->cmp i j C s) (hq:∀a s,J s->Q a->QQ a s):∀(t:KasT α) (s:Shared),J s->pw lt n t Q->t.kasWp cmp QQ s
 |.ret a,s,hj,h=>hq a s hj h
 |.ask i j k,s,hj,h=>hc i j _ s h.1 h.2.1 h.2.2.1 hj λs' DP=>pw_wp hc hq (k (lt i j)) s' DP h.2.2.2
end Srt
namespace L2
open PySem PySem.Spec PyProof.Rows
variable{ss:List Str}
theorem gL:∀{us:List Value},zP (ss.map V.str) us->acg us ss:=by
 induction ss with
 |nil=>intro us r;cases r;exact .nil
 |cons x r ih=>
  intro us h
  cases h with
  |cons h1 h2=>
   obtain⟨t,rfl⟩:=h1
   exact .cons x t (ih h2)
theorem cH:∀{us:List Value} {ss:List Str},acg us ss->zP (ss.map V.str) us
 |_,_,.nil=>.nil
 |_,_,.cons x t h=>.cons ⟨t,rfl⟩ (cH h)
def Ai(a b:Str):Prop:=a.cps.toList<b.cps.toList
instance (a b:Str):Decidable (Ai a b):=inferInstanceAs (Decidable (a.cps.toList<b.cps.toList))
theorem jJ:∀(l:List Str) (p:Str),risingS p l=true->(∀y∈l,¬ Ai y p)/\l.Pairwise (λa b=>¬ Ai b a)
 |[],p,_=>⟨(λ_ h=>nomatch h),adX⟩
 |x::r,p,h=>by
  have h':(!ltCps x.cps.toList p.cps.toList && risingS x r)=true:=h
  rw[aaT]at h'
  obtain⟨h1,h2⟩:=h'
  have hx:¬ Ai x p:=by
   unfold Ai
   rw[ltCps_eq]at h1
   simpa using h1
  obtain⟨a,b⟩:=jJ r x h2
  refine⟨λy hy=>?_,List.pairwise_cons.mpr ⟨a,b⟩⟩
  rcases List.mem_cons.mp hy with rfl|hy
  ·exact hx
  ·intro z
   have:=a y hy
   unfold Ai at *
   exact hx (List.lt_of_le_of_lt (List.not_lt.mp this) z)
theorem dy{l:List Str}(h:sortedS l=true):l.Pairwise (λa b=>¬ Ai b a):=by
 cases l with
 |nil=>exact adX
 |cons x r=>
  obtain⟨a,b⟩:=jJ r x h
  exact List.pairwise_cons.mpr ⟨a,b⟩
variable{X:Cx}
def KY(K:aah):List V->Hp->VK->Prop:=λxs H Q=>∃(p:Addr) (ss:List Str),xs=[.ref p]/\Bs K H p (ss.map V.str)/\ss.length<64 /\
 ∀(l:Addr) (Cr:List Str),H l=none->Cr.Perm ss->Cr.Pairwise (λa b=>¬ Ai b a)->Q (.ref l) (upd H l (.lst (Cr.map V.str)))
theorem re:zZ X (.builtin "sorted") (KY X.K):=by
 intro pins s σ H xs us Q I r h
 obtain⟨p,ss,rfl,hq,Ck,k⟩:=h
 obtain⟨u,rfl,ru⟩:=r.one
 cases ru
 obtain⟨iD,rv,pl,hz⟩:=I.list hq
 have hS:=gL rv
 have hl:=rv.length
 rw[aad]at hl
 refine sorted_strs pl.isList hS (by omega) λout Cr a1 a2 a3=>?_
 obtain⟨e,he⟩:=sortedAll_at s.heap iD out
 have hn:H (s.heap.objs.size+1)=none:=I.zY.fresh (abU _)
 refine⟨.ref (s.heap.objs.size+1),_,I.laid (t':=s.toks) (a:=s.heap.objs.size+1) (o:=.lst (Cr.map V.str)) (λb o q=>sortedAll_old q) (abU _) ?_,rfl,k _ Cr hn a2 (dy a3)⟩
 refine⟨by rw[aad,a2.length_eq,aaz];omega,out.toList,e,cH a1,?_⟩
 rw[aeD]
 exact he
variable{prog:aaI}{w:World}{A:Around}{E:Value->Shared->Prop}{s:Shared}
def eO(vs:List Value):Sem PySem.Fin:=do
 let l <- newList vs
 let _ <- ad3 [l] (call (.builtin "list.sort") [l] [])
 ret l
variable{x:Value}{vs:List Value}{Q:Value->Shared->Prop}
theorem iu(hc:∀R:List Value->Shared->Prop,(∀h1 tk,(∀b o,s.heap.get? b=some o->h1.get? b=some o)->R vs {s with heap:=h1,toks:=tk})->wpAny (model prog w) A.in1 (collect x) R E s)
  (h:∀h1 tk,(∀b o,s.heap.get? b=some o->h1.get? b=some o)->wpAny (model prog w) A.in1 (eO vs) (λfin s'=>∃v,fin=.done (.ret v)/\Q v s') E {s with heap:=h1,toks:=tk}):wpAny (model prog w) A (call (.builtin "sorted") [x]) Q E s:=by
 refine acS aeN ael aeo (afm _) (?_:wpAny (model prog w) A.in1 (ace.«sorted» ⟨[x],[]⟩) _ _ s)
 unfold ace.«sorted»
 exact aaa (m:=ae9 "sorted" 1 1 _) (aaf (aaa (hc _ λh1 tk kk=>h h1 tk kk)))
theorem qL(h2:vs.length<2)(h:∀h' e,(∀b o,s.heap.get? b=some o->h'.get? b=some o)->h'.get? s.heap.objs.size=some (seqObj "list" vs.toArray e)->Q (.ref s.heap.objs.size) {s with heap:=h'}):
  wpAny (model prog w) A (eO vs) (λfin s'=>∃v,fin=.done (.ret v)/\Q v s') E s:=by
 have hz:vs.length<=sizeLine:=by rw[aaz];omega
 unfold eO
 refine aaa (aco ?_ hz)
 have FW:(s.heap.push (seqObj "list" vs.toArray 0)).get? s.heap.objs.size=some (seqObj "list" vs.toArray 0):=aai _ rfl
 refine(?_:wpAny _ _ _ _ _ {s with heap:=s.heap.push (seqObj "list" vs.toArray 0)})
 generalize UI:s.heap.push (seqObj "list" vs.toArray 0)=hB at FW ⊢
 have kB:∀b o,s.heap.get? b=some o->hB.get? b=some o:=λb o e=>by rw[<- UI];exact aac _ e
 refine aaa (aaN (aaW adi ⟨_,FW,rfl⟩ ac6 ?body (adL _)))
 case body=>
  rw[list_sort_plain]
  obtain⟨e1,Hk⟩:∃e1,(hB.update s.heap.objs.size (aaY λ_=>#[])).get? s.heap.objs.size=some (seqObj "list" #[] e1):=⟨_,ac5 FW λ_=>#[]⟩
  refine aaa (afl FW rfl (aaa (acp FW rfl ?_ (by rw[aag];exact hz) (abd _))))
  refine aaa (adv Hk rfl (aaa (aeE ?_ (by show vs.length<=_;exact hz))))
  refine aaa (aco (aaN ?_) (abd _))
  have Jx:(((hB.update s.heap.objs.size (aaY λ_=>#[])).push (seqObj "tuple" vs.toArray 0)).push (seqObj "list" #[] 0)).get? s.heap.objs.size=some (seqObj "list" #[] e1) :=
   aac _ (aac _ Hk)
  refine(?_:wpAny (model prog w) _ _ _ _ {s with heap:=((hB.update s.heap.objs.size (aaY λ_=>#[])).push (seqObj "tuple" vs.toArray 0)).push (seqObj "list" #[] 0)})
  dsimp only
  have AV:vs.toArray.size<2:=by rw[aag];exact h2
  rw[if_pos AV,if_pos AV]
  refine aaa (aaf ?_)
  rw[afI]
  refine aaa (aaf ?_)
  dsimp only
  have eo:(arrOf (adQ general' (vs.toArray.zip vs.toArray) #[] 7 none)).map (·.2)=vs.toArray:=by
   show (vs.toArray.zip vs.toArray).map (·.2)=vs.toArray
   apply Array.ext
   ·simp
   ·intro i h1 h2
    simp
  rw[eo]
  refine aaa (adv Jx rfl (aaa (acp Jx rfl ?_ (abd _) (by rw[aag];first|exact hz|exact adU hz))))
  simp only[bne_self_eq_false,aa0,if_false]
  refine aaf ⟨_,rfl,aaf ⟨_,rfl,h _ _ (λb o e=>?_) (ac5 Jx λ_=>vs.toArray)⟩⟩
  have hb:b≠s.heap.objs.size:=aaq (aaj e)
  rw[acW _ _ _ _ hb]
  refine aac _ (aac _ ?_)
  rw[acW _ _ _ _ hb]
  exact kB b o e
variable{pins:List (Addr×Obj)}{σ:St}{H:Hp}
variable{h:Heap}{a:Addr}
theorem yC{m m':Str->Option Value}(x:h.Ns a m)(y:h.Ns a m'):m=m':=by
 obtain⟨o,es,ep,ho,hd,_,hm⟩:=x
 obtain⟨o',FI,OR,DN,OM,_,OK⟩:=y
 rw[ho]at DN;cases DN
 rw[hd]at OM;cases OM
 funext n
 rw[<- hm n,<- OK n]
variable{P:aaI}{o:HO}
theorem Af.there(x:Af P w H h a o):∃u,h.get? a=some u:=by
 cases o with
 |lst xs=>obtain⟨_,_,_,_,e⟩:=x;exact⟨_,e⟩
 |tup xs=>obtain⟨_,_,_,o,e,_⟩:=x;exact⟨_,e⟩
 |dK kvs=>obtain⟨_,_,_,_,o,_,_,e,_⟩:=x;exact⟨_,e⟩
 |dT kvs=>obtain⟨_,_,_,_,o,_,_,e,_⟩:=x;exact⟨_,e⟩
 |set S n=>obtain⟨o,_,_,_,e,_⟩:=x;exact⟨_,e⟩
 |ins C dx fs=>obtain⟨_,_,_,e,_⟩:=x;exact⟨_,e⟩
 |own y=>exact x
 |xd fs=>obtain⟨_,⟨_,_,_,e,_⟩,_⟩:=x;exact⟨_,e⟩
 |Oy lo hi=>obtain⟨_,_,_,e⟩:=x;exact⟨_,e⟩
 |CB ob u=>obtain⟨e,_⟩:=x;exact⟨_,e⟩
 |JR ps=>exact⟨_,show h.get? a=some _ from x⟩
 |met f y=>exact⟨_,show h.get? a=some _ from x⟩
 |ext φ=>obtain⟨_,e,_⟩:=x;exact e
theorem CD.dead(x:CD P w H h)(e:h.get? a=none):H a=none:=by
 cases q:H a with
 |none=>rfl
 |some u=>
  obtain⟨o,z⟩:=(x a u q).there
  rw[e]at z;cases z
variable{h':Heap}{xs:List V}
theorem Inv.J5{D:Addr}{m:Str->Option Value}(I:Inv X pins σ H s)(hm:s.heap.Ns X.env.locals m)(OK:h'.Ns X.env.locals m)(k:∀b o,b≠X.env.locals->s.heap.get? b=some o->h'.get? b=some o)
  (hD:s.heap.get? D=none) (new:Af X.prog X.w (upd H D (.lst xs)) h' D (.lst xs)):Inv X pins σ (upd H D (.lst xs)) {s with heap:=h'}:=by
 have fr:H D=none:=I.zY.dead hD
 have nD:∀b o,s.heap.get? b=some o->b≠D:=λb o e z=>by rw[z,hD]at e;cases e
 have nt:∀b u,H b=some u->b≠D:=λb u e=>aA e fr
 have RO:∀b u,H b=some u->b≠X.env.locals:=λb u e=>aA e I.free
 refine I.step (g':=s.gens) (d':=s.drawn) (t':=s.toks) (ch:=[]) (λ_ z=>nomatch z) (λb o hb _ _ e _=>k b o hb e) (λb o hb _ _ e _=>⟨o.slots,k b o hb e⟩) (λb o _ e n=>by rw[ak (nD b o e)];exact n)
  (λb o _ e=>?_) (λb ys e=>by rw[ak (nt b _ e)];exact e) (λb o u e=>by rw[ak (nt b _ e)];exact e) (λb ps e=>⟨#[],by rw[ak (nt b _ e),e];simp⟩) (λm2 h2=>by rw[yC h2 hm];exact OK) (λb u e=>?_) I.bare
 ·by_cases hb:b=X.env.locals
  ·subst hb
   obtain⟨o',_,_,DN,_⟩:=OK
   exact⟨o',DN⟩
  ·exact⟨o,k b o hb e⟩
 ·by_cases hb:b=D
  ·subst hb
   rw[ao]at e
   cases e
   exact new
  ·rw[ak hb]at e
   refine(I.zY b u e).ET (λc v hc q=>k c v ?_ q) (λc q=>by rw[ak (nt c _ q)];exact q) λc ys q=>by rw[ak (nt c _ q)];exact q
   rcases hc with z|z
   ·rw[z];exact RO b u e
   ·exact RO c _ z
structure Rows(K:aah)(H:Hp)(vs:List V)(nm:List Str):Prop where
 len:vs.length=nm.length
 row:∀(i:Nat) (v:V) (x:Str),vs[i]?=some v->nm[i]?=some x->∃a r,v=.ref a/\AW K H a (.str x::r)
 nd:nm.Nodup
def KZ(K:aah):List V->Hp->VK->Prop:=λxs H Q=>∃p vs nm,xs=[.ref p]/\Bs K H p vs/\vs.length<64/\Rows K H vs nm /\
 ∀l (ix:List Nat),H l=none->ix.length=vs.length->ix.Nodup->(∀i∈ix,i<vs.length)->(ix.map λi=>nm.getD i ⟨#[]⟩).Pairwise Ai->Q (.ref l) (upd H l (.lst (ix.map λi=>vs.getD i .rW)))
variable{us:List Value}
theorem zP.pick(r:zP xs us):∀(ix:List Nat),(∀i∈ix,i<xs.length)->zP (ix.map λi=>xs.getD i .rW) (ix.map λi=>us.getD i aa6)
 |[],_=>.nil
 |i::ix,h=>by
  refine .cons ?_ (zP.pick r ix λj hj=>h j (aaw _ hj))
  have hi:=h i aay
  have e:xs[i]?=some (xs[i]):=by simp[hi]
  obtain⟨u,hu,ru⟩:=r.get e
  have e1:xs.getD i .rW=xs[i]:=by simp[hi]
  have e2:us.getD i aa6=u:=by rw[aae,hu];rfl
  show RelV (xs.getD i .rW) (us.getD i aa6)
  rw[e1,e2]
  exact ru
variable{iD:List Value}
theorem jV{vs:List V}{nm:List Str}{Q:VK}(I:Inv X pins σ H s)(rv:zP vs iD)(hz:iD.length<=sizeLine)(Ck:vs.length<64)(R:Rows X.K H vs nm)
  (k:∀l (ix:List Nat),H l=none->ix.length=vs.length->ix.Nodup->(∀i∈ix,i<vs.length)->(ix.map λi=>nm.getD i ⟨#[]⟩).Pairwise Ai->Q (.ref l) (upd H l (.lst (ix.map λi=>vs.getD i .rW)))) :
  wpAny (model X.prog X.w) A (eO iD) (λfin s'=>∃v,fin=.done (.ret v)/\∃x H',Inv X pins σ H' s'/\RelV x v/\Q x H') E s:=by
 have hl:=rv.length
 by_cases h2:iD.length<2
 ·refine qL h2 λh' e kk he=>?_
  have hn:H s.heap.objs.size=none:=I.zY.fresh (aak _)
  have ei:(aaM vs.length).map (λi=>vs.getD i V.rW)=vs:=by
   apply abK
   intro i
   rw[aal]
   by_cases hi:i<vs.length
   ·rw[abJ hi];simp[hi]
   ·rw[aan (by simpa using hi),aan (by omega)];rfl
  have q:=k s.heap.objs.size (aaM vs.length) hn (by simp) adp (λi hi=>List.mem_range.mp hi) (by
   match hv:vs.length,hl with
   |0,_=>simp
   |1,_=>simp[ady]
   |n+2,hl=>omega)
  rw[ei]at q
  exact⟨.ref s.heap.objs.size,_,I.laid (t':=s.toks) (a:=s.heap.objs.size) (o:=.lst vs) kk (aak _) ⟨by rw[hl];exact hz,iD,e,rv,he⟩,rfl,q⟩
 ·obtain⟨m,F⟩:=I.fr
  unfold eO
  refine aaa (aco ?_ hz)
  have FW:(s.heap.push (seqObj "list" iD.toArray 0)).get? s.heap.objs.size=some (seqObj "list" iD.toArray 0):=aai _ rfl
  have hL:X.env.locals<s.heap.objs.size:=F.ns.lt
  refine aaa (aaN (aaW adi ⟨_,FW,rfl⟩ ac6 ?body (adL _)))
  refine PySem.W.kat_list_sort (s:={s with heap:=s.heap.push (seqObj "list" iD.toArray 0)}) (F.kept λb o e=>aac _ e) ((kn (g:=X.base) (h:=s.heap) (L:=X.env.locals)).grown λb o e=>aac _ e) FW (abZ hL)
   (Heap.get?_none_of_le (aa2 F.above (afn hL))) (λp hp=>aaq (aaj ((kn (g:=X.base) (h:=s.heap) (L:=X.env.locals)) p hp).1)) (by omega) (by omega) λe1 h' F' N'=>?_
  have hD:∀q∈jB X.base s.heap X.env.locals,q.1<s.heap.objs.size:=λq hq=>aaj ((kn (g:=X.base) (h:=s.heap) (L:=X.env.locals)) q hq).1
  generalize VJ:s.heap.objs.size=D at hD N' ⊢
  have Nh:∀b o,b≠X.env.locals->s.heap.get? b=some o->h'.get? b=some o:=λb o hb e=>by
   cases q:X.base.get? b with
   |some ob=>
    have:=I.bk b ob q
    rw[e]at this;cases this
    exact F'.keep b _ q
   |none=>exact(N' (b,o) (aaw _ (fW hb q e))).1
  have UE:∀b o,b≠X.env.locals->X.base.get? b=none->s.heap.get? b=some o->b<D:=λb o hb hn e=>hD (b,o) (fW hb hn e)
  have rowAt:∀i,i<iD.length->∃a ob vv x t n,iD.getD i aa6=.ref a/\h'.get? a=some ob/\ob.cls=.type "tuple" /\ ob.data=.seq vv n/\vv[0]?=some (.str x t)/\nm[i]?=some x/\s.heap.get? a=some ob:=λi hi=>by
   have Dv:i<vs.length:=by omega
   have e:vs[i]?=some vs[i]:=by simp[Dv]
   obtain⟨u,hu,ru⟩:=rv.get e
   have QB:i<nm.length:=by rw[<- R.len];exact Dv
   have en:nm[i]?=some nm[i]:=by simp[QB]
   obtain⟨a,rr,ev,ha⟩:=R.row i _ _ e en
   rw[ev]at ru
   cases ru
   obtain⟨SW,tv,⟨ob,Lp,hc,n,hd⟩,z1⟩:=I.tuple ha
   cases tv with
   |cons t1 t2=>
    obtain⟨t,rfl⟩:=t1
    refine⟨a,ob,_,nm[i],t,n,by rw[aae,hu];rfl,Nh a ob ?_ Lp,hc,hd,by simp,en,Lp⟩
    rintro rfl
    obtain⟨m,⟨o2,es,ep,g1,g2,_⟩,_⟩:=I.loc
    rw[Lp]at g1;cases g1
    rw[hd]at g2;cases g2
  have Et:PySem.W.KatTups h' iD ((aaM iD.length).map λi=>match iD.getD i aa6 with|.ref a=>(match h'.get? a with|some ob=>(match ob.data with|.seq vv _=>(vv[0]?).getD .none|_=>.none)|none=>.none)|_=>.none):=by
   have go:∀(us:List Value) (f:Nat->Value) (k0:Nat),(∀i,i<us.length->∃a ob vv n,us.getD i aa6=.ref a/\h'.get? a=some ob/\ob.cls=.type "tuple" /\ ob.data=.seq vv n/\vv[0]?=some (f (k0+i))) ->
     PySem.W.KatTups h' us ((aaM us.length).map λi=>f (k0+i)):=by
    intro us
    induction us with
    |nil=>intro f k0 _;exact trivial
    |cons u us ih=>
     intro f k0 hh
     obtain⟨a,ob,vv,n,e1,e2,e3,e4,e5⟩:=hh 0 (by simp)
     have NU:u=.ref a:=by simpa using e1
     subst NU
     rw[abA,List.range_succ_eq_map,aap,aaA]
     refine⟨⟨a,ob,vv,n,rfl,e2,e3,e4,e5⟩,?_⟩
     have:=ih f (k0+1) λi hi=>by
      obtain⟨a,ob,vv,n,e1,e2,e3,e4,e5⟩:=hh (i+1) (by simpa using hi)
      exact⟨a,ob,vv,n,by simpa using e1,e2,e3,e4,by rw[show k0+1+i=k0+(i+1)by omega];exact e5⟩
     have ef:(λi=>f (k0+i)) ∘ Nat.succ=λi=>f (k0+1+i):=by
      funext i
      show f (k0+(i+1))=f (k0+1+i)
      rw[show k0+(i+1)=k0+1+i by omega]
     rw[ef]
     exact this
   have:=go iD (λi=>match iD.getD i aa6 with|.ref a=>(match h'.get? a with|some ob=>(match ob.data with|.seq vv _=>(vv[0]?).getD .none|_=>.none)|none=>.none)|_=>.none) 0 λi hi=>by
    obtain⟨a,ob,vv,x,t,n,e1,e2,e3,e4,e5,_⟩:=rowAt i hi
    refine⟨a,ob,vv,n,e1,e2,e3,e4,?_⟩
    rw[abE,e1,e5]
    simp only[e2,e4,e5]
    rfl
   simpa using this
  refine PySem.W.kat_kind (T:=.type "str") Et (by rw[aad,ack];omega) (λv hv=>?_) rfl ?_
  ·obtain⟨i,hi,rfl⟩:=List.mem_map.mp hv
   obtain⟨a,ob,vv,x,t,n,e1,e2,e3,e4,e5,_⟩:=rowAt i (List.mem_range.mp hi)
   rw[e1]
   simp only[e2,e4,e5]
   exact PySem.W.Looks.of_pure rfl
  ·-- the questions
   have hT:((abD "str") != (abD "tuple"))=true:=by decide
   rw[hT]
   let lt:Nat->Nat->Bool:=λi j=>decide (Ai (nm.getD i ⟨#[]⟩) (nm.getD j ⟨#[]⟩))
   have NW:∀i j,i<iD.length->j<iD.length->(nm.getD i ⟨#[]⟩).cps.toList=(nm.getD j ⟨#[]⟩).cps.toList->i=j:=λi j hi hj e=>by
    have Dv:i<nm.length:=by rw[<- R.len];omega
    have DP:j<nm.length:=by rw[<- R.len];omega
    have e':nm.getD i ⟨#[]⟩=nm.getD j ⟨#[]⟩:=by
     generalize nm.getD i ⟨#[]⟩=x at e ⊢
     generalize nm.getD j ⟨#[]⟩=y at e ⊢
     obtain⟨x⟩:=x
     obtain⟨y⟩:=y
     exact congrArg Str.mk (Array.toList_inj.mp e)
    rw[aae,aae,aab Dv,aab DP]at e'
    exact(ab7 R.nd).mp e'
   have o:Srt.Ord lt iD.length:=by
    refine⟨λi _=>?_,λi j k _ _ _ a b=>?_,λi j hi hj ne e=>?_⟩
    ·show decide _=false
     simp[Ai,aeJ]
    ·have a':=of_decide_eq_true a
     have b':=of_decide_eq_true b
     exact decide_eq_true (List.lt_trans (show _<_ from a') b')
    ·have e':=of_decide_eq_false e
     refine decide_eq_true ?_
     unfold Ai at e' ⊢
     rcases aaZ 0 0 with z|_
     ·omega
     ·have le:=List.not_lt.mp e'
      rcases List.le_iff_lt_or_eq.mp le with z|z
      ·exact z
      ·exact absurd (NW j i hj hi z).symm ne
   refine Srt.pw_wp (lt:=lt) (n:=iD.length) (Q:=λp=>Srt.Pm p iD.length/\Srt.GW lt p iD.length) (J:=λs'=>s'={s with heap:=h'}) ?_ ?_ (PySem.W.kas_sort iD.length) _ rfl (Srt.lL o (by omega) λp a b=>⟨a,b⟩)
   ·rintro i j C s' hi hj ne rfl hC
    obtain⟨a,ob,vv,x,t,n,e1,e2,e3,e4,e5,e6,_⟩:=rowAt i hi
    obtain⟨a',Vx,Kn,x',t',n',f1,f2,f3,f4,f5,f6,_⟩:=rowAt j hj
    show wpAny _ _ (keyLt' (adt true) (iD.getD i aa6) (iD.getD j aa6)) _ _ _
    rw[e1,f1]
    refine PySem.W.kat_lt e2 e4 f2 f4 ?_
    have g1:vv.toList=.str x t::vv.toList.tail:=by
     cases h:vv.toList with
     |nil=>
          have:vv[0]?=vv.toList[0]?:=by simp
          rw[this,h]at e5;cases e5
     |cons y r=>
            have:vv[0]?=vv.toList[0]?:=by simp
            rw[this,h]at e5
            have:y=.str x t:=by simpa using e5
            rw[this];rfl
    have g2:Kn.toList=.str x' t'::Kn.toList.tail:=by
     cases h:Kn.toList with
     |nil=>
          have:Kn[0]?=Kn.toList[0]?:=by simp
          rw[this,h]at f5;cases f5
     |cons y r=>
            have:Kn[0]?=Kn.toList[0]?:=by simp
            rw[this,h]at f5
            have:y=.str x' t':=by simpa using f5
            rw[this];rfl
    rw[g1,g2,ac8]
    have d1:nm.getD i ⟨#[]⟩=x:=by rw[aae,e6];rfl
    have d2:nm.getD j ⟨#[]⟩=x':=by rw[aae,f6];rfl
    have Bu:x≠x':=λz=>ne (NW i j hi hj (by rw[d1,d2,z]))
    refine PySem.W.kat_cons (aec ?_)
    rw[decide_eq_false Bu]
    refine PySem.W.kat_no ?_
    show wpAny _ _ (oneLt' true (.str x t) (.str x' t')) _ _ _
    refine oneLt_str ?_
    have:=hC _ rfl
    have el:lt i j=decide (x.cps.toList<x'.cps.toList):=by
     show decide (Ai _ _)=_
     rw[d1,d2];rfl
    rw[el]at this
    exact this
   ·rintro pa s' rfl ⟨P,As⟩
    refine PySem.W.KasFin.intro F' N' (.head λq hq=>?_) λIZ c F2 N2=>?_
    ·exact aaq (hD q hq)
    ·have Ng:∀b o,b≠X.env.locals->s.heap.get? b=some o->IZ.get? b=some o:=λb o hb e=>by
      cases q:X.base.get? b with
      |some ob=>
       have:=I.bk b ob q
       rw[e]at this;cases this
       exact F2.keep b _ q
      |none=>exact(N2 (b,o) (aaw _ (fW hb q e))).1
     have QW:=(N2 _ aay)
     have NP:s.heap.get? D=none:=by
      cases q:s.heap.get? D with
      |none=>rfl
      |some od=>exact absurd (UE D od QW.2.1 QW.2.2 q) (abl _)
     have ND:∀i∈pa.toList,i<vs.length:=λi hi=>by
      obtain⟨j,hj,rfl⟩:=Array.mem_iff_getElem.mp (Array.mem_toList_iff.mp hi)
      have:=P.lt j (by rw[<- P.sz];exact hj)
      rw[Srt.aZ]at this
      simp only[abf hj,acU]at this
      omega
     have q:=k D pa.toList (I.zY.dead NP) (by rw[aav,P.sz];omega) ?_ ND ?_
     ·refine⟨_,rfl,aaf ⟨_,rfl,.ref D,_,I.J5 (xs:=pa.toList.map λi=>vs.getD i .rW) F.ns F2.ns Ng NP ⟨?_,pa.toList.map λi=>iD.getD i aa6,c,rv.pick _ ND,QW.1⟩,rfl,q⟩⟩
      rw[aad,aav,P.sz];exact hz
     ·rw[acL,abN]
      intro i j hi hj DH e
      have Dv:i<pa.size:=by simpa using hi
      have DP:j<pa.size:=by simpa using hj
      have:=P.nd i j (by rw[<- P.sz];exact Dv) (by rw[<- P.sz];exact DP) (by rw[Srt.aZ,Srt.aZ];simpa[Dv,DP]using e)
      omega
     ·rw[List.pairwise_map,abN]
      intro i j hi hj DH
      have Dv:i<pa.size:=by simpa using hi
      have DP:j<pa.size:=by simpa using hj
      have:=As i j DH (by rw[<- P.sz];exact DP)
      rw[Srt.aZ,Srt.aZ]at this
      have:=of_decide_eq_true this
      simpa[Dv,DP]using this
theorem rg:zZ X (.builtin "sorted") (KZ X.K):=by
 intro pins s σ H xs us Q I r h
 obtain⟨p,vs,nm,rfl,hq,Ck,R,k⟩:=h
 obtain⟨u,rfl,ru⟩:=r.one
 cases ru
 obtain⟨iD,rv,pl,hz⟩:=I.list hq
 refine iu (λR' g=>collect_list pl.isList (g _ s.toks λb o e=>?_) (by rw[<- rv.length];exact hz)) λh1 tk kk=>jV (I.kept kk) rv (by rw[<- rv.length];exact hz) Ck R k
 have hb:b<s.heap.objs.size:=aaj e
 rw[acW _ _ _ _ (aaq hb)]
 exact aac _ e
section
open PySem.SeqAt
open PySem.AutoSeq1 (wpAny_loadPart')
open PySem.MeetsSeq PySem.MeetsSeq2 PySem.MeetsSeq3
end
def EW(K:aah):R2:=λx y H Q=>∃a b xs,x=.ref a/\y=.ref b/\Bs K H a xs/\Bs K H b []/\Q (.bl (!xs.isEmpty)) H
theorem kh(hu:X.A.units<cLine):AK X (aaV .NotEq) (EW X.K):=by
 intro pins s σ H x y v u Q I rx ry h
 obtain⟨a,b,xs,rfl,rfl,ha,hb,q⟩:=h
 cases rx
 cases ry
 obtain⟨iD,r1,p1,_⟩:=I.list ha
 obtain⟨Bq,r2,p2,_⟩:=I.list hb
 cases r2
 have fin:∀k,k=(!xs.isEmpty)->EP X pins σ Q (.bool k) s:=λk e=>by subst e;exact⟨.bl _,H,I,rfl,q⟩
 cases r1 with
 |nil=>exact SeqAt.RcNeAt.lists (e:=λ_=>true) p1.isList p2.isList rfl hu (λj h1 h2=>absurd h1 (by simp)) X.prog X.w X.xe _ (fin _ rfl)
 |cons _ _=>exact SeqAt.RcNeAt.lists_lengths p1.isList p2.isList (by simp) hu X.prog X.w X.xe _ (fin _ rfl)
def DE(x:Str)(n:Nat):Str:=⟨(aaK n x.cps.toList).flatten.toArray⟩
def JX:R2:=λx y H Q=>∃(z:Str) (i:Int),x=.str z/\y=.int i/\0<=i/\i<=1000/\z.length<=1000/\Q (.str (DE z i.toNat)) H
theorem ng(x:Array Nat):∀(n:Nat) (acc:Array Nat),((aaK n x).foldl (·++·) acc)=acc++(aaK n x.toList).flatten.toArray
 |0,acc=>by simp
 |n+1,acc=>by
  rw[abq,abC,ng x n,abq,ab2]
  apply Array.toList_inj.mp
  simp
theorem vX(x:Str)(i:Int)(h:0<=i):Txt.mul x i=DE x i.toNat:=by
 unfold Txt.mul DE
 by_cases h1:i<1
 ·have:i=0:=by omega
  subst this
  rfl
 ·rw[if_neg h1]
  by_cases h2:(i==1 || x.length==0)=true
  ·rw[if_pos h2]
   rw[aey]at h2
   obtain⟨x⟩:=x
   rcases h2 with z|z
   ·have:i=1:=by simpa using z
    subst this
    congr 1
    apply Array.toList_inj.mp
    simp
   ·have hz:x.size=0:=by simpa[adh]using z
    have:x=#[]:=Array.eq_empty_of_size_eq_zero hz
    subst this
    congr 1
    apply Array.toList_inj.mp
    simp
  ·rw[if_neg h2,ng]
   congr 1
   simp
theorem wS:AK X (acq .Mult) JX:=by
 intro pins s σ H x y v u Q I rx ry h
 obtain⟨z,i,rfl,rfl,h0,h1,h2,q⟩:=h
 obtain⟨t,rfl⟩:=rx
 obtain⟨t',rfl⟩:=ry
 refine SB.mul ⟨?_,λ_ _ hh=>?_,λ_ _=>?_⟩ λt2 k=>?_
 ·rw[decide_eq_false (by omega),decide_eq_false (by omega)];rfl
 ·have:((2:Int) ^ 63 - 1) / i ≥ 2 ^ 50:=by
   apply (Int.le_ediv_iff_mul_le (by omega)).mpr
   have:(2:Int) ^ 50*i<=2 ^ 50*1000:=afx h1 (by decide)
   have e:(2:Int) ^ 50*1000<=2 ^ 63 - 1:=by decide
   omega
  have e:(2:Int) ^ 50 > 1000:=by decide
  omega
 ·have:z.length*i.toNat<=1000*1000:=Nat.mul_le_mul h2 (by omega)
  refine decide_eq_false ?_
  rw[aaz]
  omega
 ·rw[vX z i h0]
  exact⟨.str (DE z i.toNat),H,I.tok k,⟨_,rfl⟩,q⟩
def MP(K:aah):List V->Hp->VK->Prop:=λxs H Q=>∃x t c b,xs=[x,.ty c]/\Dp K H x t/\aeH K t (.type c)=some b/\Q (.bl b) H
theorem vC:zZ X (.builtin "isinstance") (MP X.K):=by
 intro pins s σ H xs us Q I r h
 obtain⟨x,t,c,b,rfl,ty,e,q⟩:=h
 cases r with
 |cons r1 r2=>
  cases r2 with
  |cons r2 r3=>
   cases r3
   cases r2
   exact sN I r1 ty e λtk=>⟨.bl b,H,I.tok tk,rfl,q⟩
def Px(wi:TI)(g:TG)(tc:TT)(tk te:TE)(js:List (Option Nat)):TE:=λσ H Q=>wi σ H λJ H1=>∀l,H1 l=none ->
 ∃W:Nat->Nat->List (Key×V)->Hp->Prop,(∃m,W 0 m [] (upd H1 l (.dK [])))/\∀i m ys H2,W i m ys H2 ->
  (J.stop i H2/\Q (.ref l) H2)\/(J.go i H2/\∀x H3,J.yld i H2 x H3->g x (AE js σ) H3 λσ4 H4=>tc σ4 H4 λb H5=>
   if b=true then tk σ4 H5 λkk H6=>te σ4 H6 λy H7=>∃key,kk=kV key/\H7 l=some (.dK ys)/\ys.length<sizeLine/\∃m',m'<m/\W (i+1) m' (putK ys key y) (upd H7 l (.dK (putK ys key y)))else ∃m',m'<m/\W (i+1) m' ys H5)
variable{tg kx vx iter:Expr}{ifs:List Expr}{scope:Scope}{pos:Pos}{wi:TI}{g:TG}{tc:TT}{tk te:TE}{N:List Str}{js:List (Option Nat)}
variable{pos':Pos}
theorem qB{use:Option (Value->Sem Unit)}{Q:VK}{QQ:Value->Shared->Prop}(hc:X.calm=true)(hx:X.xe=λ_ _=>False)(hi:PI X tg iter wi)
  (hg:∀C s₀ H₀ ex pn,PG (zV X scope N C s₀ H₀ ex pn) tg g) (ht:∀C s₀ H₀ ex pn,PF (zV X scope N C s₀ H₀ ex pn) ifs tc) (hk:∀C s₀ H₀ ex pn,PE (zV X scope N C s₀ H₀ ex pn) kx tk) (he:∀C s₀ H₀ ex pn,PE (zV X scope N C s₀ H₀ ex pn) vx te) (Iu:CL js g)
  (DM:DT X.env scope=true) (A6:Ce X.N scope N js=true) (Au:scope.kind=.function) (hs:∀x,abo iter X.env x=pure x)
  (I:Inv X pins σ H s) (h:Px wi g tc tk te js σ H Q)
  (fin:∀(l C:Addr) (H':Hp) (s':Shared),Inv X pins σ H' s'->Q (.ref l) H'->H' C=none->C≠X.env.locals->X.s₀.heap.objs.size<=C->(∀x c,X.env.cells.lookup x=some c->c≠C)->(∀p∈X.pn++pins,p.1≠C)->(∃m,s'.heap.Ns C m)->afz (model X.prog X.w) X.A E use QQ (.ref l) C (.ok .next) s') :
  wpAny (model X.prog X.w) X.A (ad4 (.DictComp kx vx [⟨tg,iter,ifs,0⟩] scope pos) scope X.env pos' newDict false (eval iter X.env) use) QQ E s:=by
 have SC:=qa DM
 have CP:=pi A6
 refine wpAny_comprehension_free (cl:=Cn X.env.cells scope.names []) rfl hs (ij (SC.cells I.ok)) Au SC.lc ?_
 refine aaL (hi pins s σ H _ I h) (λv s1 h1=>aaL h1 (λOF s2 h2=>?_) (λ_ _ z=>by rw[hx]at z;exact z.elim)) (λ_ _ z=>by rw[hx]at z;exact z.elim)
 obtain⟨it,fp,tn,J,H2,rfl,I2,T,KG,f2,hq⟩:=h2
 have Mi:H2 s2.heap.objs.size=none:=I2.zY.fresh (aak _)
 obtain⟨W,⟨m0,w0⟩,turn⟩:=hq s2.heap.objs.size Mi
 refine aaa (wpAny_alloc (aaf (aeB (λx hx=>SC.nc x hx) (by intro y hy;simp at hy) (λh₁ hns₁ hsb₁=>?_) Au)))
 dsimp only at hns₁ hsb₁ ⊢
 generalize JC:s2.heap.push ({cls:=.type "dict",data:=.dict #[]}:Obj)=hp3 at hns₁ hsb₁ ⊢
 have NQ:hp3.objs.size=s2.heap.objs.size+1:=by rw[<- JC,aa3]
 have I3:Inv X pins σ (upd H2 s2.heap.objs.size (.dK [])) {s2 with heap:=hp3}:=by
  rw[<- JC]
  exact I2.laid (t':=s2.toks) (λb u e=>aac _ e) (aak _) (oZ s2.heap I2.Ra)
 have keep:∀b o,hp3.get? b=some o->h₁.get? b=some o:=λb o e=>hsb₁.extBut b o (aaq (aaj e)) (aac _ e)
 have LJ:∀b∈fp,b<s2.heap.objs.size:=λb hb=>by
  obtain⟨o,e,_⟩:=T.obj _ _ KG b hb
  exact aaj e
 have f3:∀b∈fp,CV X pins (upd H2 s2.heap.objs.size (.dK [])) b:=λb hb=>⟨by rw[ak (aaq (LJ b hb))];exact(f2 b hb).1,(f2 b hb).2⟩
 have J4:=oP (tk:=s2.toks+([]:List (Str×Value)).length) (C:=hp3.objs.size) (fp:=fp) (h₁:=h₁) (scope:=scope) (N:=N) (js:=js) I3 SC CP Au f3 (λb hb=>by show b<hp3.objs.size;rw[NQ];exact abi (LJ b hb)) rfl keep (by
  have:(λx=>adz x ([]:List (Str×Value)).reverse)=λ_=>none:=by funext x;rfl
  rw[this]at hns₁;exact hns₁)
 have MF:tn 0 h₁:=T.keep _ _ _ KG λb hb o e=>keep b o (by rw[<- JC];exact aac _ e)
 have loop:∀s4:Shared,s4={s2 with heap:=h₁,toks:=s2.toks+([]:List (Str×Value)).length} ->
   ad5 (model X.prog X.w) X.A (.compLoop (.DictComp kx vx [⟨tg,iter,ifs,0⟩] scope pos) 0 (.ref it) (.ref s2.heap.objs.size) (compEnvC scope (Cn X.env.cells scope.names []) hp3.objs.size X.env)) (afz (model X.prog X.w) X.A E use QQ (.ref s2.heap.objs.size) hp3.objs.size) s4:=by
  rintro s4 rfl
  generalize hY:zV X scope N hp3.objs.size {s2 with heap:=hp3} (upd H2 s2.heap.objs.size (.dK [])) fp (X.pn++pins)=Y at J4
  have LK:∀{H':Hp},(∀b∈fp,H' b=none)->∀b∈fp,CV Y [] H' b:=λhn b hb=>by
   subst hY
   refine⟨hn b hb,?_,?_,.inl hb,λx c e=>?_,λp hp=>?_⟩
   ·show b≠hp3.objs.size
    rw[NQ];exact aaq (abi (LJ b hb))
   ·intro z
    rcases List.mem_cons.mp (I3.C7 b z)with q|q
    ·exact(f3 b hb).2.1 q
    ·exact(f3 b hb).2.2.1 q
   ·exact(f3 b hb).2.2.2.2.1 x c (fq (SC.cells I.ok) (λc e=>by simp at e) e)
   ·exact(f3 b hb).2.2.2.2.2 p (by simpa[zV]using hp)
  have QC:PG Y tg g:=by subst hY;exact hg _ _ _ _ _
  have Qo:PF Y ifs tc:=by subst hY;exact ht _ _ _ _ _
  have Uh:PE Y kx tk:=by subst hY;exact hk _ _ _ _ _
  have QF:PE Y vx te:=by subst hY;exact he _ _ _ _ _
  have eA:Y.A=X.A:=by subst hY;rfl
  have eP:Y.prog=X.prog:=by subst hY;rfl
  have eW:Y.w=X.w:=by subst hY;rfl
  have eK:Y.K=X.K:=by subst hY;rfl
  have eC:Y.calm=true:=by subst hY;exact hc
  have eX:Y.xe=λ_ _=>False:=by subst hY;rfl
  have eE:Y.env=compEnvC scope (Cn X.env.cells scope.names []) hp3.objs.size X.env:=by subst hY;rfl
  have T':Turn Y.prog Y.w Y.K tg J fp it tn:=by rw[eP,eW,eK];exact T
  have eL:(AE js σ).length=js.length:=by unfold AE;rw[aad]
  rw[<- eP,<- eW,<- eA,<- eE]
  refine codeAny_loop rfl (λn s'=>∃i ys H',Inv Y [] (AE js σ) H' s'/\tn i s'.heap/\(∀b∈fp,H' b=none)/\W i n ys H') (λn s' hI=>?_) m0 ⟨0,[],_,J4,MF,λb hb=>(f3 b hb).1,w0⟩
  obtain⟨i,ys,H5,I5,Jg,LI,w5⟩:=hI
  show wpAny _ Y.A ((compTurn (.DictComp kx vx [⟨tg,iter,ifs,0⟩] scope pos) 0 (.ref it) (.ref s2.heap.objs.size) Y.env).onRaise (λx=>do noteFrame x Y.env;theTreesLotGoes x)) _ _ s'
  refine wpAny_noted ?_
  rw[compTurn_dict]
  refine aaa (acE (aaa ?_))
  have Gm:∀(x:Value) (s:Shared) (P:Prop),Y.xe x s->P:=λx s P z=>by rw[eX]at z;exact z.elim
  rcases turn i n ys H5 w5 with ⟨stop,qn⟩|⟨go,step⟩
  ·refine aaL (T'.done Y rfl rfl rfl eC i [] s' _ H5 Y.xe I5 (LK LI) Jg stop) (λr s6 ⟨hr,I6⟩=>?_) λx s z=>Gm x s _ z
   subst hr
   refine aaf ?_
   show afz _ _ _ _ _ _ _ _ _
   rw[eP,eW,eA]
   have back:Inv X pins σ H5 s6:=by subst hY;exact oQ I3 I6 f3
   have Jy:∃m,s6.heap.Ns hp3.objs.size m:=by
    obtain⟨m,hm,_⟩:=I6.loc
    have:Y.env.locals=hp3.objs.size:=by rw[eE];rfl
    rw[this]at hm
    exact⟨m,hm⟩
   have QX:H5 hp3.objs.size=none:=by
    have:=I6.free
    have e:Y.env.locals=hp3.objs.size:=by rw[eE];rfl
    rw[e]at this;exact this
   refine fin s2.heap.objs.size hp3.objs.size H5 s6 back qn QX ?_ ?_ ?_ ?_ Jy
   ·exact abZ I3.lt
   ·exact I3.sz
   ·intro x c e z
    obtain⟨v,o,ho,_⟩:=I3.cell x c e
    exact absurd (aaj ho) (by rw[z];exact abl _)
   ·intro p hp z
    have:=aaj (I3.pin p hp).1
    rw[z]at this;exact absurd this (abl _)
  ·refine aaL (T'.item Y rfl rfl rfl eC i [] s' _ H5 Y.xe I5 (LK LI) Jg go) (λr s6 h6=>?_) λx s z=>Gm x s _ z
   obtain⟨u,hr,h6⟩:=h6
   subst hr
   dsimp only
   refine aaa ?_
   refine aaL h6 (λ_ s7 h7=>?_) λx s z=>Gm x s _ z
   obtain⟨x,H7,I7,r7,y7,KD,Q3⟩:=h7
   have Rn:=I7.pinned (LK Q3) (T.obj _ _ KD)
   have g7:=Iu x (AE js σ) H7 _ (step x H7 y7)
   refine aaa ?_
   refine aaL (QC _ s7 (AE js σ) H7 x u _ Rn r7 g7) (λ_ s8 h8=>?_) λx s z=>Gm x s _ z
   obtain⟨σ8,H8,I8,q8,l8,k8⟩:=h8
   refine aaa ?_
   refine aaL (Qo _ s8 σ8 H8 _ I8 q8) (λb s9 h9=>?_) λx s z=>Gm x s _ z
   obtain⟨H9,I9,q9⟩:=h9
   have again:∀{s':Shared} {H':Hp},Inv Y ([]++C8 fp s7.heap) σ8 H' s'->Inv Y [] (AE js σ) H' s'/\tn (i+1) s'.heap/\∀b∈fp,H' b=none:=λ{s' H'} I'=>by
    refine⟨(I'.Cq).weak l8.symm λk v e=>?_,T.keep _ _ _ KD λb hb o e=>(I'.pin (b,o) (aaR _ (aaR _ (ci hb e)))).1,λb hb=>?_⟩
    ·cases ej:js[k]? with
     |none=>
      unfold AE at e
      rw[aal,ej]at e;cases e
     |some o=>
      cases o with
      |none=>
       unfold AE at e
       rw[aal,ej]at e;cases e
      |some j=>rw[k8 k j ej];exact e
    ·obtain⟨o,e,d⟩:=T.obj _ _ KD b hb
     exact(I'.pin (b,o) (aaR _ (aaR _ (ci hb e)))).2.1
   cases b with
   |false=>
    rw[if_neg aaB]at q9
    obtain⟨m',hm,w9⟩:=q9
    obtain⟨a1,a2,a3⟩:=again I9
    exact aaf ⟨rfl,m',hm,i+1,ys,H9,a1,a2,a3,w9⟩
   |true=>
    rw[if_pos rfl]at q9
    refine aaa (aaa ?_)
    refine aaL (Uh _ s9 σ8 H9 _ I9 q9) (λkv PD QZ=>?_) λx s z=>Gm x s _ z
    obtain⟨kk,O0,Ro,PQ,Tb⟩:=QZ
    refine aaa (aaN ?_)
    refine aaL (QF _ PD σ8 O0 _ Ro Tb) (λvv Ow QY=>?_) λx s z=>Gm x s _ z
    obtain⟨yv,SA,OZ,Ta,key,ek,OT,z11,m',hm,SJ⟩:=QY
    subst ek
    refine aaa (acE (aaN ?_))
    obtain⟨zz,hd,vs,rel,dd⟩:=hU OZ.zY OT
    have hz:vs.length<=sizeLine:=by rw[<- rel.length];exact zz
    have hl:(putK ys key yv).length<=sizeLine:=by have:=fX ys key yv;omega
    refine wpAny_dictSet_pairs (hsz:=hz) (fD PQ) dd λh' I0 hs=>?_
    have he:∃q,h'.get? s2.heap.objs.size=some q:=let ⟨q,_,_,hq,_⟩:=I0;⟨q,hq⟩
    have Vq:Inv Y _ σ8 (upd SA s2.heap.objs.size (.dK (putK ys key yv))) {Ow with heap:=h',toks:=Ow.toks+1}:=jz (t':=Ow.toks+1) OZ (by rw[OT];exact acH) hs he (oY hl hd (rel.put key Ta) I0)
    obtain⟨a1,a2,a3⟩:=again Vq
    exact aaf ⟨rfl,m',hm,i+1,putK ys key yv,_,a1,a2,a3,SJ⟩
 exact codeAny_compStart_dict (loop _ rfl) (T.self X.A 0 _ _ _ MF (loop _ rfl))
theorem zr(hi:PI X tg iter wi)(hg:∀C s₀ H₀ ex pn,PG (zV X scope N C s₀ H₀ ex pn) tg g)(ht:∀C s₀ H₀ ex pn,PF (zV X scope N C s₀ H₀ ex pn) ifs tc)(hk:∀C s₀ H₀ ex pn,PE (zV X scope N C s₀ H₀ ex pn) kx tk)(he:∀C s₀ H₀ ex pn,PE (zV X scope N C s₀ H₀ ex pn) vx te)(Iu:CL js g)
  (hc:X.calm=true:=by rfl) (hx:X.xe=(λ_ _=>False):=by rfl) (DM:DT X.env scope=true:=by rfl) (A6:Ce X.N scope N js=true:=by rfl) (Au:scope.kind=.function:=by rfl) (hs:∀x,abo iter X.env x=pure x:=by intro _;rfl) :
  PE X (.DictComp kx vx [⟨tg,iter,ifs,0⟩] scope pos) (Px wi g tc tk te js):=by
 intro pins s σ H Q I h
 show wpAny _ X.A (ad4 (.DictComp kx vx [⟨tg,iter,ifs,0⟩] scope pos) scope X.env _ newDict false (eval iter X.env)) _ _ s
 refine qB (use:=none) hc hx hi hg ht hk he Iu DM A6 Au hs I h λl C H' s' I' q f0 f1 f2 f3 f4 ⟨m,hm⟩=>?_
 refine⟨m,hm,λh' sb=>⟨.ref l,H',?_,rfl,q⟩⟩
 exact I'.turned (t':=s'.toks) (it:=C) (λb o hb e=>sb.extBut b o hb e) f0 f1 (.inr f2) f3 f4
variable{i:Nat}{y:Str}{py:Pos}
theorem zp{B5:Pos}(hN:X.N.Nodup)(hy:X.N[i]?=some y)(hl:X.env.scope.names.lookup y=some .local)(hi:PI X tg iter wi)(hg:∀C s₀ H₀ ex pn,PG (zV X scope N C s₀ H₀ ex pn) tg g)(ht:∀C s₀ H₀ ex pn,PF (zV X scope N C s₀ H₀ ex pn) ifs tc)(hk:∀C s₀ H₀ ex pn,PE (zV X scope N C s₀ H₀ ex pn) kx tk)(he:∀C s₀ H₀ ex pn,PE (zV X scope N C s₀ H₀ ex pn) vx te)(Iu:CL js g)
  (Lm:acP (.DictComp kx vx [⟨tg,iter,ifs,0⟩] scope pos) (some (.Name y py)) B5.line X.env=pure true:=by rfl)
  (hc:X.calm=true:=by rfl) (hx:X.xe=(λ_ _=>False):=by rfl) (DM:DT X.env scope=true:=by rfl) (A6:Ce X.N scope N js=true:=by rfl) (Au:scope.kind=.function:=by rfl) (hs:∀x,abo iter X.env x=pure x:=by intro _;rfl) :
  PS X (.Assign [.Name y py] (.DictComp kx vx [⟨tg,iter,ifs,0⟩] scope pos) B5) (Gb (Px wi g tc tk te js) (CI i)):=by
 intro pins s σ H D I h
 rw[exec_Assign_Name_used _ _ _ _ Lm]
 refine aaa (acE (aaa ?_))
 show wpAny _ X.A (do let _ <- ad4 (.DictComp kx vx [⟨tg,iter,ifs,0⟩] scope pos) scope X.env _ newDict false (eval iter X.env) (some (assign (.Name y py) X.env))) _ _ s
 refine aaa (aaL (qB (use:=some (assign (.Name y py) X.env)) (E:=X.xe) (QQ:=λ_ s'=>SP X pins D .next s') hc hx hi hg ht hk he Iu DM A6 Au hs I h λl C H' s' I' q f0 f1 f2 f3 f4 ⟨m,hm⟩=>?_) (λ_ s' hq=>aaf (aaf hq)) λ_ _ e=>e)
 show wpAny _ X.A (assign (.Name y py) X.env (.ref l)) _ _ _
 refine ae5 (iq I' hN hy (.inl hl) (v:=.ref l) rfl (λKP Rp ⟨a,sb,ha⟩=>?_) (.inr hl))
 have QR:C≠a:=by
  rcases ha with rfl|ha
  ·exact f1
  ·exact λz=>f3 _ _ ha z.symm
 refine⟨m,hm.sameBut sb QR,λh' PB=>⟨_,H',?_,q⟩⟩
 exact Rp.turned (t':=KP.toks) (it:=C) (λb o hb e=>PB.extBut b o hb e) f0 f1 (.inr f2) f3 f4
theorem jQ:∀{bs:List Bool} {us:List Value},zP (bs.map V.bl) us->LSm.BoolsAre us bs
 |[],_,r=>by cases r;exact .nil
 |b::bs,_,r=>by
  cases r with
  |cons r1 r2=>cases r1;exact .cons b (jQ r2)
theorem ia(hc:X.calm=true):zZ X (.builtin "all") (λxs H Q=>∃(p:Addr) (bs:List Bool),xs=[.ref p]/\Bs X.K H p (bs.map V.bl)/\Q (.bl (bs.all id)) H):=by
 intro pins s σ H xs us Q I r h
 obtain⟨p,bs,rfl,hq,q⟩:=h
 obtain⟨u,rfl,ru⟩:=r.one
 cases ru
 obtain⟨iD,rv,pl,hz⟩:=I.list hq
 have hb:=jQ rv
 have hl:=pl.isList
 have AV:p<s.heap.objs.size:=by obtain⟨_,e,_⟩:=hl;exact aaj e
 refine call_all_walk (adf hl ⟨s.heap.objs.size,[s.heap.objs.size,p],[s.heap.objs.size],iD.toArray.size,_,_,λi=>(bs[i]?).getD true,rfl,
  Walks.list (A:=X.A.in1) (I.ok.hd hc) _ p (aaq AV) iD.toArray,⟨⟨_,aai _ rfl,rfl,rfl⟩,hl.push _⟩,λi v s' Q' E' hP hQ=>?_,λh' tk hk=>?_⟩)
 ·obtain⟨b,eb,rfl⟩:=hb.get i v (by simpa using hP)
  simp only[eb,acU]at hQ
  exact ab1 hQ
 ·have eb:((aaM iD.toArray.size).all λi=>(bs[i]?).getD true)=bs.all id:=by
   rw[aag,hb.length,LSm.range_all bs]
  rw[eb]
  exact⟨.bl (bs.all id),H,I.kept (LSm.kept_iter hk),rfl,q⟩
variable{j t:Addr}{n:Nat}
theorem ma{iD:Array Value}(gj:s.heap.IsTupleIter j t n)(gt:s.heap.IsTuple t iD)(gx:iD[n]?=some x)
  (k:∀h',h'.IsTupleIter j t (n+1)->acn j s.heap h'->Q x {s with heap:=h'}):wpAny (model prog w) A (abe (.ref j)) Q E s:=by
 obtain⟨oj,j1,j2,j3⟩:=id gj
 obtain⟨ot,t1,_,m,t3⟩:=gt
 unfold abe
 refine aaa (abk (name:=aax "__next__") gj.typeIs acM (aaW acM gj.typeIs afP ?_ (afB _)))
 show wpAny _ _ (field (.ref j) 0 >>= _) _ _ s
 refine aaa (abv j1 j3 (x:=.ref t) rfl ?_)
 show wpAny _ _ (if (aar t==.none)=true then _ else _) _ _ s
 rw[if_neg (show ¬ ((aar t==.none)=true)from aaB)]
 show wpAny _ _ (field (.ref j) 1 >>= _) _ _ s
 refine aaa (abv j1 j3 (x:=.int n 0) rfl ?_)
 refine aaa (m:=seqItems? (.ref t)) (abL t1 t3 ?_)
 simp only[ab3,gx]
 refine aaa (acw j1 j3 (by simp) (aaf ⟨x,rfl,aaf (k _ ⟨_,abr _ j1 (acD (abj j3 _)),(adT ..).trans j2,?_⟩ (aa1 ..))⟩))
 rw[abj j3]
 simp[rawInt]
theorem IB{iD:Array Value}(hh:A.handled=none)(gj:s.heap.IsTupleIter j t n)(gt:s.heap.IsTuple t iD)(gx:iD[n]?=none)
  (k:∀h' e,Heap.ExtBut j s.heap h'->(∃o,h'.get? e=some o/\o.cls=.type "StopIteration")->E (.ref e) {s with heap:=h'}):wpAny (model prog w) A (abe (.ref j)) Q E s:=by
 obtain⟨oj,j1,j2,j3⟩:=id gj
 obtain⟨ot,t1,_,m,t3⟩:=gt
 unfold abe
 refine aaa (abk (name:=aax "__next__") gj.typeIs acM (aaW acM gj.typeIs afP ?_ (afB _)))
 show wpAny _ _ (field (.ref j) 0 >>= _) _ _ s
 refine aaa (abv j1 j3 (x:=.ref t) rfl ?_)
 show wpAny _ _ (if (aar t==.none)=true then _ else _) _ _ s
 rw[if_neg (show ¬ ((aar t==.none)=true)from aaB)]
 show wpAny _ _ (field (.ref j) 1 >>= _) _ _ s
 refine aaa (abv j1 j3 (x:=.int n 0) rfl ?_)
 refine aaa (m:=seqItems? (.ref t)) (abL t1 t3 ?_)
 simp only[ab3,gx]
 refine aaa (acY (aaa (acw j1 j3 (by simp) ?_)))
 refine aaa (m:=newExc (.type "StopIteration") []) ?_
 simp only[newExc,newTuple]
 refine aaa (aa4 (aaa (m:=aeG _ _) (wpAny_of_eq (a:=aa6) (by first|rfl|(simp only[aeG];rfl)) (aa4 ?_ (by size_fits)))) (by size_fits))
 simp only[raiseNew]
 refine aaa (wpAny_handled ?_)
 first|rw[show A.in1.handled=none from hh]|rw[hh]
 exact aaa (aaf (wpAny_throw (k _ _ (((aa1 ..).extBut.push _).push _) ⟨_,aai _ rfl,rfl⟩)))
structure Hr(h:Heap)(z u o i1 i2 t1 t2:Addr)(n:Nat):Prop where
 zz:IsZip h z u o .none
 uu:IsPair h u (.ref i1) (.ref i2)
 oo:∃a b,IsPair h o a b
 a1:h.IsTupleIter i1 t1 n
 a2:h.IsTupleIter i2 t2 n
structure JL(z u o i1 i2:Addr):Prop where
 uz:u≠z
 oz:o≠z
 x1z:i1≠z
 x2z:i2≠z
 uo:u≠o
 u1:u≠i1
 u2:u≠i2
 o1:o≠i1
 o2:o≠i2
 xx:i1≠i2
theorem Fm{iD:Array Value}(x:h.IsTuple a iD)(k:∀o,h.get? a=some o->h'.get? a=some o):h'.IsTuple a iD:=by
 obtain⟨o,e,r⟩:=x
 exact⟨o,k o e,r⟩
theorem BW(x:h.IsTupleIter a t n)(k:∀o,h.get? a=some o->h'.get? a=some o):h'.IsTupleIter a t n:=by
 obtain⟨o,e,r⟩:=x
 exact⟨o,k o e,r⟩
variable{z u:Addr}{v:Value}
theorem ee{o:Addr}{iD:Array Value}(x:h.IsTuple t iD)(y:IsZip h z u o v):t≠z:=by
 rintro rfl
 obtain⟨q,e,c,_⟩:=x
 rw[y]at e;cases e
 simp at c
variable{b:Addr}
theorem kM{iD:Array Value}(x:h.IsTuple t iD)(y:h.IsTupleIter j b n):t≠j:=by
 rintro rfl
 obtain⟨q,e,c,_⟩:=x
 obtain⟨q',e',c',_⟩:=y
 rw[e]at e';cases e'
 rw[c]at c'
 simp at c'
variable{i1 i2 t1 t2:Addr}{ys:Array Value}
theorem rC{o:Addr}{xs:Array Value}{y:Value}{Q:Option Value->Shared->Prop}(D:JL z u o i1 i2)(Z:Hr s.heap z u o i1 i2 t1 t2 n)(Hk:t1≠o)(Iq:t2≠o)
  (g1:s.heap.IsTuple t1 xs) (g2:s.heap.IsTuple t2 ys) (e1:xs[n]?=some x) (e2:ys[n]?=some y)
  (k:∀h',IsZip h' z u o (rawInt s.heap.objs.size)->IsPair h' u (.ref i1) (.ref i2)->IsPair h' o x y->h'.IsTupleIter i1 t1 (n+1)->h'.IsTupleIter i2 t2 (n+1)->IsPair h' s.heap.objs.size x y->h'.objs.size=s.heap.objs.size+1 ->
   (∀c q,c∉[z,o,i1,i2]->s.heap.get? c=some q->h'.get? c=some q)->Q (some (.ref s.heap.objs.size)) {s with heap:=h'}) :
  wpAny (model prog w) A (pyNext (.ref z)) Q E s:=by
 obtain⟨zz,uu,⟨a,b,oo⟩,a1,a2⟩:=Z
 have z1:=ee g1 zz
 have z2:=ee g2 zz
 have Ju:s.TypeIs (.ref z) "zip" := ⟨_,zz,rfl⟩
 unfold pyNext
 refine aaa (aeU (abk (name:=aax "__next__") Ju aew (aaW aew Ju F.entry_zip_next ?_ (F.args_zip_next_1 _))))
 refine aaa (m:=field (.ref z) 2) (abv zz rfl (x:=.bool false) rfl ?_)
 refine aaa (m:=field (.ref z) 3) (abv zz rfl (x:=.ref u) rfl ?_)
 refine aaa (abL uu rfl ?_)
 refine aaa (m:=ab5 (.ref z)) ?_
 unfold ab5
 refine aaa (abv zz rfl (x:=.none) rfl (aaf ?_))
 simp only[if_true]
 refine aaa (acY (aaa (abv zz rfl (x:=.ref o) rfl (aaa (acB zz (by simp) λp1 q1 k1=>?_)))))
 replace q1:IsZip p1 z u o .ellipsis:=q1
 refine aaa ?_
 simp only[List.zipIdx_cons,List.zipIdx_nil,afN,List.forIn_nil]
 refine aaa (aaa (aeT ?_))
 refine aaa (m:=abe (.ref i1)) (ma (BW a1 λq e=>k1.extBut _ _ D.x1z e) (Fm g1 λq e=>k1.extBut _ _ z1 e) e1 λp2 q2 k2=>aaf ?_)
 have r2:IsPair p2 o a b:=k2.extBut _ _ D.o1 (k1.extBut _ _ D.oz oo)
 refine aaa (abL r2 rfl (aaa (aeA r2 λp3 q3 k3=>?_)))
 replace q3:IsPair p3 o x b:=q3
 refine aaa (afC (aaf (aaa (aaa (aeT ?_)))))
 refine aaa (m:=abe (.ref i2)) (ma (BW a2 λq e=>k3.extBut _ _ D.o2.symm (k2.extBut _ _ D.xx.symm (k1.extBut _ _ D.x2z e)))
  (Fm g2 λq e=>k3.extBut _ _ Iq (k2.extBut _ _ (kM g2 a1) (k1.extBut _ _ z2 e))) e2 λp4 q4 k4=>aaf ?_)
 have r4:IsPair p4 o x b:=k4.extBut _ _ D.o2 q3
 refine aaa (abL r4 rfl (aaa (aeA r4 λp5 q5 k5=>?_)))
 replace q5:IsPair p5 o x y:=q5
 refine aaa (afC (aaf (aaf ?_)))
 refine aaa (abL q5 rfl (aaa (aeE ?_)))
 have sz:p5.objs.size=s.heap.objs.size:=by rw[k5.1,k4.1,k3.1,k2.1,k1.1]
 have N0:∀c q,c≠z->c≠o->c≠i1->c≠i2->s.heap.get? c=some q->p5.get? c=some q:=λc q c1 c2 c3 c4 e=>k5.extBut _ _ c2 (k4.extBut _ _ c4 (k3.extBut _ _ c2 (k2.extBut _ _ c3 (k1.extBut _ _ c1 e))))
 have z5:IsZip p5 z u o .ellipsis:=k5.extBut _ _ D.oz.symm (k4.extBut _ _ D.x2z.symm (k3.extBut _ _ D.oz.symm (k2.extBut _ _ D.x1z.symm q1)))
 have b1:p5.IsTupleIter i1 t1 (n+1):=BW q2 λq e=>k5.extBut _ _ D.o1.symm (k4.extBut _ _ D.xx (k3.extBut _ _ D.o1.symm e))
 have b2:p5.IsTupleIter i2 t2 (n+1):=BW q4 λq e=>k5.extBut _ _ D.o2.symm e
 refine aaa (m:=aeK (.ref z) (.ref p5.objs.size)) ?_
 unfold aeK
 have z6:IsZip (p5.push {cls:=.type "tuple",data:=.seq #[x,y]}) z u o .ellipsis:=aac _ z5
 refine aaa (acB z6 (by simp) λp7 q7 k7=>?_)
 replace q7:IsZip p7 z u o (rawInt p5.objs.size):=q7
 refine acB q7 (by simp) λp8 q8 k8=>?_
 replace q8:IsZip p8 z u o (rawInt p5.objs.size):=q8
 have up:∀c q,c≠z->p5.get? c=some q->p8.get? c=some q:=λc q c1 e=>k8.extBut _ _ c1 (k7.extBut _ _ c1 (aac _ e))
 have Ry:p5.objs.size≠z:=abZ (aaj z5)
 have M6:IsPair p8 p5.objs.size x y:=k8.extBut _ _ Ry (k7.extBut _ _ Ry (aai _ rfl))
 have s8:p8.objs.size=p5.objs.size+1:=by rw[k8.1,k7.1,aa3]
 rw[sz]at q8 M6 s8
 refine aaf ⟨_,rfl,aaf ?_⟩
 show Q (some (.ref p5.objs.size)) _
 rw[sz]
 exact k p8 q8 (up _ _ D.uz (N0 _ _ D.uz D.uo D.u1 D.u2 uu)) (up _ _ D.oz q5) (BW b1 λq e=>up _ _ D.x1z e) (BW b2 λq e=>up _ _ D.x2z e) M6 s8 λc q hc e=>by
  simp only[aa5,aaQ,or_false,not_or]at hc
  exact up c q hc.1 (N0 c q hc.1 hc.2.1 hc.2.2.1 hc.2.2.2 e)
theorem tU{o:Addr}{xs:Array Value}{Q:Option Value->Shared->Prop}(hh:A.handled=none)(D:JL z u o i1 i2)(Z:Hr s.heap z u o i1 i2 t1 t2 n)(Hk:t1≠o)(Iq:t2≠o)
  (g1:s.heap.IsTuple t1 xs) (g2:s.heap.IsTuple t2 ys) (e:xs[n]?=none\/ys[n]?=none)
  (k:∀h',(∀c q,c∉[z,o,i1,i2]->s.heap.get? c=some q->h'.get? c=some q)->Q none {s with heap:=h'}) :
  wpAny (model prog w) A (pyNext (.ref z)) Q E s:=by
 obtain⟨zz,uu,⟨a,b,oo⟩,a1,a2⟩:=Z
 have z1:=ee g1 zz
 have z2:=ee g2 zz
 have Ju:s.TypeIs (.ref z) "zip" := ⟨_,zz,rfl⟩
 unfold pyNext
 have fin:∀(h':Heap) (x:Addr),(∀c q,c∉[z,o,i1,i2]->s.heap.get? c=some q->h'.get? c=some q)->(∃q,h'.get? x=some q/\q.cls=.type "StopIteration") ->
   wpAny (model prog w) A (do if (<- isInstance (.ref x) (.type "StopIteration"))then pure none else throw (.ref x)) Q E {s with heap:=h'}:=λh' x kk ⟨q,hq,hc⟩=>
  aaa (afs (T := "StopIteration") (b:=true) ⟨q,hq,hc⟩ isSubtype_stop (aaf (k _ kk)))
 refine aaa (aeU (abk (name:=aax "__next__") Ju aew (aaW aew Ju F.entry_zip_next ?_ (F.args_zip_next_1 _))))
 refine aaa (m:=field (.ref z) 2) (abv zz rfl (x:=.bool false) rfl ?_)
 refine aaa (m:=field (.ref z) 3) (abv zz rfl (x:=.ref u) rfl ?_)
 refine aaa (abL uu rfl ?_)
 refine aaa (m:=ab5 (.ref z)) ?_
 unfold ab5
 refine aaa (abv zz rfl (x:=.none) rfl (aaf ?_))
 simp only[if_true]
 refine aaa (acY (aaa (abv zz rfl (x:=.ref o) rfl (aaa (acB zz (by simp) λp1 q1 k1=>?_)))))
 replace q1:IsZip p1 z u o .ellipsis:=q1
 refine aaa ?_
 simp only[List.zipIdx_cons,List.zipIdx_nil,afN,List.forIn_nil]
 refine aaa (aaa (aeT ?_))
 cases e1:xs[n]? with
 |none=>
  refine aaa (m:=abe (.ref i1)) (IB hh (BW a1 λq e=>k1.extBut _ _ D.x1z e) (Fm g1 λq e=>k1.extBut _ _ z1 e) e1 λp2 x k2 ⟨ox,x1,x2⟩=>?_)
  have q2:IsZip p2 z u o .ellipsis:=k2 _ _ D.x1z.symm q1
  have xz:x≠z:=λq=>by subst q;rw[q2]at x1;cases x1;simp at x2
  refine acB q2 (by simp) λp3 _ k3=>fin p3 x (λc q hc e=>?_) ⟨ox,k3.extBut _ _ xz x1,x2⟩
  simp only[aa5,aaQ,or_false,not_or]at hc
  exact k3.extBut _ _ hc.1 (k2 _ _ hc.2.2.1 (k1.extBut _ _ hc.1 e))
 |some x0=>
  have e2:ys[n]?=none:=by rcases e with h|h;rw[e1]at h;cases h;exact h
  refine aaa (m:=abe (.ref i1)) (ma (BW a1 λq e=>k1.extBut _ _ D.x1z e) (Fm g1 λq e=>k1.extBut _ _ z1 e) e1 λp2 q2 k2=>aaf ?_)
  have r2:IsPair p2 o a b:=k2.extBut _ _ D.o1 (k1.extBut _ _ D.oz oo)
  refine aaa (abL r2 rfl (aaa (aeA r2 λp3 q3 k3=>?_)))
  refine aaa (afC (aaf (aaa (aaa (aeT ?_)))))
  refine aaa (m:=abe (.ref i2)) (IB hh (BW a2 λq e=>k3.extBut _ _ D.o2.symm (k2.extBut _ _ D.xx.symm (k1.extBut _ _ D.x2z e)))
   (Fm g2 λq e=>k3.extBut _ _ Iq (k2.extBut _ _ (kM g2 a1) (k1.extBut _ _ z2 e))) e2 λp4 x k4 ⟨ox,x1,x2⟩=>?_)
  have q4:IsZip p4 z u o .ellipsis:=k4 _ _ D.x2z.symm (k3.extBut _ _ D.oz.symm (k2.extBut _ _ D.x1z.symm q1))
  have xz:x≠z:=λq=>by subst q;rw[q4]at x1;cases x1;simp at x2
  refine acB q4 (by simp) λp5 _ k5=>fin p5 x (λc q hc e=>?_) ⟨ox,k5.extBut _ _ xz x1,x2⟩
  simp only[aa5,aaQ,or_false,not_or]at hc
  exact k5.extBut _ _ hc.1 (k4 _ _ hc.2.2.2 (k3.extBut _ _ hc.2.1 (k2.extBut _ _ hc.2.2.1 (k1.extBut _ _ hc.1 e))))
abbrev Oi(h:Heap)(t1:Addr):Heap:=h.push {cls:=.type "tuple_iterator",data:=.fields #[.ref t1,.int 0 0]}
abbrev Oh(h:Heap)(t1 t2:Addr):Heap:=(Oi h t1).push {cls:=.type "tuple_iterator",data:=.fields #[.ref t2,.int 0 0]}
abbrev Og(h:Heap)(t1 t2:Addr):Heap:=(Oh h t1 t2).push {cls:=.type "tuple",data:=.seq #[.ref h.objs.size,.ref (Oi h t1).objs.size]}
abbrev Of(h:Heap)(t1 t2:Addr):Heap:=(Og h t1 t2).push {cls:=.type "tuple",data:=.seq #[.none,.none]}
abbrev Kl(h:Heap)(t1 t2:Addr):Heap:=(Of h t1 t2).push {cls:=.type "zip",data:=.fields #[.none,.bool false,.bool false,.ref (Oh h t1 t2).objs.size,.ref (Og h t1 t2).objs.size]}
theorem uN(t1 t2:Addr)(xs ys:Array Value):Meets (ace.«zip.__new__» ⟨[.type "zip",.ref t1,.ref t2],[]⟩)
  (λ_ R s=>s.heap.IsTuple t1 xs/\s.heap.IsTuple t2 ys/\R (.ok (.ret (.ref (Of s.heap t1 t2).objs.size))) {s with heap:=Kl s.heap t1 t2}) :=
 .of_wp λprog w A R s q=>by
  obtain⟨hp,g,d,tk,os⟩:=s
  obtain⟨g1,g2,q⟩:=q
  have hs:=sub_zip
  have m1:Heap.IsTuple (Shared.heap ⟨hp,g,d,tk,os⟩) t1 xs:=g1
  have m2:Heap.IsTuple (Shared.heap ⟨hp.push {cls:=.type "tuple_iterator",data:=.fields #[.ref t1,.int 0 0]},g,d,tk,os⟩) t2 ys:=Heap.IsTuple.push g2 _
  wp_walk using ac1 m1,ac1 m2
  exact⟨_,rfl,q⟩
theorem xM{xs:Array Value}(g1:s.heap.IsTuple t1 xs)(g2:s.heap.IsTuple t2 ys)
  (k:∀h',Hr h' (s.heap.objs.size+4) (s.heap.objs.size+2) (s.heap.objs.size+3) s.heap.objs.size (s.heap.objs.size+1) t1 t2 0->h'.objs.size=s.heap.objs.size+5->(∀c o,s.heap.get? c=some o->h'.get? c=some o)->Q (.ref (s.heap.objs.size+4)) {s with heap:=h'}) :
  wpAny (model prog w) A (call (.type "zip") [.ref t1,.ref t2]) Q E s:=by
 refine callType_new F.called_zip (by decide) (F.typeCall_zip_2 _ _) (F.newCall_zip_2 _ _) (λobj=>F.args_object_init_3 obj _ _) F.entry_zip_new (uN t1 t2 xs ys) ⟨g1,g2,?_⟩
 have z1:(Oi s.heap t1).objs.size=s.heap.objs.size+1:=aa3 ..
 have z2:(Oh s.heap t1 t2).objs.size=s.heap.objs.size+2:=by rw[aa3,z1]
 have z3:(Og s.heap t1 t2).objs.size=s.heap.objs.size+3:=by rw[aa3,z2]
 have z4:(Of s.heap t1 t2).objs.size=s.heap.objs.size+4:=by rw[aa3,z3]
 have z5:(Kl s.heap t1 t2).objs.size=s.heap.objs.size+5:=by rw[aa3,z4]
 have up:∀{h:Heap} {o o':Obj} {c:Addr},h.get? c=some o'->(h.push o).get? c=some o':=λe=>aac _ e
 have y5:(Kl s.heap t1 t2).get? (Of s.heap t1 t2).objs.size=some _:=aai _ rfl
 have y4:(Kl s.heap t1 t2).get? (Og s.heap t1 t2).objs.size=some _:=up (aai _ rfl)
 have y3:(Kl s.heap t1 t2).get? (Oh s.heap t1 t2).objs.size=some _:=up (up (aai _ rfl))
 have y2:(Kl s.heap t1 t2).get? (Oi s.heap t1).objs.size=some _:=up (up (up (aai _ rfl)))
 have y1:(Kl s.heap t1 t2).get? s.heap.objs.size=some _:=up (up (up (up (aai _ rfl))))
 show _/\_
 rw[z2,z3,z4]at y5
 rw[z1,z2]at y3
 rw[z3]at y4
 rw[z1]at y2
 rw[z4]
 exact⟨⟨_,y5,rfl⟩,k _ ⟨y5,y3,⟨_,_,y4⟩,⟨_,y1,rfl,rfl⟩,⟨_,y2,rfl,rfl⟩⟩ z5 λc o e=>up (up (up (up (up e))))⟩
variable{t':Nat}{fp:List Addr}
theorem Inv.DJ(I:Inv X pins σ H s)(k:∀b o,b∉fp->s.heap.get? b=some o->h'.get? b=some o)(hf:∀b∈fp,CV X pins H b):Inv X pins σ H {s with heap:=h',toks:=t'}:=by
 have M5:∀b u,H b=some u->b∉fp:=λb u e z=>by rw[(hf b z).1]at e;cases e
 refine I.step (g':=s.gens) (d':=s.drawn) (ch:=fp) (λb hb=>?_) (λb o _ _ hc e _=>k b o hc e) (λb o _ _ hc e _=>⟨o.slots,k b o hc e⟩) (λ_ _ _ _ n=>n)
  (λb o hc e=>⟨o,k b o hc e⟩) (λ_ _ e=>e) (λ_ _ _ e=>e) (λb ps e=>⟨#[],by rw[e];simp⟩) (λm hm=>?_) (λb u e=>?_) I.bare
 ·obtain⟨f0,f1,f2,f3,f4,f5⟩:=hf b hb
  exact⟨f3,f1,f4,f5⟩
 ·obtain⟨o,es,ep,ho,r⟩:=hm
  exact⟨o,es,ep,k _ o (λz=>(hf _ z).2.1 rfl) ho,r⟩
 ·refine(I.zY b u e).ET (λc v hc q=>k c v ?_ q) (λ_ q=>q) λ_ _ q=>q
  rcases hc with z|z
  ·rw[z];exact M5 b u e
  ·exact M5 c _ z
def Rj(K:aah)(a b:Addr):It :=
 ⟨λi H=>∃xs ys x y,AW K H a xs/\AW K H b ys/\xs[i]?=some x/\ys[i]?=some y,
  λi H v H'=>∃p x y,v=.ref p/\H p=none/\H'=upd H p (.tup [x,y])/\∀xs ys,AW K H a xs->AW K H b ys->xs[i]?=some x/\ys[i]?=some y,
  λi H=>∃xs ys,AW K H a xs/\AW K H b ys/\(xs.length<=i\/ys.length<=i)⟩
theorem rB{o:Addr}(Z:Hr h z u o i1 i2 t1 t2 n)(k:∀b∈[z,u,o,i1,i2],∀q,h.get? b=some q->h'.get? b=some q):Hr h' z u o i1 i2 t1 t2 n:=by
 obtain⟨zz,uu,⟨a,b,oo⟩,a1,a2⟩:=Z
 exact⟨k z (by simp) _ zz,k u (by simp) _ uu,⟨a,b,k o (by simp) _ oo⟩,BW a1 λq e=>k i1 (by simp) q e,BW a2 λq e=>k i2 (by simp) q e⟩
variable{K:aah}{elts:List Expr}
theorem tY{x1:_}(a b z u o i1 i2:Addr)(D:JL z u o i1 i2)(Hk:a≠o)(Iq:b≠o):
  Turn P w K (.Tuple elts x1 pos) (Rj K a b) [z,u,o,i1,i2] z (λn h=>Hr h z u o i1 i2 a b n) where
 mem:=by simp
 obj:=λn h Z c hc=>by
  obtain⟨zz,uu,⟨p,q,oo⟩,⟨o1,e1,c1,d1⟩,⟨o2,e2,c2,d2⟩⟩:=Z
  simp only[aa5,aaQ,or_false]at hc
  rcases hc with rfl|rfl|rfl|rfl|rfl
  ·exact⟨_,zz,λv e=>(by cases (show Data.fields _=afQ v from e))⟩
  ·exact⟨_,uu,λv e=>(by cases (show Data.seq _ _=afQ v from e))⟩
  ·exact⟨_,oo,λv e=>(by cases (show Data.seq _ _=afQ v from e))⟩
  ·exact⟨_,e1,λv e=>(by rw[d1]at e;cases e)⟩
  ·exact⟨_,e2,λv e=>(by rw[d2]at e;cases e)⟩
 keep:=λn h h' Z k=>rB Z k
 item:=by
  intro X hP hw hK hc n pins s σ H E I hf Z hg
  subst hP hw hK
  obtain⟨xs,ys,x,y,hx,hy,ex,ey⟩:=hg
  obtain⟨Nl,Ox,p1,Ma⟩:=I.tuple hx
  obtain⟨Nk,IL,p2,Nt⟩:=I.tuple hy
  obtain⟨v1,e1,r1⟩:=Ox.get ex
  obtain⟨v2,e2,r2⟩:=IL.get ey
  have EG:H s.heap.objs.size=none:=I.zY.fresh (aak _)
  refine rC D Z Hk Iq (show s.heap.IsTuple a Nl.toArray from p1) (show s.heap.IsTuple b Nk.toArray from p2) (x:=v1) (y:=v2) (by simpa using e1) (by simpa using e2) λh' q1 q2 q3 q4 q5 q6 q7 kk=>?_
  refine⟨_,rfl,wpAny_letOwnedTupleGo_zip (s:={s with heap:=h'}) q1 λh2 w1 w2=>?_⟩
  have old:∀c∈[z,u,o,i1,i2],c<s.heap.objs.size:=λc hc=>by
   obtain⟨zz,uu,⟨p,q,oo⟩,⟨o1,e1,c1,d1⟩,⟨o2,e2,c2,d2⟩⟩:=Z
   simp only[aa5,aaQ,or_false]at hc
   rcases hc with rfl|rfl|rfl|rfl|rfl
   ·exact aaj zz
   ·exact aaj uu
   ·exact aaj oo
   ·exact aaj e1
   ·exact aaj e2
  have VA:s.heap.objs.size≠z:=abZ (old z (by simp))
  have I1:Inv X pins σ (upd H s.heap.objs.size (.tup [x,y])) {s with heap:=s.heap.push {cls:=.type "tuple",data:=.seq #[v1,v2]}} :=
   I.laid (t':=s.toks) (λb u e=>aac _ e) (aak _) ⟨by show 2<=sizeLine;decide,[v1,v2],.cons r1 (.cons r2 .nil),⟨_,aai _ rfl,rfl,_,rfl⟩⟩
  have Lx:∀c∈[z,u,o,i1,i2],CV X pins (upd H s.heap.objs.size (.tup [x,y])) c:=λc hc=>⟨by rw[ak (aaq (old c hc))];exact(hf c hc).1,(hf c hc).2⟩
  have I2:Inv X pins σ (upd H s.heap.objs.size (.tup [x,y])) {s with heap:=h2}:=by
   refine I1.DJ (t':=s.toks) (h':=h2) (λc q hc e=>?_) Lx
   have ON:c≠z:=λe=>hc (by simp[e])
   refine w2.extBut _ _ ON ?_
   by_cases IW:c=s.heap.objs.size
   ·subst IW
    have:(s.heap.push {cls:=.type "tuple",data:=.seq #[v1,v2]}).get? s.heap.objs.size=some {cls:=.type "tuple",data:=.seq #[v1,v2]}:=aai _ rfl
    have e':some {cls:=.type "tuple",data:=.seq #[v1,v2]}=some q:=this.symm.trans e
    rw[<- e'];exact q6
   ·refine kk c q (λz=>hc ?_) ?_
    ·simp only[aa5,aaQ,or_false]at z ⊢
     rcases z with z|z|z|z
     ·exact .inl z
     ·exact .inr (.inr (.inl z))
     ·exact .inr (.inr (.inr (.inl z)))
     ·exact .inr (.inr (.inr (.inr z)))
    ·exact(Heap.get?_push_ne _ _ _ IW).symm.trans e
  refine⟨.ref s.heap.objs.size,_,I2,rfl,⟨_,x,y,rfl,EG,rfl,λVr ys' g1 g2=>?_⟩,?_,λc hc=>(Lx c hc).1⟩
  ·rw[I.BR g1 hx,I.BR g2 hy]
   exact⟨ex,ey⟩
  ·exact⟨w1,w2.extBut _ _ D.uz q2,⟨_,_,w2.extBut _ _ D.oz q3⟩,BW q4 λq e=>w2.extBut _ _ D.x1z e,BW q5 λq e=>w2.extBut _ _ D.x2z e⟩
 done:=by
  intro X hP hw hK hc n pins s σ H E I hf Z hg
  subst hP hw hK
  obtain⟨xs,ys,hx,hy,hl⟩:=hg
  obtain⟨Nl,Ox,p1,Ma⟩:=I.tuple hx
  obtain⟨Nk,IL,p2,Nt⟩:=I.tuple hy
  have l1:=Ox.length
  have l2:=IL.length
  refine tU (I.ok.hd hc) D Z Hk Iq (show s.heap.IsTuple a Nl.toArray from p1) (show s.heap.IsTuple b Nk.toArray from p2) ?_ λh' kk=>⟨rfl,I.DJ (t':=s.toks) (λc q hc e=>kk c q (λz=>hc ?_) e) hf⟩
  ·rcases hl with h|h
   ·exact .inl (by simp;omega)
   ·exact .inr (by simp;omega)
  ·simp only[aa5,aaQ,or_false]at z ⊢
   rcases z with z|z|z|z
   ·exact .inl z
   ·exact .inr (.inr (.inl z))
   ·exact .inr (.inr (.inr (.inl z)))
   ·exact .inr (.inr (.inr (.inr z)))
 self:=λ_ _ _ _ _ Z h=>wpAny_pyIter_zip Z.zz h
theorem Q4(n:Nat):JL (n+4) (n+2) (n+3) n (n+1) :=
 ⟨show ¬ ((n+2:Nat)=n+4)by omega,show ¬ ((n+3:Nat)=n+4)by omega,show ¬ ((n:Nat)=n+4)by omega,show ¬ ((n+1:Nat)=n+4)by omega,show ¬ ((n+2:Nat)=n+3)by omega,show ¬ ((n+2:Nat)=n)by omega,show ¬ ((n+2:Nat)=n+1)by omega,show ¬ ((n+3:Nat)=n)by omega,show ¬ ((n+3:Nat)=n+1)by omega,show ¬ ((n:Nat)=n+1)by omega⟩
def Qf(K:aah)(ta:TA):TI:=λσ H R=>ta σ H λvs H1=>∃a b,vs=[.ref a,.ref b]/\(∃xs,AW K H1 a xs)/\(∃ys,AW K H1 b ys)/\R (Rj K a b) H1
variable{ta:TA}{p:Pos}
theorem yf{x1:_}{ER:Pos}{a b:Expr}(hg:Gl X "zip")(hm:X.mg "zip" = none)(ha:PA X [a,b] ta)(hs:aam [a,b] X.env=[(false,eval a X.env),(false,eval b X.env)]:=by rfl)(Hy:aam [b] X.env=[(false,eval b X.env)]:=by rfl):
  PI X (.Tuple elts x1 ER) (.Call (.Name "zip" p) [a,b] [] pos) (Qf X.K ta):=by
 intro pins s σ H R I h
 refine Call_ (gq I hg hm boot_zip (adw (Aw (ha pos pins s σ H _ I h) λus s1 ⟨vs,H1,I1,r1,q1⟩=>?_) (by rw[hs,Hy]) (by rw[Hy];rfl)))
 obtain⟨c,d,e,⟨xs,hx⟩,⟨ys,hy⟩,q⟩:=q1
 subst e
 cases r1 with
 |cons ra rr=>
  cases rr with
  |cons rb rr=>
   cases rr
   cases ra
   cases rb
   obtain⟨Nl,Ox,p1,Ma⟩:=I1.tuple hx
   obtain⟨Nk,IL,p2,Nt⟩:=I1.tuple hy
   have g1:s1.heap.IsTuple c Nl.toArray:=p1
   have g2:s1.heap.IsTuple d Nk.toArray:=p2
   have lc:c<s1.heap.objs.size:=by obtain⟨o,e,_⟩:=g1;exact aaj e
   have ld:d<s1.heap.objs.size:=by obtain⟨o,e,_⟩:=g2;exact aaj e
   refine xM g1 g2 λh' Z sz kk=>?_
   have I2:Inv X pins σ H1 {s1 with heap:=h'}:=I1.kept (t':=s1.toks) kk
   refine wpAny_pyIter_zip Z.zz ⟨_,_,_,_,H1,rfl,I2,tY c d _ _ _ _ _ (Q4 s1.heap.objs.size) (aaq (aaG lc (aed _ _))) (aaq (aaG ld (aed _ _))),Z,λb' hb=>?_,q⟩
   have IU:s1.heap.objs.size<=b':=by
    simp only[aa5,aaQ,or_false]at hb
    rcases hb with rfl|rfl|rfl|rfl|rfl
    all_goals first|exact aak _|exact aed _ _
   exact I1.GA IU (I1.zY.fresh IU)
theorem jF{sl:Addr}{iD:Array Value}{vl vu:Value}{lo hi:Option Int}(g:IsTup s.heap t iD)(hs:s.heap.IsSliceOf sl vl vu .none)(pl:IsPart vl lo)(pu:IsPart vu hi)
  (hw:HT.AL iD.size 0 lo=0/\HT.AL iD.size iD.size hi=iD.size) (k:Q (.ref t) s):wpAny (model prog w) A (ado (.ref t) (.ref sl)) Q E s:=by
 obtain⟨q,q1,q2,q3⟩:=id hs
 have ty:s.TypeIs (.ref sl) "slice" := ⟨q,q1,q2⟩
 unfold ado
 try with_reducible refine aaN ?_
 first|refine aaa (aaf ?_)|skip
 refine aaa (adO g.typeIs (by decide) (aaa (abk (name:=aax "__getitem__") g.typeIs abu (aaW abu g.typeIs aeQ ?_ (aeX _ _)))))
 refine aaa (m:=adF (.ref t)) (tupleItemsOf_ g (aaa (acX ty ?_)))
 rw[if_pos (by decide)]
 refine aaa (HT.BU hs pl pu ?_)
 show wpAny _ _ (if (((HT.AL iD.size 0 lo:Nat):Int)==0 && (1:Int)==1 && (HT.AL iD.size iD.size hi - HT.AL iD.size 0 lo)==iD.size)=true then _ else _) _ _ s
 rw[if_pos (by rw[hw.1,hw.2];simp)]
 refine aaa ?_
 unfold Builtin.Tuple.tupleIsExact
 refine aaa (acX g.typeIs (aaf ?_))
 rw[if_pos (by decide)]
 exact aaa (acY (aaf ⟨_,rfl,aaf k⟩))
def PH(K:aah):V->Option Int->Option Int->Hp->VK->Prop:=λx lo hi H Q=>∃a xs,x=.ref a/\AW K H a xs /\
 (HT.AL xs.length 0 lo=0/\HT.AL xs.length xs.length hi=xs.length->Q (.ref a) H)/\∀p,H p=none->Q (.ref p) (upd H p (.tup (Dm xs lo hi)))
theorem wm:JI X (PH X.K):=by
 intro pins s σ H x v vl vu lo hi sl Q I rx hs pl pu h
 obtain⟨a,xs,rfl,hx,hq,q⟩:=h
 by_cases hw:HT.AL xs.length 0 lo=0/\HT.AL xs.length xs.length hi=xs.length
 ·cases rx
  obtain⟨iD,r,ht,hz⟩:=I.tuple hx
  have hn:iD.toArray.size=xs.length:=by rw[aag];exact r.length.symm
  refine⟨"tuple",_,PyProof.Rows.slot_tuple_getitem.lookup,ht.typeIs,jF ht hs pl pu (by rw[hn];exact hw) ⟨.ref a,H,I,rfl,hq hw⟩⟩
 ·exact x4 pins s σ H (.ref a) v vl vu lo hi sl Q I rx hs pl pu ⟨a,xs,rfl,hx,hw,q⟩
theorem kU(hc:wpAny (model prog w) A.in1 (collect x) (λvs s1=>∃(ss:List Str) (h1:Heap) (tk:Nat),s1={s with heap:=h1,toks:=tk}/\acg vs ss/\vs.length<64 /\
   (∀(h2:Heap) (out:List Value) (Cr:List Str) (n:Nat),(∀b o,h1.get? b=some o->h2.get? b=some o)->h2.get? h1.objs.size=some (seqObj "list" out.toArray n)->acg out Cr->Cr.Perm ss->sortedS Cr=true->Q (.ref h1.objs.size) {s with heap:=h2,toks:=tk})) E s) :
  wpAny (model prog w) A (call (.builtin "sorted") [x]) Q E s:=by
 refine acS aeN ael aeo (afm _) ?_
 unfold ace.«sorted»
 refine aaa (m:=ae9 "sorted" 1 1 _) (aaf (aaa (aaL hc (λvs s1 hv=>?_) λ_ _ e=>e)))
 obtain⟨ss,h1,tk,rfl,hS,Ck,k⟩:=hv
 refine aaa (aco ?_ (by rw[aaz];omega))
 have JH:(h1.push (seqObj "list" vs.toArray 0)).get? h1.objs.size=some (seqObj "list" vs.toArray 0):=aai _ rfl
 refine aaa (aaN (aaW adi ⟨_,JH,rfl⟩ ac6 (list_sort_treeK strKind_oneLt JH hS.keysOf (λv₁ v₂ rest e=>keyKind_strs (by rw[<- e];exact hS)) Ck λst p q=>⟨_,rfl,?_⟩) (adL _)))
 obtain⟨Cr,b1,b2,b3⟩:=sorted_out_str hS p q
 obtain⟨n,at2⟩:=sortedHeap_at (out:=(arrOf st).map (·.2)) JH
 refine aaf ⟨_,rfl,k _ ((arrOf st).map (·.2)).toList Cr n (λb o e=>?_) (by rw[aeD];exact at2) b1 b2 b3⟩
 have lt:=aaj e
 rw[sortedHeap_old (aaq lt) (by rw[size_push'];exact abi lt)]
 exact aac _ e
theorem kA:∀{kvs:List (Key×Value)} {ss:List Str} {vs:List Value},kvs.map (·.1)=ss.map aao->vs.length=kvs.length->(∀(j:Nat) (v:Value),vs[j]?=some v->∃k x,kvs[j]?=some (k,x)/\(aN P w).is k v=true)->acg vs ss
 |[],ss,vs,e,hl,_=>by
  have:ss=[]:=by cases ss with|nil=>rfl|cons _ _=>cases e
  subst this
  have:vs=[]:=List.length_eq_zero_iff.mp hl
  subst this
  exact .nil
 |(k,x)::r,ss,vs,e,hl,h=>by
  cases ss with
  |nil=>cases e
  |cons y ys=>
   cases vs with
   |nil=>cases hl
   |cons v us=>
    rw[aap,aap]at e
    injection e with e1 e2
    obtain⟨k',x',e3,e4⟩:=h 0 v rfl
    have UO:(k,x)=(k',x'):=aau e3
    cases UO
    have NU:k=aao y:=e1
    subst NU
    obtain⟨t,rfl⟩:=aeR (x:=y) (v:=v) e4
    exact .cons y t (kA e2 (by simpa using hl) λj u hj=>h (j+1) u hj)
def K8:List V->Hp->VK->Prop:=λxs H Q=>∃(d:Addr) (kvs:List (Key×V)) (ss:List Str),xs=[.ref d]/\H d=some (.dK kvs)/\kvs.map (·.1)=ss.map aao/\ss.length<64 /\
 ∀(l:Addr) (Cr:List Str),H l=none->Cr.Perm ss->Cr.Pairwise (λa b=>¬ Ai b a)->Q (.ref l) (upd H l (.lst (Cr.map V.str)))
theorem rj(hc:X.calm=true):zZ X (.builtin "sorted") K8:=by
 intro pins s σ H xs us Q I r h
 obtain⟨d,kvs,ss,rfl,hd,hk,Ck,k⟩:=h
 obtain⟨u,rfl,ru⟩:=r.one
 cases ru
 obtain⟨hz,lo,vs,Qy,hD⟩:=I.zY d _ hd
 obtain⟨ep,QN⟩:=hD.dictAt
 have FD:vs.map (·.1)=ss.map aao:=by rw[<- hk];exact Qy.keys.symm
 have hlen:vs.length=ss.length:=by have:=congrArg acb FD;simpa using this
 refine kU (PySem.W.kdu_collect (A:=X.A.in1) (PySem.W.kdl_dict (knd:=aN X.prog X.w) (kvs:=vs) (ep:=ep) lo) (I.ok.hd hc) QN (by rw[hlen,aaz];omega) λh1 tk acc kk hit=>?_)
 have hl:acc.toList.length=vs.length:=by rw[aav];exact hit.1
 have hS:acg acc.toList ss:=kA FD hl λj v e=>hit.2 j v (by rw[<- abb];exact e)
 refine⟨ss,h1,tk,rfl,hS,by rw[hl,hlen];exact Ck,λh2 out Cr n k2 e2 o1 o2 o3=>?_⟩
 have I1:Inv X pins σ H {s with heap:=h1,toks:=tk}:=I.kept kk
 refine⟨.ref h1.objs.size,_,I1.laid (t':=tk) (a:=h1.objs.size) (o:=.lst (Cr.map V.str)) (λb o q=>k2 b o q) (aak _) ?_,rfl,k _ Cr (I1.zY.fresh (aak _)) o2 (dy o3)⟩
 exact⟨by rw[aad,o2.length_eq,aaz];omega,out,n,cH o1,e2⟩
def KL(P:aaI)(w:World)(a:Addr)(S:Str->Bool)(n:Nat):HO:=.ext λh=>h.SetOf (PySem.strKind P w) a S n
theorem sr:AK X (aaV .NotIn) (λx y H Q=>∃z a S n,x=.str z/\y=.ref a/\H a=some (KL X.prog X.w a S n)/\Q (.bl (!S z)) H):=by
 intro pins s σ H x y v u Q I rx ry h
 obtain⟨z,a,S,n,rfl,rfl,ha,q⟩:=h
 obtain⟨t,rfl⟩:=rx
 cases ry
 obtain⟨x,_,_⟩:=I.zY a _ ha
 exact wpAny_notInSet_of (knd:=PySem.strKind X.prog X.w) (ae7 _ _ _ _) rfl x ⟨.bl (!S z),H,I.tok _,rfl,q⟩
def strAt(us:Array Value)(i:Nat):Str:=match us[i]? with|some (.str x _)=>x|_=>⟨#[]⟩
theorem xJ{us:Array Value}(hn:∀v∈us,∃x t,v=.str x t):CmpOf prog w A .Lt (λi v=>us[i]?=some v) (λi j=>decide (Ai (strAt us i) (strAt us j))):=λi j vi vj s Q E hi hj q=>by
 obtain⟨x,t,rfl⟩:=hn vi (adn hi)
 obtain⟨y,t',rfl⟩:=hn vj (adn hj)
 have e1:strAt us i=x:=by unfold strAt;rw[hi]
 have e2:strAt us j=y:=by unfold strAt;rw[hj]
 dsimp only at q
 rw[e1,e2]at q
 exact PySem.richCompare_gives (op:=.Lt) (ads s x t) (ads s y t') F.slot_str_lt F.entry_str_lt (F.args_str_lt_2 _ _) (gives_str_lt x y t t') (λe=>nomatch e) q
theorem xK{us:Array Value}(hn:∀v∈us,∃x t,v=.str x t):CmpOf prog w A .Gt (λi v=>us[i]?=some v) (λi j=>decide (Ai (strAt us j) (strAt us i))):=λi j vi vj s Q E hi hj q=>by
 obtain⟨x,t,rfl⟩:=hn vi (adn hi)
 obtain⟨y,t',rfl⟩:=hn vj (adn hj)
 have e1:strAt us i=x:=by unfold strAt;rw[hi]
 have e2:strAt us j=y:=by unfold strAt;rw[hj]
 dsimp only at q
 rw[e1,e2]at q
 exact PySem.richCompare_gives (op:=.Gt) (ads s x t) (ads s y t') F.slot_str_gt F.entry_str_gt (F.args_str_gt_2 _ _) (gives_str_gt x y t t') (λe=>nomatch e) q
theorem Mu{x:Str}{t t':Tok}:∀v∈(#[.str x t,.str y t']:Array Value),∃z u,v=.str z u:=λv hv=>by
 simp only[List.mem_toArray,aa5,aaQ,or_false]at hv
 rcases hv with rfl|rfl
 ·exact⟨x,t,rfl⟩
 ·exact⟨y,t',rfl⟩
theorem uM{x:Str}{t t':Tok}(hh:A.handled=none)(k:∀h' tk,(∀c o,s.heap.get? c=some o->h'.get? c=some o)->Q (if Ai y x then .str y t' else .str x t) {s with heap:=h',toks:=tk}):
  wpAny (model prog w) A (call (.builtin "min") [.str x t,.str y t']) Q E s:=by
 have g:(s.heap.push {cls:=.type "tuple",data:=.seq #[.str x t,.str y t']}).IsTuple s.heap.objs.size #[.str x t,.str y t']:=⟨_,aai _ rfl,rfl,0,rfl⟩
 have sz:(s.heap.push {cls:=.type "tuple",data:=.seq #[.str x t,.str y t']}).objs.size=s.heap.objs.size+1:=aa3 ..
 refine call_min_two (ac1 g ⟨_,[_,s.heap.objs.size],[_],_,_,_,_,rfl,Walks.tuple (A:=A.in1) hh _ s.heap.objs.size (by rw[sz];exact aaq (abF _)) #[.str x t,.str y t'],
  ⟨⟨_,aai _ rfl,rfl,rfl⟩,g.push _⟩,λc hc=>?_,by simp,xJ Mu,λv h' tk hP hk=>?_⟩)
 ·show c<((s.heap.push _).push _).objs.size
  rw[aa3,sz]
  simp only[aa5,aaQ,or_false]at hc
  rcases hc with rfl|rfl
  ·rw[sz];exact abF _
  ·exact abi (abF _)
 ·have old:∀c o,s.heap.get? c=some o->h'.get? c=some o:=λc o e=>by
   refine hk c o (λz=>?_) (aac _ (aac _ e))
   have lt:=aaj e
   rw[List.mem_singleton.mp z,sz]at lt
   exact abl _ (Nat.lt_of_succ_lt lt)
  have q:=k h' tk old
  have ev:v=if Ai y x then ab9 y t' else ab9 x t:=by
   by_cases c:Ai y x
   ·simp[argBest,strAt,c]at hP
    rw[if_pos c];exact hP.symm
   ·simp[argBest,strAt,c]at hP
    rw[if_neg c];exact hP.symm
  rw[ev];exact q
theorem uO{x:Str}{t t':Tok}(hh:A.handled=none)(k:∀h' tk,(∀c o,s.heap.get? c=some o->h'.get? c=some o)->Q (if Ai x y then .str y t' else .str x t) {s with heap:=h',toks:=tk}):
  wpAny (model prog w) A (call (.builtin "max") [.str x t,.str y t']) Q E s:=by
 have g:(s.heap.push {cls:=.type "tuple",data:=.seq #[.str x t,.str y t']}).IsTuple s.heap.objs.size #[.str x t,.str y t']:=⟨_,aai _ rfl,rfl,0,rfl⟩
 have sz:(s.heap.push {cls:=.type "tuple",data:=.seq #[.str x t,.str y t']}).objs.size=s.heap.objs.size+1:=aa3 ..
 refine call_max_two (ac1 g ⟨_,[_,s.heap.objs.size],[_],_,_,_,_,rfl,Walks.tuple (A:=A.in1) hh _ s.heap.objs.size (by rw[sz];exact aaq (abF _)) #[.str x t,.str y t'],
  ⟨⟨_,aai _ rfl,rfl,rfl⟩,g.push _⟩,λc hc=>?_,by simp,xK Mu,λv h' tk hP hk=>?_⟩)
 ·show c<((s.heap.push _).push _).objs.size
  rw[aa3,sz]
  simp only[aa5,aaQ,or_false]at hc
  rcases hc with rfl|rfl
  ·rw[sz];exact abF _
  ·exact abi (abF _)
 ·have old:∀c o,s.heap.get? c=some o->h'.get? c=some o:=λc o e=>by
   refine hk c o (λz=>?_) (aac _ (aac _ e))
   have lt:=aaj e
   rw[List.mem_singleton.mp z,sz]at lt
   exact abl _ (Nat.lt_of_succ_lt lt)
  have q:=k h' tk old
  have ev:v=if Ai x y then ab9 y t' else ab9 x t:=by
   by_cases c:Ai x y
   ·simp[argBest,strAt,c]at hP
    rw[if_pos c];exact hP.symm
   ·simp[argBest,strAt,c]at hP
    rw[if_neg c];exact hP.symm
  rw[ev];exact q
def Cf(x y:Str):Str:=if Ai y x then y else x
def Cg(x y:Str):Str:=if Ai x y then y else x
theorem rn(hc:X.calm=true):zZ X (.builtin "min") (λxs H Q=>∃x y,xs=[.str x,.str y]/\Q (.str (Cf x y)) H):=by
 intro pins s σ H xs us Q I r h
 obtain⟨x,y,rfl,q⟩:=h
 obtain⟨u,v,rfl,⟨t,rfl⟩,⟨t',rfl⟩⟩:=vals2 r
 refine uM (I.ok.hd hc) λh' tk k=>⟨.str (Cf x y),H,I.kept k,?_,q⟩
 unfold Cf
 split<;>exact⟨_,rfl⟩
theorem rq(hc:X.calm=true):zZ X (.builtin "max") (λxs H Q=>∃x y,xs=[.str x,.str y]/\Q (.str (Cg x y)) H):=by
 intro pins s σ H xs us Q I r h
 obtain⟨x,y,rfl,q⟩:=h
 obtain⟨u,v,rfl,⟨t,rfl⟩,⟨t',rfl⟩⟩:=vals2 r
 refine uO (I.ok.hd hc) λh' tk k=>⟨.str (Cg x y),H,I.kept k,?_,q⟩
 unfold Cg
 split<;>exact⟨_,rfl⟩
def OX(x:Str):It:=⟨λi _=>i<x.cps.size,λi H v H'=>H'=H/\∃c,x.cps[i]?=some c/\v=.str ⟨#[c]⟩,λi _=>x.cps.size<=i⟩
theorem gM(x:Str):ad2 x = "str_ascii_iterator" \/ ad2 x = "str_iterator" :=by
 unfold ad2
 split
 ·exact .inl rfl
 ·exact .inr rfl
theorem tZ(x:Str)(t:Tok)(it:Addr):Turn P w K tg (OX x) [it] it (λi h=>h.IsStrIter it (ad2 x) x t i) where
 mem:=by simp
 obj:=λi h st b hb=>by
  have e:b=it:=by simpa using hb
  subst e
  obtain⟨o,e,c,d⟩:=st
  exact⟨o,e,λv z=>by rw[d]at z;cases z⟩
 keep:=λi h h' st k=>by
  obtain⟨o,e,r⟩:=st
  exact⟨o,k it (by simp) o e,r⟩
 item:=by
  intro X hP hw hK hc i pins s σ H E I hf st hg
  subst hP hw hK
  have J8:i<x.cps.size:=hg
  have hx:x.cps[i]?=some x.cps[i]:=by simp[J8]
  obtain⟨f0,f1,f2,f3,f4,f5⟩:=hf it (by simp)
  have fin:∀h',h'.IsStrIter it (ad2 x) x t (i+1)->acn it s.heap h'->∃u,some (ab9 ⟨#[x.cps[i]]⟩ s.toks)=some u /\
    wpAny (model X.prog X.w) X.A (aen tg (.ref it) u) (λ_ s2=>∃y H',Inv X pins σ H' s2/\RelV y u/\(OX x).yld i H y H'/\s2.heap.IsStrIter it (ad2 x) x t (i+1)/\∀b∈[it],H' b=none) E {s with heap:=h',toks:=s.toks+1}:=λh' CW sb=>by
   have I1:Inv X pins σ H {s with heap:=h',toks:=s.toks+1}:=I.turned (λb o hb e=>(sb.2 b hb).trans e) f0 f1 f3 f4 f5
   obtain⟨o,e,c,d⟩:=id CW
   refine⟨_,rfl,nR (s:={s with heap:=h',toks:=s.toks+1}) e c d (by rcases gM x with z|z<;>rw[z]<;>decide) ⟨.str ⟨#[x.cps[i]]⟩,H,I1,⟨_,rfl⟩,⟨rfl,_,hx,rfl⟩,CW,λb hb=>(hf b hb).1⟩⟩
  rcases gM x with z|z
  ·rw[z]at st fin
   exact wpAny_pyNext_ascii_item st hx λh' CW sb=>by have:=fin h' CW sb;rw[z];exact this
  ·rw[z]at st fin
   exact wpAny_pyNext_wide_item st hx λh' CW sb=>by have:=fin h' CW sb;rw[z];exact this
 done:=by
  intro X hP hw hK hc i pins s σ H E I hf st hg
  subst hP hw hK
  have J8:x.cps.size<=i:=hg
  have hx:x.cps[i]?=none:=by simp[J8]
  obtain⟨f0,f1,f2,f3,f4,f5⟩:=hf it (by simp)
  rcases gM x with z|z
  ·rw[z]at st
   exact wpAny_pyNext_ascii_end (I.ok.hd hc) st hx λh' eb=>⟨rfl,I.turned (t':=s.toks) (λb o hb e=>eb b o hb e) f0 f1 f3 f4 f5⟩
  ·rw[z]at st
   exact wpAny_pyNext_wide_end (I.ok.hd hc) st hx λh' eb=>⟨rfl,I.turned (t':=s.toks) (λb o hb e=>eb b o hb e) f0 f1 f3 f4 f5⟩
 self:=λA i s Q E st h=>by
  obtain⟨o,e,c,d⟩:=st
  rcases gM x with z|z
  ·rw[z]at c
   exact adP (T := "str_ascii_iterator") ⟨o,e,c⟩ afr (aaW afr ⟨o,e,c⟩ F.entry_str_ascii_iterator_iter (aaf ⟨_,rfl, "str_ascii_iterator",_,⟨o,e,c⟩,F.slot_str_ascii_iterator_next.lookup,h⟩) (F.args_str_ascii_iterator_iter_1 _))
  ·rw[z]at c
   exact adP (T := "str_iterator") ⟨o,e,c⟩ F.slot_str_iterator_iter (aaW F.slot_str_iterator_iter ⟨o,e,c⟩ F.entry_str_iterator_iter (aaf ⟨_,rfl, "str_iterator",_,⟨o,e,c⟩,F.slot_str_iterator_next.lookup,h⟩) (F.args_str_iterator_iter_1 _))
def Qg(tl:TE):TI:=λσ H R=>tl σ H λx H1=>∃z,x=.str z/\R (OX z) H1
theorem yg{l:Expr}{tl:TE}(hl:PE X l tl):PI X tg l (Qg tl):=by
 intro pins s σ H R I h
 refine Aw (hl pins s σ H _ I h) λv s1 ⟨x,H1,I1,r1,q1⟩=>?_
 obtain⟨z,rfl,q⟩:=q1
 obtain⟨t,rfl⟩:=r1
 refine wpAny_pyIter_strU ⟨s1.heap.objs.size,[s1.heap.objs.size],_,_,H1,rfl,I1.kept (t':=s1.toks) λb o e=>aac _ e,tZ z t _,⟨_,aai _ rfl,rfl,rfl⟩,λb hb=>?_,q⟩
 have e:b=s1.heap.objs.size:=by simpa using hb
 subst e
 exact I1.GA (aak _) (I1.zY.fresh (aak _))
theorem sv:AK X (aaV .LtE) (λx y H Q=>∃i j,x=.str i/\y=.str j/\Q (.bl (!decide (j.cps.toList<i.cps.toList))) H):=by
 intro pins s σ H x y v u Q I rx ry h
 obtain⟨i,j,rfl,rfl,q⟩:=h
 obtain⟨t,rfl⟩:=rx
 obtain⟨t',rfl⟩:=ry
 exact PySem.P.le_str ⟨.bl _,H,I,rfl,q⟩
theorem yz:AK X (aaV .Is) (λx y H Q=>∃a b,x=.bl a/\y=.bl b/\Q (.bl (a==b)) H):=by
 intro pins s σ H x y v u Q I rx ry h
 obtain⟨a,b,rfl,rfl,q⟩:=h
 cases rx
 cases ry
 exact is_bool ⟨.bl _,H,I,rfl,q⟩
def J0(K:aah):R2:=λx y H Q=>∃a b xs ys,x=.ref a/\y=.ref b/\AW K H a xs/\AW K H b ys/\xs.length+ys.length<=sizeLine /\
 (xs=[]->Q (.ref b) H)/\(ys=[]->Q (.ref a) H)/\∀p,H p=none->Q (.ref p) (upd H p (.tup (xs++ys)))
theorem wT:AK X (acq .Add) (J0 X.K):=by
 intro pins s σ H x y v u Q I rx ry h
 obtain⟨a,b,xs,ys,rfl,rfl,ha,hb,hz,q0,q1,q2⟩:=h
 by_cases hx:xs=[]
 ·cases rx
  cases ry
  obtain⟨iD,r1,p1,_⟩:=I.tuple ha
  obtain⟨Bq,r2,p2,_⟩:=I.tuple hb
  subst hx
  cases r1
  obtain⟨⟨c1,d1,e1,l1⟩,g1,g2,n,g3⟩:=id p1
  obtain⟨⟨c2,d2,e2,l2⟩,k1,k2,n2,k3⟩:=id p2
  simp only at g2 g3 k2 k3
  subst g2 g3 k2 k3
  exact concat_meets ⟨_,g1,rfl⟩ ⟨_,k1,rfl⟩ afu seq_tuple_add aee ad8 (adS _ _)
   (tuple_addW0 a b _ _ n n2 d1 d2 l1 l2 (by simp)) ⟨g1,k1,⟨.ref b,H,I,rfl,q0 rfl⟩⟩
 ·exact wU pins s σ H (.ref a) (.ref b) v u Q I rx ry ⟨a,b,xs,ys,rfl,rfl,ha,hb,hx,hz,q1,λ_=>q2⟩
variable{α:Type}
theorem rT:∀(xs:List α),(aaM xs.length).filterMap (λ(k:Nat)=>xs[(((xs.length:Int) - 1)+(k:Int) * -1).toNat]?)=xs.reverse:=by
 intro xs
 have key:∀n,n<=xs.length->(aaM n).filterMap (λ(k:Nat)=>xs[(((xs.length:Int) - 1)+(k:Int) * -1).toNat]?)=(xs.drop (xs.length - n)).reverse:=λn=>by
  induction n with
  |zero=>intro _;simp
  |succ n ih=>
   intro hn
   rw[ady,List.filterMap_append,ih (by omega)]
   have e:(((xs.length:Int) - 1)+(n:Int) * -1).toNat=xs.length - (n+1):=by omega
   have AV:xs.length - (n+1)<xs.length:=by omega
   simp only[abm,List.filterMap_nil,e,aab AV]
   have d:xs.drop (xs.length - (n+1))=xs[xs.length - (n+1)]::xs.drop (xs.length - n):=by
    rw[acR AV]
    congr 2
    omega
   rw[d,acJ]
 have:=key xs.length (aak _)
 rw[this,Nat.sub_self,afZ]
theorem qP(n:Nat):abz ((n:Int) - 1) (-1) (-1)=n:=by
 unfold abz
 have h1:¬ ((-1:Int) > 0):=by omega
 rw[if_neg h1]
 by_cases h:((n:Int) - 1) > -1
 ·rw[if_pos h]
  have:((n:Int) - 1 - -1 - 1) / (- -1)+1=(n:Int):=by
   rw[show (- (-1:Int))=1 by rfl,Int.ediv_one];omega
  rw[this];omega
 ·rw[if_neg h];omega
theorem jE{sl:Addr}{tk:Tok}(g:IsTup s.heap t iD.toArray)(hs:s.heap.IsSliceOf sl .none .none (.int (-1) tk))
  (k:Q (.ref s.heap.objs.size) {s with heap:=s.heap.push {cls:=.type "tuple",data:=.seq iD.reverse.toArray}}) (hsz:iD.length<=sizeLine):wpAny (model prog w) A (ado (.ref t) (.ref sl)) Q E s:=by
 obtain⟨q,q1,q2,q3⟩:=id hs
 have ty:s.TypeIs (.ref sl) "slice" := ⟨q,q1,q2⟩
 unfold ado
 try with_reducible refine aaN ?_
 first|refine aaa (aaf ?_)|skip
 refine aaa (adO g.typeIs (by decide) (aaa (abk (name:=aax "__getitem__") g.typeIs abu (aaW abu g.typeIs aeQ ?_ (aeX _ _)))))
 refine aaa (m:=adF (.ref t)) (tupleItemsOf_ g (aaa (acX ty ?_)))
 rw[if_pos (by decide)]
 refine aaa (m:=acN (.ref sl) (pure (iD.toArray.size:Int))) ?_
 unfold acN af0
 refine aaa (aaa (abv q1 q3 (x:=.none) rfl (aaa (abv q1 q3 (x:=.none) rfl (aaa (abv q1 q3 (x:=.int (-1) tk) rfl (aaf ?_)))))))
 refine aaa (HT.Bv (.int (-1) tk) ?_)
 show wpAny _ _ (if ((-1:Int)==0)=true then _ else _) _ _ s
 rw[if_neg (by decide)]
 refine aaa (HT.Bv .none (aaa (HT.Bv .none (aaa (aaf ?_)))))
 show wpAny _ _ (pure (((iD.toArray.size:Int) - 1),(-1:Int),abz ((iD.toArray.size:Int) - 1) (-1) (-1))) _ _ s
 rw[qP]
 refine aaf ?_
 show wpAny _ _ (if (((iD.toArray.size:Int) - 1)==0 && (-1:Int)==1 && iD.toArray.size==iD.toArray.size)=true then _ else _) _ _ s
 rw[if_neg (by simp)]
 have e:(aaM iD.toArray.size).filterMap (λ(k:Nat)=>iD.toArray[(((iD.toArray.size:Int) - 1)+(k:Int) * -1).toNat]?)=iD.reverse:=by
  have:=rT iD
  simpa using this
 show wpAny _ _ (do let r <- abS ((aaM iD.toArray.size).filterMap (λ(k:Nat)=>iD.toArray[(((iD.toArray.size:Int) - 1)+(k:Int) * -1).toNat]?)).toArray;ret r) _ _ s
 rw[e]
 exact aaa (m:=abS _) (aa4 (aaf ⟨_,rfl,aaf k⟩) (by show iD.reverse.toArray.size<=sizeLine;simpa using hsz))
variable{e st:Expr}{JP:TE}{p2:Pos}
def Pr(K:aah)(te JP:TE):TE:=λσ H Q=>te σ H λx H1=>JP σ H1 λy H2=>y=.int (-1)/\∃a xs,x=.ref a/\AW K H2 a xs/\∀p,H2 p=none->Q (.ref p) (upd H2 p (.tup xs.reverse))
theorem ym(he:PE X e te)(Im:PE X st JP):PE X (.Subscript e (.Slice none none (some st) p2) pos) (Pr X.K te JP):=by
 intro pins s σ H Q I h
 refine afc (Aw (he pins s σ H _ I h) λv s1 ⟨x,H1,I1,r1,q1⟩=>?_)
 refine wpAny_Slice ?_
 rw[evalPart_none,evalPart_some]
 refine aaf (aaf (Aw (Im pins s1 σ H1 _ I1 q1) λvs s2 ⟨y,H2,I2,r2,q2⟩=>?_))
 obtain⟨rfl,a,xs,rfl,hx,q⟩:=q2
 obtain⟨tk,rfl⟩:=r2
 cases r1
 have I3:Inv X pins σ H2 {s2 with heap:=s2.heap.push {cls:=.type "slice",data:=.fields #[.none,.none,.int (-1) tk]}}:=I2.kept (t':=s2.toks) λb ob q=>aac _ q
 obtain⟨iD,r,ht,hz⟩:=I3.tuple hx
 show wpAny (model X.prog X.w) X.A (aeV e (.Slice none none (some st) p2) (.ref a) (.ref s2.heap.objs.size)) (EP X pins σ Q) X.xe {s2 with heap:=s2.heap.push {cls:=.type "slice",data:=.fields #[.none,.none,.int (-1) tk]}}
 refine tail_any (ops:=[.ref a,.ref s2.heap.objs.size]) ht.typeIs PyProof.Rows.slot_tuple_getitem.lookup (jE ht (Heap.IsSliceOf.new ..) ?_ (by rw[<- r.length];exact hz)) (by with_unfolding_all rfl)
 refine⟨.ref _,_,I3.laid (t':=s2.toks) (o:=.tup xs.reverse) (λb ob q=>aac _ q) (aak _) ?_,rfl,q _ (I3.zY.fresh (aak _))⟩
 refine⟨by rw[List.length_reverse];exact hz,iD.reverse,?_,afO _ _⟩
 exact r.reverse
end L2
namespace PySem
open Sem (wp)
theorem oN:typeLookup (.type "list") "keys" = pure none:=by rw[afD,aep];kernel_rfl
theorem mo{prog:aaI}{w:World}{A:Around}{E:Value->Shared->Prop}{s:Shared}{a:Addr}{xs:Array Value}{k:Nat}{sl:Array (Option Value)}{Q:Option Value->Shared->Prop}
  (hx:s.heap.get? a=some {cls:=.type "list",dict:=none,data:=.seq xs k,slots:=sl}) (hA:A.handled=none)
  (h:∀h' tk e,Heap.NewExcOf s.heap h' e "AttributeError" -> Q none {s with heap:=h',toks:=tk}) :
  wpAny (model prog w) A (getAttr? (.ref a) "keys") Q E s:=by
 obtain⟨hp,g,d,tk,os⟩:=s
 have hT:∀Hx,(⟨hp,g,d,Hx,os⟩:Shared).TypeIs (.ref a) "list" := λ_=>⟨_,hx,rfl⟩
 have f1:=sub_AttributeError
 have f3:=F.slot_list_getattribute.lookup
 have f4:=F.slot_list_getattribute.bind (.ref a)
 have f5:=am_list_getattr_none
 unfold getAttr? getAttrBy? getAttrBy
 repeat (any_goals (first|assumption|exact hT _|((with_reducible show wpAny _ _ (call (Value.builtin "list.__getattribute__") _ _) _ _ _);refine afa F.slot_list_getattribute (hT _) am_entry_list_getattribute (F.args_list_getattribute_2 _ _) (meets_getattribute_miss_list a xs k sl "keys" _ oN (by decide +kernel) (by size_fits)) ⟨hx,hA,λh' Hx e Js=>?_⟩)|wp_step))
 obtain⟨t',u',he⟩:=Js.there
 show wpAny _ _ (getattributeRaised _ _ _ _ _ _ _) _ _ _
 unfold getattributeRaised
 have Uy:∀Hx,(⟨h',g,d,Hx,os⟩:Shared).TypeIs (.ref e) "AttributeError" := λ_=>⟨_,he,rfl⟩
 repeat (any_goals (first|assumption|exact Uy _|wp_step))
 exact h _ _ _ Js.of
end PySem
namespace PySem
open PySem.Spec PyProof.Rows
theorem F.Cd:entryFor table "dict.update.loop" = some ace.«dict.update.loop»:=entryFor_of_tree (by kernel_rfl)
theorem F.AO:plainId "dict.update.loop" = true:=by decide +kernel
section
variable{prog:aaI}{w:World}{K:Type}[DecidableEq K]{knd:KeyKind prog w K}{A:Around}{R:Result->Shared->Prop}
theorem fJ{h h':Heap}{d:Addr}{kvs:List (K×Value)}(x:h.DictOf knd d kvs)(k:∀o,h.get? d=some o->h'.get? d=some o):h'.DictOf knd d kvs:=by
 obtain⟨o,es,ep,ho,r⟩:=x
 exact⟨o,es,ep,k _ ho,r⟩
theorem mL{d it l:Addr}{items:Array Value}(ks:Nat->K)(vs:Nat->Value)(hsz:items.size<=1000)(QI:d≠it)(Uu:d≠l)(NG:l≠it)(hA:A.in1.handled=none):
  ∀(k i:Nat) (s:Shared) (kvs:List (K×Value)),items.size - i=k->i<=items.size->kvs.length<=i->s.heap.DictOf knd d kvs->s.heap.IsListIter it l i->s.heap.IsList l items ->
  (∀j,j<items.size->∃p key,items[j]?=some (.ref p)/\p≠d/\p≠it/\s.heap.IsTuple p #[key,vs j]/\knd.is (ks j) key=true) ->
  (∀h' tk,h'.DictOf knd d ((List.range' i k).foldl (λkvs j=>stored kvs (ks j) (vs j)) kvs)->(∀b o,b≠d->b≠it->s.heap.get? b=some o->h'.get? b=some o)->R (.ok (.ret .none)) {s with heap:=h',toks:=tk}) ->
  ad5 (model prog w) A (.builtin "dict.update.loop" ⟨[.ref d,.ref it,rawInt i,.none],[]⟩) R s:=by
 intro k
 induction k with
 |zero=>
  intro i s kvs hk hi hlen hD hI hL hP hR
  refine acf F.Cd ?_
  rw[abX F.AO _]
  show wpAny _ A.in1 (pyNext (.ref it) >>= _) _ _ s
  refine aaa (wpAny_pyNext_list_end hA hI hL (by rw[aei];omega) λh' kk=>?_)
  show wpAny _ A.in1 (Builtin.Dict.addKeywords d [] >>= _) _ _ _
  refine aaa (m:=Builtin.Dict.addKeywords d []) (aaf (aaf (hR h' s.toks (fJ hD λo e=>kk _ _ QI e) λb o h1 h2 e=>kk _ _ h2 e)))
 |succ k ih=>
  intro i s kvs hk hi hlen hD hI hL hP hR
  have AV:i<items.size:=by omega
  obtain⟨p,key,ep,pd,pt,hp,FE⟩:=hP i AV
  refine acf F.Cd ?_
  rw[abX F.AO _]
  show wpAny _ A.in1 (pyNext (.ref it) >>= _) _ _ s
  refine aaa (wpAny_pyNext_list_item hI hL ep λh1 I1 k1=>?_)
  have e1:∀b o,b≠it->s.heap.get? b=some o->h1.get? b=some o:=λb o h e=>k1.extBut _ _ h e
  have OJ:h1.IsTuple p #[key,vs i]:=by
   obtain⟨o,e,r⟩:=hp
   exact⟨o,e1 _ _ pt e,r⟩
  refine aaa (aaN ?_)
  refine aaa (wpAny_tryCatch ?_)
  obtain⟨op,RL,Td,Vv,Tc⟩:=id OJ
  unfold Builtin.Dict.pairItems
  refine aaa (acX (T := "tuple") ⟨op,RL,Td⟩ ?_)
  rw[if_pos (show ((abD "tuple" == abD "list") || (abD "tuple" == abD "tuple"))=true by decide)]
  refine aaa (abL RL Tc (aaf ?_))
  show wpAny _ A.in1 (ad3 [key,vs i] (dictSet d key (vs i))) _ _ _
  have UG:h1.DictOf knd d kvs:=fJ hD λo e=>e1 _ _ QI e
  refine aaN (wpAny_dictSet_pairs FE UG (λh2 D2 k2=>?_) (by rw[aaz];omega))
  have e2:∀b o,b≠d->b≠it->s.heap.get? b=some o->h2.get? b=some o:=λb o h h' e=>k2.extBut _ _ h (e1 _ _ h' e)
  refine aaf ⟨ac3 F.AO _,ih (i+1) _ _ (by omega) AV ?_ D2 ?_ ?_ ?_ ?_⟩
  ·exact aa2 (stored_length_le kvs (ks i) (vs i)) (by omega)
  ·obtain⟨o,e,r⟩:=I1
   exact⟨o,k2.extBut _ _ QI.symm e,r⟩
  ·obtain⟨o,e,r⟩:=hL
   exact⟨o,e2 _ _ Uu.symm NG e,r⟩
  ·intro j hj
   obtain⟨p',Qb,q1,q2,q3,⟨o,e,r⟩,q5⟩:=hP j hj
   exact⟨p',Qb,q1,q2,q3,⟨o,e2 _ _ q2 q3 e,r⟩,q5⟩
  ·intro h' tk D' kk
   refine hR h' tk ?_ λb o h h3 e=>kk _ _ h h3 (e2 _ _ h h3 e)
   rw[List.range'_succ,abC]
   exact D'
end
section
variable{prog:aaI}{w:World}{K:Type}[DecidableEq K]{knd:KeyKind prog w K}{A:Around}{E:Value->Shared->Prop}{s:Shared}
theorem lI{l:Addr}{items:Array Value}{n:Nat}{sl:Array (Option Value)}{Q:Value->Shared->Prop}(ks:Nat->K)(vs:Nat->Value)(hsz:items.size<=1000)(hA:A.handled=none)
  (hx:s.heap.get? l=some {cls:=.type "list",dict:=none,data:=.seq items n,slots:=sl})
  (hP:∀j,j<items.size->∃p key,items[j]?=some (.ref p)/\s.heap.IsTuple p #[key,vs j]/\knd.is (ks j) key=true)
  (hQ:∀h' tk,h'.DictOf knd s.heap.objs.size ((List.range' 0 items.size).foldl (λkvs j=>stored kvs (ks j) (vs j)) [])->(∀b o,s.heap.get? b=some o->h'.get? b=some o)->Q (.ref s.heap.objs.size) {s with heap:=h',toks:=tk}) :
  wpAny (model prog w) A (call (.type "dict") [.ref l]) Q E s:=by
 refine callType_codes (Q₁:=λobj s₁=>obj=.ref s.heap.objs.size/\s₁={s with heap:=s.heap.push {cls:=.type "dict",data:=.dict #[]}}) F.kt_called_dict (F.kt_typeCall_dict_1 _) F.entry_dict_init (kt_code_dict_new _ ⟨rfl,rfl⟩) ?_
 rintro obj s₁ ⟨rfl,rfl⟩
 have D7:(s.heap.push {cls:=.type "dict",data:=.dict #[]}).DictOf knd s.heap.objs.size []:=Heap.DictOf.new s.heap
 have RS:(s.heap.push {cls:=.type "dict",data:=.dict #[]}).get? l=some {cls:=.type "list",dict:=none,data:=.seq items n,slots:=sl}:=aac _ hx
 refine⟨D7.typeIs,F.args_dict_init_2 _ _,?_⟩
 unfold ace.«dict.__init__»
 refine aaa ?_
 unfold Builtin.Dict.selfAndRest
 refine aaa (wpAny_notOrdered_dict D7.typeIs ?_)
 show wpAny _ _ (pure (s.heap.objs.size,[aar l])) _ _ _
 refine aaf ?_
 show wpAny _ _ (Builtin.Dict.updateFrom "dict.__init__" s.heap.objs.size (.ref l) [] .none) _ _ _
 unfold Builtin.Dict.updateFrom
 refine aaa (acX (T := "list") ⟨_,RS,rfl⟩ ?_)
 rw[if_pos (by decide)]
 refine aaa (m:=getAttr? (.ref l) "keys") (mo RS hA λh2 tk e ne=>?_)
 rw[if_pos (by rfl)]
 have up:∀b o,s.heap.get? b=some o->h2.get? b=some o:=λb o q=>ne.keeps _ _ (aac _ q)
 have FV:=up _ _ hx
 have Se:h2.DictOf knd s.heap.objs.size []:=fJ D7 λo q=>ne.keeps _ _ q
 have G6:h2.IsList l items:=⟨_,FV,rfl,n,rfl⟩
 have US:s.heap.objs.size≠l:=abZ (aaj hx)
 have UT:s.heap.objs.size≠h2.objs.size:=by
  obtain⟨_,_,_,ho,_⟩:=Se
  exact aaq (aaj ho)
 have UR:l≠h2.objs.size:=aaq (aaj FV)
 refine aaa (acY (aaa (adf (s:={s with heap:=h2,toks:=tk}) G6 ?_)))
 refine aaf ⟨ac3 F.AO _,?_⟩
 refine mL (A:=A.in1) (knd:=knd) (it:=h2.objs.size) ks vs hsz UT US UR hA items.size 0 _ [] (by omega) (abd _) (aak _) (fJ Se λo q=>aac _ q) ⟨_,aai _ rfl,rfl,rfl⟩ ⟨_,aac _ FV,rfl,n,rfl⟩ ?_ ?_
 ·intro j hj
  obtain⟨p,key,q1,⟨o,q2,r⟩,q3⟩:=hP j hj
  exact⟨p,key,q1,aaq (aaj q2),aaq (aaj (up _ _ q2)),⟨o,aac _ (up _ _ q2),r⟩,q3⟩
 ·intro h' Hx D kk
  exact⟨rfl,hQ h' Hx D λb o q=>kk b o (aaq (aaj q)) (aaq (aaj (up _ _ q))) (aac _ (up _ _ q))⟩
end
end PySem
namespace L2
open PySem PySem.Spec PyProof.Rows
theorem qo(Bx:List (Str×V))(vf:Nat->Value)(h:∀j (hj:j<Bx.length),RelV Bx[j].2 (vf j)):∀n,n<=Bx.length ->
  KV ((Bx.take n).foldl (λkvs kv=>putK kvs (aao kv.1:Key) kv.2) []) ((List.range' 0 n).foldl (λkvs j=>stored kvs (aao ((Bx[j]?.getD (aeZ,V.rW)).1):Key) (vf j)) [])
 |0,_=>.nil
 |n+1,hn=>by
  have ih:=qo Bx vf h n (by omega)
  have AV:n<Bx.length:=by omega
  rw[List.range'_1_concat,adV,acQ,adV,aab AV]
  simp only[Option.toList_some,abC,List.foldl_nil,abE]
  rw[aab AV,acU]
  exact ih.put _ (h n AV)
theorem g8(Bx:List (Str×V)):∀(kvs:List (Key×V)),(Bx.foldl (λkvs kv=>putK kvs (aao kv.1:Key) kv.2) kvs).length<=kvs.length+Bx.length:=by
 induction Bx with
 |nil=>intro kvs;simp
 |cons x r ih=>
  intro kvs
  rw[abC,abA]
  have:=ih (putK kvs (aao x.1) x.2)
  have h2:(putK kvs (aao x.1:Key) x.2).length<=kvs.length+1:=by
   unfold putK
   split
   ·rw[aad];omega
   ·rw[aat];simp
  omega
variable{X:Cx}
end L2
namespace Q
open PySem L2
inductive PV where
 |rW|bl (b:Bool)|int (i:Int)|str (x:Str)|tup (xs:List PV)|lst (xs:List PV)|Av (kvs:List (Key×PV))|set (xs:List Str)|BH (ns:List Int)
def FO(K:aah)(F:Hp)(a:Addr)(ns:List Int):Prop:=(∃o,F a=some (.CB o (.lst (ns.map V.int)))) \/
 ∃(o:Obj) (iD:Array Value) (n:Nat),K.lookup a=some o/\o.cls=.type "list" /\ o.dict=none/\o.data=.seq iD n/\iD.size<=sizeLine/\zP (ns.map V.int) iD.toList
mutual
inductive Rep (K:aah) (F:Hp):V->PV->Prop where
 |rW:Rep K F .rW .rW
 |bl (b:Bool):Rep K F (.bl b) (.bl b)
 |int (i:Int):Rep K F (.int i) (.int i)
 |str (x:Str):Rep K F (.str x) (.str x)
 |tup {a:Addr} {vs:List V} {xs:List PV}:AW K F a vs->zL K F vs xs->Rep K F (.ref a) (.tup xs)
 |lst {a:Addr} {vs:List V} {xs:List PV}:F a=some (.lst vs)->zL K F vs xs->Rep K F (.ref a) (.lst xs)
 |Av {a:Addr} {vs:List (Key×V)} {xs:List (Key×PV)}:F a=some (.dK vs)->zK K F vs xs->Rep K F (.ref a) (.Av xs)
 |BH {a:Addr} {ns:List Int}:FO K F a ns->Rep K F (.ref a) (.BH ns)
inductive zL (K:aah) (F:Hp):List V->List PV->Prop where
 |nil:zL K F [] []
 |cons {v:V} {x:PV} {vs:List V} {xs:List PV}:Rep K F v x->zL K F vs xs->zL K F (v::vs) (x::xs)
inductive zK (K:aah) (F:Hp):List (Key×V)->List (Key×PV)->Prop where
 |nil:zK K F [] []
 |cons {k:Key} {v:V} {x:PV} {vs:List (Key×V)} {xs:List (Key×PV)}:Rep K F v x->zK K F vs xs->zK K F ((k,v)::vs) ((k,x)::xs)
end
variable{K:aah}{F F' H:Hp}
variable{a:Addr}
theorem er{xs:List V}(s:eQ F F')(h:Bs K F a xs):Bs K F' a xs:=by
 rcases h with (h|⟨o,h⟩)|h
 ·exact .inl (.inl (s _ _ h))
 ·exact .inl (.inr ⟨o,s _ _ h⟩)
 ·exact .inr h
theorem aw{xs:List V}(s:eQ F F')(h:AW K F a xs):AW K F' a xs:=by
 rcases h with (h|⟨o,h⟩)|h
 ·exact .inl (.inl (s _ _ h))
 ·exact .inl (.inr ⟨o,s _ _ h⟩)
 ·exact .inr h
variable{ns:List Int}
theorem jZ(s:eQ F F')(h:FO K F a ns):FO K F' a ns:=by
 rcases h with ⟨o,h⟩|h
 ·exact .inl ⟨o,s _ _ h⟩
 ·exact .inr h
theorem FO.sq(h:FO K F a ns):Bs K F a (ns.map V.int):=by
 rcases h with ⟨o,h⟩|h
 ·exact .inl (.inr ⟨o,h⟩)
 ·exact .inr h
variable{v:V}{x:PV}
theorem Rep.mono(s:eQ F F')(h:Rep K F v x):Rep K F' v x :=
 Rep.rec (K:=K) (F:=F) (motive_1:=λv x _=>Rep K F' v x) (motive_2:=λvs xs _=>zL K F' vs xs) (motive_3:=λvs xs _=>zK K F' vs xs)
  .rW .bl .int .str (λa _ b=>.tup (aw s a) b) (λa _ b=>.lst (s _ _ a) b) (λa _ b=>.Av (s _ _ a) b) (λa=>.BH (jZ s a)) .nil (λ_ _ a b=>.cons a b) .nil (λ_ _ a b=>.cons a b) h
variable{vs:List V}{xs:List PV}
theorem zL.mono(s:eQ F F')(h:zL K F vs xs):zL K F' vs xs :=
 zL.rec (K:=K) (F:=F) (motive_1:=λv x _=>Rep K F' v x) (motive_2:=λvs xs _=>zL K F' vs xs) (motive_3:=λvs xs _=>zK K F' vs xs)
  .rW .bl .int .str (λa _ b=>.tup (aw s a) b) (λa _ b=>.lst (s _ _ a) b) (λa _ b=>.Av (s _ _ a) b) (λa=>.BH (jZ s a)) .nil (λ_ _ a b=>.cons a b) .nil (λ_ _ a b=>.cons a b) h
theorem zK.mono{vs:List (Key×V)}{xs:List (Key×PV)}(s:eQ F F')(h:zK K F vs xs):zK K F' vs xs :=
 zK.rec (K:=K) (F:=F) (motive_1:=λv x _=>Rep K F' v x) (motive_2:=λvs xs _=>zL K F' vs xs) (motive_3:=λvs xs _=>zK K F' vs xs)
  .rW .bl .int .str (λa _ b=>.tup (aw s a) b) (λa _ b=>.lst (s _ _ a) b) (λa _ b=>.Av (s _ _ a) b) (λa=>.BH (jZ s a)) .nil (λ_ _ a b=>.cons a b) .nil (λ_ _ a b=>.cons a b) h
theorem zL.ind{motive:∀vs xs,zL K F vs xs->Prop}(h:zL K F vs xs)(nil:motive [] [] .nil)(cons:∀{v x vs xs} (a:Rep K F v x) (r:zL K F vs xs),motive vs xs r->motive (v::vs) (x::xs) (.cons a r)):motive vs xs h :=
 zL.rec (K:=K) (F:=F) (motive_1:=λ_ _ _=>True) (motive_2:=motive) (motive_3:=λ_ _ _=>True)
  trivial (λ_=>trivial) (λ_=>trivial) (λ_=>trivial) (λ_ _ _=>trivial) (λ_ _ _=>trivial) (λ_ _ _=>trivial) (λ_=>trivial) nil (λa r _ b=>cons a r b) trivial (λ_ _ _ _=>trivial) h
theorem zK.ind{motive:∀vs xs,zK K F vs xs->Prop}{vs:List (Key×V)}{xs:List (Key×PV)}(h:zK K F vs xs)(nil:motive [] [] .nil)(cons:∀{k v x vs xs} (a:Rep K F v x) (r:zK K F vs xs),motive vs xs r->motive ((k,v)::vs) ((k,x)::xs) (.cons a r)):motive vs xs h :=
 zK.rec (K:=K) (F:=F) (motive_1:=λ_ _ _=>True) (motive_2:=λ_ _ _=>True) (motive_3:=motive)
  trivial (λ_=>trivial) (λ_=>trivial) (λ_=>trivial) (λ_ _ _=>trivial) (λ_ _ _=>trivial) (λ_ _ _=>trivial) (λ_=>trivial) trivial (λ_ _ _ _=>trivial) nil (λa r _ b=>cons a r b) h
theorem zL.len(h:zL K F vs xs):vs.length=xs.length:=by
 induction h using zL.ind with
 |nil=>rfl
 |cons _ _ ih=>exact congrArg (·+1) ih
variable{i:Nat}
theorem zL.get(h:zL K F vs xs)(e:xs[i]?=some x):∃v,vs[i]?=some v/\Rep K F v x:=by
 induction h using zL.ind generalizing i with
 |nil=>cases e
 |cons a _ ih=>cases i with
  |zero=>cases e;exact⟨_,rfl,a⟩
  |succ i=>exact ih e
theorem zL.Gx(h:zL K F vs xs)(e:vs[i]?=some v):∃x,xs[i]?=some x/\Rep K F v x:=by
 induction h using zL.ind generalizing i with
 |nil=>cases e
 |cons a _ ih=>cases i with
  |zero=>cases e;exact⟨_,rfl,a⟩
  |succ i=>exact ih e
variable{ws:List V}{ys:List PV}
theorem zL.app(h:zL K F vs xs)(k:zL K F ws ys):zL K F (vs++ws) (xs++ys):=by
 induction h using zL.ind with
 |nil=>exact k
 |cons a _ ih=>exact .cons a ih
theorem zL.take(n:Nat)(h:zL K F vs xs):zL K F (vs.take n) (xs.take n):=by
 induction h using zL.ind generalizing n with
 |nil=>cases n<;>exact .nil
 |cons a _ ih=>cases n with
  |zero=>exact .nil
  |succ n=>exact .cons a (ih n)
theorem zL.drop(n:Nat)(h:zL K F vs xs):zL K F (vs.drop n) (xs.drop n):=by
 induction h using zL.ind generalizing n with
 |nil=>cases n<;>exact .nil
 |cons a r ih=>cases n with
  |zero=>exact .cons a r
  |succ n=>exact ih n
theorem zL.Pz(n:Nat)(k:Rep K F v x)(h:zL K F vs xs):zL K F (vs.set n v) (xs.set n x):=by
 induction h using zL.ind generalizing n with
 |nil=>exact .nil
 |cons a r ih=>cases n with
  |zero=>exact .cons k r
  |succ n=>exact .cons a (ih n)
theorem zL.rev(h:zL K F vs xs):zL K F vs.reverse xs.reverse:=by
 induction h using zL.ind with
 |nil=>exact .nil
 |cons a _ ih=>
  rw[acJ,acJ]
  exact ih.app (.cons a .nil)
theorem zK.len{vs:List (Key×V)}{xs:List (Key×PV)}(h:zK K F vs xs):vs.length=xs.length:=by
 induction h using zK.ind with
 |nil=>rfl
 |cons _ _ ih=>exact congrArg (·+1) ih
theorem zK.keys{vs:List (Key×V)}{xs:List (Key×PV)}(h:zK K F vs xs):vs.map (·.1)=xs.map (·.1):=by
 induction h using zK.ind with
 |nil=>rfl
 |cons _ _ ih=>exact congrArg (List.cons _) ih
structure Sl where
 k:Nat
 v:PV
abbrev En:=List (Option Sl)
structure BG where
 P:Hp->Hp->Addr->List Addr->PV->Prop
 mono:∀F F' H H' a l x,P F H a l x->eQ F F'->(∀c∈l,H' c=H c)->P F' H' a l x
structure Md where
 P:aaI
 w:World
 K:aah
 ob:BG
structure Zn where
 H₀:Hp
 F₀:Hp
 S:List Addr
 oa:Nat->Option Addr:=λ_=>none
 sS:∀b∈S,H₀ b≠none
def CA(M:Md)(F H:Hp)(a:Addr):PV->Prop
 |.lst xs=>∃vs,H a=some (.lst vs)/\zL M.K F vs xs
 |.Av xs=>∃vs,H a=some (.dK vs)/\zK M.K F vs xs
 |.set xs=>H a=some (KL M.P M.w a (λs=>decide (s∈xs)) xs.length)
 |_=>False
variable{M:Md}
theorem CA.mono{H':Hp}(s:eQ F F')(e:H' a=H a)(h:CA M F H a x):CA M F' H' a x:=by
 cases x<;>try exact h.elim
 ·obtain⟨vs,h1,h2⟩:=h
  exact⟨vs,e.trans h1,h2.mono s⟩
 ·obtain⟨vs,h1,h2⟩:=h
  exact⟨vs,e.trans h1,h2.mono s⟩
 ·exact e.trans h
def Ei(M:Md)(Z:Zn)(F H:Hp)(v:V)(s:Sl)(fp:List Addr):Prop :=
 (s.k=0/\fp=[]/\Rep M.K F v s.v)\/(s.k=1/\∃a,v=.ref a/\fp=[a]/\Z.H₀ a=none/\CA M F H a s.v) \/
 ((s.k=2\/s.k=4)/\∃a,v=.ref a/\(∀c∈fp,c∈Z.S\/Z.H₀ c=none)/\M.ob.P F H a fp s.v) \/
 (s.k=3/\∃a,v=.ref a/\fp=[a]/\a∈Z.S/\CA M F H a s.v)
structure Slots(M:Md)(Z:Zn)(F:Hp)(σ:St)(H:Hp)(env:En)(fp:Nat->List Addr):Prop where
 at':∀i s,env[i]?=some (some s)->∃v,σ[i]?=some (some v)/\Ei M Z F H v s (fp i)
 al:∀i a,a∈fp i->H a≠none/\F a=none
 dj:∀i j a,i≠j->a∈fp i->a∉fp j
 oa:∀i a s,Z.oa i=some a->env[i]?=some (some s)->s.k=2->σ[i]?=some (some (.ref a))
structure zW(M:Md)(Z:Zn)(F:Hp)(σ:St)(H:Hp)(env:En):Prop where
 sF:eQ F H
 sG:∀b o,Z.H₀ b=some o->b∉Z.S->H b=some o
 pr:∀b,Z.H₀ b≠none->H b≠none
 gr:eQ Z.F₀ F
 nw:∀a,F a≠none->Z.F₀ a≠none\/Z.H₀ a=none
 len:env.length=σ.length
 sl:∃fp,Slots M Z F σ H env fp
variable{Z:Zn}{H':Hp}{σ:St}{env:En}{s:Sl}{fp:List Addr}
theorem Ei.mono(s1:eQ F F')(e:∀c∈fp,H' c=H c)(h:Ei M Z F H v s fp):Ei M Z F' H' v s fp:=by
 rcases h with ⟨a,b,c⟩|⟨a,p,rfl,rfl,c,d⟩|⟨a,p,rfl,c,d⟩|⟨a,p,rfl,rfl,c,d⟩
 ·exact .inl ⟨a,b,c.mono s1⟩
 ·exact .inr (.inl ⟨a,p,rfl,rfl,c,d.mono s1 (e p (by simp))⟩)
 ·exact .inr (.inr (.inl ⟨a,p,rfl,c,M.ob.mono _ _ _ _ _ _ _ d s1 e⟩))
 ·exact .inr (.inr (.inr ⟨a,p,rfl,rfl,c,d.mono s1 (e p (by simp))⟩))
theorem aq:eQ H H:=λ_ _ h=>h
theorem aj{A B C:Hp}(x:eQ A B)(y:eQ B C):eQ A C:=λa o h=>y a o (x a o h)
variable{p:Addr}{o:HO}
theorem az(h:F p=none):eQ F (upd F p o):=λa u e=>by rw[ak (aA e h)];exact e
theorem eQ.none_of{A B:Hp}(s:eQ A B)(h:B a=none):A a=none:=by
 cases e:A a with
 |none=>rfl
 |some o=>rw[s a o e]at h;cases h
theorem Slots.move{fp:Nat->List Addr}(L:Slots M Z F σ H env fp)(s1:eQ F F')(s3:∀i c o,c∈fp i->H c=some o->H' c=some o)(nw:∀a,F' a≠none->F a≠none\/H a=none):Slots M Z F' σ H' env fp:=by
 refine⟨λi s h=>?_,λi a h=>?_,L.dj,L.oa⟩
 ·obtain⟨v,h1,h2⟩:=L.at' i s h
  refine⟨v,h1,h2.mono s1 λc hc=>?_⟩
  cases e:H c with
  |none=>exact absurd e (L.al i c hc).1
  |some o=>exact s3 i c o hc e
 ·obtain⟨h1,h2⟩:=L.al i a h
  constructor
  ·cases e:H a with
   |none=>exact absurd e h1
   |some o=>rw[s3 i a o h e];simp
  ·cases e:F' a with
   |none=>rfl
   |some o=>
    rcases nw a (by rw[e];simp)with z|z
    ·exact absurd h2 z
    ·exact absurd z h1
variable{l:List Addr}
theorem Slots.put{fp:Nat->List Addr}(L:Slots M Z F σ H env fp)(hk:s.k≠2)(hi:i<σ.length)(h:Ei M Z F H v s l)(al:∀a∈l,H a≠none/\F a=none)(dj:∀j a,j≠i->a∈l->a∉fp j):
  Slots M Z F (σ.set i (some v)) H (env.set i (some s)) (λj=>if j=i then l else fp j):=by
 refine⟨λj t e=>?_,λj a e=>?_,λj k a Hz e z=>?_,λj a t e1 e2 e3=>?_⟩
 case refine_4=>
  by_cases q:j=i
  ·subst q
   rw[abI]at e2
   simp only[if_true]at e2
   split at e2
   ·cases e2;exact absurd e3 hk
   ·cases e2
  ·rw[aaE (abG q)]at e2
   rw[aaE (abG q)]
   exact L.oa j a t e1 e2 e3
 ·by_cases q:j=i
  ·subst q
   rw[abI]at e
   simp only[if_true]at e
   split at e
   ·first|(exfalso;revert e;simp;done)|cases e
    exact⟨v,by simp[hi],by rw[if_pos rfl];exact h⟩
   ·first|(exfalso;revert e;simp;done)|cases e
  ·rw[aaE (abG q)]at e
   rw[aaE (abG q),if_neg q]
   exact L.at' j t e
 ·by_cases q:j=i
  ·rw[if_pos q]at e;exact al a e
  ·rw[if_neg q]at e;exact L.al j a e
 ·by_cases q:j=i
  ·rw[if_pos q]at e
   rw[if_neg (λy=>Hz (q.trans y.symm))]at z
   exact dj k a (λy=>Hz (q.trans y.symm)) e z
  ·rw[if_neg q]at e
   by_cases q2:k=i
   ·rw[if_pos q2]at z
    exact dj j a q z e
   ·rw[if_neg q2]at z
    exact L.dj j k a Hz e z
theorem Slots.push{fp:Nat->List Addr}(L:Slots M Z F σ H env fp)(hk:s.k≠2)(hn:env.length=σ.length)(h:Ei M Z F H v s l)(al:∀a∈l,H a≠none/\F a=none)(dj:∀j a,a∈l->a∉fp j):
  Slots M Z F (σ++[some v]) H (env++[some s]) (λj=>if j=env.length then l else fp j):=by
 refine⟨λj t e=>?_,λj a e=>?_,λj k a Hz e z=>?_,λj a t e1 e2 e3=>?_⟩
 case refine_4=>
  by_cases q:j=env.length
  ·subst q
   simp at e2
   subst e2
   exact absurd e3 hk
  ·have hj:j<env.length:=by
    have:j<(env++[some s]).length:=by
     rcases aaZ j (env++[some s]).length with y|y
     ·exact y
     ·rw[aan y]at e2;cases e2
    simp at this;omega
   rw[aaC hj]at e2
   rw[aaC (by omega)]
   exact L.oa j a t e1 e2 e3
 ·by_cases q:j=env.length
  ·subst q
   simp at e
   subst e
   exact⟨v,by rw[hn];simp,by rw[if_pos rfl];exact h⟩
  ·rw[if_neg q]
   have hj:j<env.length:=by
    have:j<(env++[some s]).length:=by
     rcases aaZ j (env++[some s]).length with y|y
     ·exact y
     ·rw[aan y]at e;cases e
    simp at this;omega
   rw[aaC hj]at e
   rw[aaC (by omega)]
   exact L.at' j t e
 ·by_cases q:j=env.length
  ·rw[if_pos q]at e;exact al a e
  ·rw[if_neg q]at e;exact L.al j a e
 ·by_cases q:j=env.length
  ·rw[if_pos q]at e
   rw[if_neg (λy=>Hz (q.trans y.symm))]at z
   exact dj k a e z
  ·rw[if_neg q]at e
   by_cases q2:k=env.length
   ·rw[if_pos q2]at z
    exact dj j a z e
   ·rw[if_neg q2]at z
    exact L.dj j k a Hz e z
theorem Slots.drop{fp:Nat->List Addr}(L:Slots M Z F (σ++[some v]) H (env++[some s]) fp)(hn:env.length=σ.length):Slots M Z F σ H env fp:=by
 have lt:∀{j:Nat} {t:Sl},env[j]?=some (some t)->j<env.length:=λ{j t} e=>by
  rcases aaZ j env.length with y|y
  ·exact y
  ·rw[aan y]at e;cases e
 refine⟨λj t e=>?_,L.al,L.dj,λj a t e1 e2 e3=>?_⟩
 ·have hj:=lt e
  obtain⟨v',h1,h2⟩:=L.at' j t (by rw[aaC hj];exact e)
  rw[aaC (by omega)]at h1
  exact⟨v',h1,h2⟩
 ·have hj:=lt e2
  have:=L.oa j a t e1 (by rw[aaC hj];exact e2) e3
  rw[aaC (by omega)]at this
  exact this
theorem Slots.last{fp:Nat->List Addr}(L:Slots M Z F (σ++[some v]) H (env++[some s]) fp)(hn:env.length=σ.length):Ei M Z F H v s (fp env.length):=by
 obtain⟨v',h1,h2⟩:=L.at' env.length s (by simp)
 rw[hn]at h1
 simp at h1
 subst h1
 exact h2
theorem zW.h0(K:zW M Z F σ H env)(h:H a=none):Z.H₀ a=none:=by
 cases e:Z.H₀ a with
 |none=>rfl
 |some o=>exact absurd h (K.pr a (by rw[e];simp))
theorem zW.move(K:zW M Z F σ H env)(s1:eQ F F')(s2:eQ F' H')(s3:eQ H H')(nw:∀a,F' a≠none->F a≠none\/H a=none):zW M Z F' σ H' env:=by
 obtain⟨fp,L⟩:=K.sl
 refine⟨s2,λb o h1 h2=>s3 b o (K.sG b o h1 h2),λb h=>?_,aj K.gr s1,λa h=>?_,K.len,fp,L.move s1 (λ_ c o _ e=>s3 c o e) nw⟩
 ·cases e:H b with
  |none=>exact absurd e (K.pr b h)
  |some o=>rw[s3 b o e];simp
 ·rcases nw a h with h1|h1
  ·exact K.nw a h1
  ·exact .inr (K.h0 h1)
theorem zW.lay(K:zW M Z F σ H env)(h:H p=none):zW M Z (upd F p o) σ (upd H p o) env:=by
 have hF:F p=none:=eQ.none_of K.sF h
 refine K.move (az hF) (λa u e=>?_) (az h) λa e=>?_
 ·by_cases q:a=p
  ·subst q;rw[ao]at e ⊢;exact e
  ·rw[ak q]at e ⊢;exact K.sF a u e
 ·by_cases q:a=p
  ·subst q;exact .inr h
  ·rw[ak q]at e;exact .inl e
theorem zW.slots{σ':St}{dO:En}{fp:Nat->List Addr}(K:zW M Z F σ H env)(hn:dO.length=σ'.length)(L:Slots M Z F σ' H dO fp):zW M Z F σ' H dO:=⟨K.sF,K.sG,K.pr,K.gr,K.nw,hn,fp,L⟩
theorem zW.own(K:zW M Z F σ H env)(h:H p=none)(hx:CA M F (upd H p o) p x):zW M Z F (σ++[some (.ref p)]) (upd H p o) (env++[some ⟨1,x⟩]):=by
 have hF:F p=none:=eQ.none_of K.sF h
 have K1:zW M Z F σ (upd H p o) env:=K.move aq (λa u e=>by rw[ak (aA e hF)];exact K.sF a u e) (az h) λa e=>.inl e
 obtain⟨fp,L⟩:=K.sl
 have L1:Slots M Z F σ (upd H p o) env fp:=L.move aq (λ_ c u _ e=>az h c u e) λa e=>.inl e
 refine K1.slots (by simp[K.len]) (L1.push (l:=[p]) (by simp) K.len (.inr (.inl ⟨rfl,p,rfl,rfl,K.h0 h,hx⟩)) (λa ha=>?_) λj a ha hj=>?_)
 ·simp at ha;subst ha
  exact⟨by rw[ao];simp,hF⟩
 ·simp at ha;subst ha
  exact(L.al j a hj).1 h
theorem zW.drop(K:zW M Z F (σ++[some v]) H (env++[some s])):zW M Z F σ H env:=by
 have hn:env.length=σ.length:=by have:=K.len;simpa using this
 obtain⟨fp,L⟩:=K.sl
 exact K.slots hn (L.drop hn)
theorem CA.rep(h:CA M F H a x)(hx:∀xs,x≠.set xs)(hF:F a=none)(ho:H a=some o):Rep M.K (upd F a o) (.ref a) x:=by
 have s1:eQ F (upd F a o):=az hF
 cases x<;>try exact h.elim
 ·obtain⟨vs,h1,h2⟩:=h
  rw[ho]at h1;cases h1
  exact .lst ao (h2.mono s1)
 ·obtain⟨vs,h1,h2⟩:=h
  rw[ho]at h1;cases h1
  exact .Av ao (h2.mono s1)
 ·exact absurd rfl (hx _)
theorem zW.CB{fp:Nat->List Addr}{σ':St}{dO:En}(K:zW M Z F σ H env)(L:Slots M Z F σ H env fp)(hf:fp i=[a])(h0:Z.H₀ a=none)(ho:H a=some o)
  (hn:dO.length=σ'.length) (hs:∀j s,j≠i->dO[j]?=some (some s)->env[j]?=some (some s)/\σ'[j]?=σ[j]?)
  (hi:∀s,dO[i]?=some (some s)->∃v,σ'[i]?=some (some v)/\s.k=0/\Rep M.K (upd F a o) v s.v):zW M Z (upd F a o) σ' H dO:=by
 have ha:=L.al i a (by rw[hf];simp)
 have s1:eQ F (upd F a o):=az ha.2
 refine⟨λb u e=>?_,K.sG,K.pr,aj K.gr s1,λb e=>?_,hn,λj=>if j=i then []else fp j,λj s h=>?_,λj b h=>?_,λj k b Hz h z=>?_,λj b t e1 e2 e3=>?_⟩
 ·by_cases q:b=a
  ·subst q;rw[ao]at e;cases e;exact ho
  ·rw[ak q]at e;exact K.sF b u e
 ·by_cases q:b=a
  ·subst q;exact .inr h0
  ·rw[ak q]at e;exact K.nw b e
 ·by_cases q:j=i
  ·subst q
   obtain⟨v,h1,h2,h3⟩:=hi s h
   exact⟨v,h1,.inl ⟨h2,if_pos rfl,h3⟩⟩
  ·obtain⟨e1,e2⟩:=hs j s q h
   obtain⟨v,h1,h2⟩:=L.at' j s e1
   exact⟨v,by rw[e2];exact h1,by rw[if_neg q];exact h2.mono s1 λ_ _=>rfl⟩
 ·by_cases q:j=i
  ·rw[if_pos q]at h;simp at h
  ·rw[if_neg q]at h
   have hb:=L.al j b h
   have:b≠a:=λz=>L.dj j i b q h (by rw[hf,z];simp)
   exact⟨hb.1,by rw[ak this];exact hb.2⟩
 ·by_cases q:j=i
  ·rw[if_pos q]at h;simp at h
  ·rw[if_neg q]at h
   by_cases q2:k=i
   ·rw[if_pos q2]at z;simp at z
   ·rw[if_neg q2]at z;exact L.dj j k b Hz h z
 ·by_cases q:j=i
  ·subst q
   obtain⟨_,_,h2,_⟩:=hi t e2
   rw[e3]at h2;cases h2
  ·obtain⟨f1,f2⟩:=hs j t q e2
   rw[f2];exact L.oa j b t e1 f1 e3
theorem dH(h:H a≠none):∃o,H a=some o:=by
 cases e:H a with
 |none=>exact absurd e h
 |some o=>exact⟨o,rfl⟩
theorem zW.G7(K:zW M Z F (σ++[some v]) H (env++[some ⟨1,x⟩]))(hx:∀xs,x≠.set xs):∃F',eQ F F'/\zW M Z F' σ H env/\Rep M.K F' v x:=by
 have hn:env.length=σ.length:=by have:=K.len;simpa using this
 obtain⟨fp,L⟩:=K.sl
 rcases L.last hn with ⟨e,_⟩|⟨_,a,rfl,hf,h0,hw⟩|⟨e,_⟩|⟨e,_⟩
 ·first|(exfalso;revert e;simp;done)|cases e
 ·have ha:=L.al env.length a (by rw[hf];simp)
  obtain⟨o,ho⟩:=dH ha.1
  refine⟨upd F a o,az ha.2,K.CB L hf h0 ho hn (λj s _ e=>?_) (λs e=>?_),hw.rep hx ha.2 ho⟩
  ·have hj:j<env.length:=by
    rcases aaZ j env.length with y|y
    ·exact y
    ·rw[aan y]at e;cases e
   rw[aaC hj,aaC (by omega)]
   exact⟨e,rfl⟩
  ·simp at e
 ·first|(exfalso;revert e;simp;done)|cases e
 ·first|(exfalso;revert e;simp;done)|cases e
theorem zW.freeze(K:zW M Z F σ H env)(hi:env[i]?=some (some ⟨1,x⟩))(hx:∀xs,x≠.set xs):∃F' v,σ[i]?=some (some v)/\eQ F F'/\zW M Z F' σ H (env.set i (some ⟨0,x⟩))/\Rep M.K F' v x:=by
 obtain⟨fp,L⟩:=K.sl
 obtain⟨v,hv,h⟩:=L.at' i _ hi
 rcases h with ⟨e,_⟩|⟨_,a,rfl,hf,h0,hw⟩|⟨e,_⟩|⟨e,_⟩
 ·first|(exfalso;revert e;simp;done)|cases e
 ·have ha:=L.al i a (by rw[hf];simp)
  obtain⟨o,ho⟩:=dH ha.1
  refine⟨upd F a o,_,hv,az ha.2,K.CB L hf h0 ho (by simp[K.len]) (λj s q e=>?_) (λs e=>?_),hw.rep hx ha.2 ho⟩
  ·rw[aaE (abG q)]at e
   exact⟨e,rfl⟩
  ·rw[abI]at e
   simp only[if_true]at e
   split at e
   ·first|(exfalso;revert e;simp;done)|cases e
    exact⟨_,hv,rfl,hw.rep hx ha.2 ho⟩
   ·first|(exfalso;revert e;simp;done)|cases e
 ·first|(exfalso;revert e;simp;done)|cases e
 ·first|(exfalso;revert e;simp;done)|cases e
theorem zW.put(K:zW M Z F σ H env)(h:Rep M.K F v x):zW M Z F (σ.set i (some v)) H (env.set i (some ⟨0,x⟩)):=by
 obtain⟨fp,L⟩:=K.sl
 rcases aaZ i env.length with hi|hi
 case inr=>
  rw[abP hi,abP (by have:=K.len;omega)]
  exact K
 exact K.slots (by simp[K.len]) (L.put (l:=[]) (by simp) (by have:=K.len;omega) (.inl ⟨rfl,rfl,h⟩) (λa h=>by simp at h) λj a _ h=>by simp at h)
theorem zW.take(K:zW M Z F (σ++[some v]) H (env++[some s]))(hk:s.k≠2:=by simp):zW M Z F (σ.set i (some v)) H (env.set i (some s)):=by
 have hn:env.length=σ.length:=by have:=K.len;simpa using this
 rcases aaZ i env.length with hi|hi
 case inr=>
  rw[abP hi,abP (by omega)]
  exact K.drop
 obtain⟨fp,L⟩:=K.sl
 have hl:=L.last hn
 refine K.slots (by simp[hn]) (Slots.put (l:=fp env.length) (fp:=λj=>if j=env.length then []else fp j) ⟨λj t e=>?_,λj a e=>?_,λj k a Hz e z=>?_,(L.drop hn).oa⟩ hk (by omega) hl (λa=>L.al _ a) λj a _ h z=>?_)
 ·have hj:j<env.length:=by
   rcases aaZ j env.length with y|y
   ·exact y
   ·rw[aan y]at e;cases e
  rw[if_neg (by omega)]
  obtain⟨v',h1,h2⟩:=L.at' j t (by rw[aaC hj];exact e)
  rw[aaC (by omega)]at h1
  exact⟨v',h1,h2⟩
 ·split at e
  ·simp at e
  ·exact L.al j a e
 ·split at e
  ·simp at e
  ·split at z
   ·simp at z
   ·exact L.dj j k a Hz e z
 ·split at z
  ·simp at z
  ·rename_i q
   exact L.dj env.length j a (abG q) h z
variable{k:Nat}{y:PV}
theorem zW.write(K:zW M Z F σ H env)(hk:k=1\/k=3)(hi:env[i]?=some (some ⟨k,x⟩))(hv:σ[i]?=some (some (.ref a)))(hw:CA M F (upd H a o) a y):zW M Z F σ (upd H a o) (env.set i (some ⟨k,y⟩)):=by
 obtain⟨fp,L⟩:=K.sl
 obtain⟨v,Nu,h⟩:=L.at' i _ hi
 rw[hv]at Nu;cases Nu
 obtain⟨hf,hd,D7⟩:fp i=[a]/\(Z.H₀ a=none\/a∈Z.S)/\Ei M Z F (upd H a o) (.ref a) ⟨k,y⟩ [a]:=by
  rcases h with ⟨e,_⟩|⟨e,a',ea,hf,h0,hx⟩|⟨e,_⟩|⟨e,a',ea,hf,h0,hx⟩
  ·rcases hk with rfl|rfl<;>exact absurd e (by simp)
  ·cases ea
   exact⟨hf,.inl h0,.inr (.inl ⟨e,a,rfl,rfl,h0,hw⟩)⟩
  ·rcases hk with rfl|rfl<;>exact absurd e (by simp)
  ·cases ea
   exact⟨hf,.inr h0,.inr (.inr (.inr ⟨e,a,rfl,rfl,h0,hw⟩))⟩
 have ha:=L.al i a (by rw[hf];simp)
 refine⟨λb u e=>?_,λb u h1 h2=>?_,λb h=>?_,K.gr,K.nw,by simp[K.len],fp,λj s e=>?_,λj b h=>?_,L.dj,λj b t e1 e2 e3=>?_⟩
 ·rw[ak (aA e ha.2)];exact K.sF b u e
 ·have:b≠a:=by
   rcases hd with h0|h0
   ·exact aA h1 h0
   ·exact λz=>h2 (by rw[z];exact h0)
  rw[ak this];exact K.sG b u h1 h2
 ·by_cases q:b=a
  ·subst q;rw[ao];simp
  ·rw[ak q];exact K.pr b h
 ·by_cases q:j=i
  ·subst q
   rw[abI]at e
   simp only[if_true]at e
   split at e
   ·first|(exfalso;revert e;simp;done)|cases e
    exact⟨_,hv,by rw[hf];exact D7⟩
   ·first|(exfalso;revert e;simp;done)|cases e
  ·rw[aaE (abG q)]at e
   obtain⟨v,h1,h2⟩:=L.at' j s e
   refine⟨v,h1,h2.mono aq λc hc=>ak λz=>?_⟩
   exact L.dj j i c q hc (by rw[hf,z];simp)
 ·have hb:=L.al j b h
  refine⟨?_,hb.2⟩
  by_cases q:b=a
  ·subst q;rw[ao];simp
  ·rw[ak q];exact hb.1
 ·by_cases q:j=i
  ·subst q
   rw[abI]at e2
   simp only[if_true]at e2
   split at e2
   ·cases e2;rcases hk with rfl|rfl<;>cases e3
   ·cases e2
  ·rw[aaE (abG q)]at e2
   exact L.oa j b t e1 e2 e3
def Vw(M:Md)(F H:Hp)(v:V)(x:PV):Prop:=Rep M.K F v x\/∃a,v=.ref a/\CA M F H a x
theorem Vw.lst(h:Vw M F H v (.lst xs))(s:eQ F H):∃a vs,v=.ref a/\H a=some (.lst vs)/\zL M.K F vs xs:=by
 rcases h with h|⟨a,rfl,vs,h1,h2⟩
 ·cases h with
  |lst h1 h2=>exact⟨_,_,rfl,s _ _ h1,h2⟩
 ·exact⟨a,vs,rfl,h1,h2⟩
theorem Vw.tup(h:Vw M F H v (.tup xs))(s:eQ F H):∃a vs,v=.ref a/\AW M.K H a vs/\zL M.K F vs xs:=by
 rcases h with h|⟨a,rfl,h⟩
 ·cases h with
  |tup h1 h2=>exact⟨_,_,rfl,aw s h1,h2⟩
 ·exact h.elim
theorem Vw.Av{xs:List (Key×PV)}(h:Vw M F H v (.Av xs))(s:eQ F H):∃a vs,v=.ref a/\H a=some (.dK vs)/\zK M.K F vs xs:=by
 rcases h with h|⟨a,rfl,vs,h1,h2⟩
 ·cases h with
  |Av h1 h2=>exact⟨_,_,rfl,s _ _ h1,h2⟩
 ·exact⟨a,vs,rfl,h1,h2⟩
theorem Vw.int{i:Int}(h:Vw M F H v (.int i)):v=.int i:=by
 rcases h with h|⟨a,rfl,h⟩
 ·cases h;rfl
 ·exact h.elim
theorem Vw.bl{b:Bool}(h:Vw M F H v (.bl b)):v=.bl b:=by
 rcases h with h|⟨a,rfl,h⟩
 ·cases h;rfl
 ·exact h.elim
theorem Vw.str{x:Str}(h:Vw M F H v (.str x)):v=.str x:=by
 rcases h with h|⟨a,rfl,h⟩
 ·cases h;rfl
 ·exact h.elim
theorem Vw.rW(h:Vw M F H v .rW):v=.rW:=by
 rcases h with h|⟨a,rfl,h⟩
 ·cases h;rfl
 ·exact h.elim
theorem zW.vw(K:zW M Z F σ H env)(hi:env[i]?=some (some s))(hk:s.k≠2/\s.k≠4):∃v,σ[i]?=some (some v)/\Vw M F H v s.v:=by
 obtain⟨fp,L⟩:=K.sl
 obtain⟨v,hv,h⟩:=L.at' i _ hi
 rcases h with ⟨_,_,h⟩|⟨_,a,rfl,_,_,h⟩|⟨e,_⟩|⟨_,a,rfl,_,_,h⟩
 ·exact⟨v,hv,.inl h⟩
 ·exact⟨_,hv,.inr ⟨a,rfl,h⟩⟩
 ·exact(e.elim hk.1 hk.2).elim
 ·exact⟨_,hv,.inr ⟨a,rfl,h⟩⟩
theorem zW.val(K:zW M Z F σ H env)(hi:env[i]?=some (some ⟨0,x⟩)):∃v,σ[i]?=some (some v)/\Rep M.K F v x:=by
 obtain⟨fp,L⟩:=K.sl
 obtain⟨v,hv,h⟩:=L.at' i _ hi
 rcases h with ⟨_,_,h⟩|⟨e,_⟩|⟨e,_⟩|⟨e,_⟩
 ·exact⟨v,hv,h⟩
 ·first|(exfalso;revert e;simp;done)|cases e
 ·first|(exfalso;revert e;simp;done)|cases e
 ·first|(exfalso;revert e;simp;done)|cases e
theorem zW.ownAt(K:zW M Z F σ H env)(hk:k=1\/k=3)(hi:env[i]?=some (some ⟨k,x⟩)):∃a,σ[i]?=some (some (.ref a))/\CA M F H a x:=by
 obtain⟨fp,L⟩:=K.sl
 obtain⟨v,hv,h⟩:=L.at' i _ hi
 rcases h with ⟨e,_⟩|⟨_,a,rfl,_,_,h⟩|⟨e,_⟩|⟨_,a,rfl,_,_,h⟩
 ·rcases hk with rfl|rfl<;>exact absurd e (by simp)
 ·exact⟨a,hv,h⟩
 ·rcases hk with rfl|rfl<;>exact absurd e (by simp)
 ·exact⟨a,hv,h⟩
abbrev WE:=En->(PV->En->Prop)->Prop
abbrev WT:=En->(Bool->En->Prop)->Prop
abbrev WA:=En->(List PV->En->Prop)->Prop
structure Wd where
 nx:En->Prop
 rt:PV->En->Prop
 bk:En->Prop:=λ_=>False
 ct:En->Prop:=λ_=>False
 rf:PV->En->Prop:=λ_ _=>False
 ro:PV->Nat->En->Prop:=λ_ _ _=>False
abbrev WS:=Wd->En->Prop
abbrev md(ob:BG)(X:Cx):Md:=⟨X.prog,X.w,X.K,ob⟩
structure Am(ob:BG)(X:Cx)(e:Expr)(f:WE):Prop where
 ex:∃t:TE,PE X e t/\∀(Z:Zn) (F:Hp) (σ:St) (H:Hp) (env:En) (P:PV->En->Prop) (Q:VK),zW (md ob X) Z F σ H env->f env P ->
  (∀x dO v F' H',P x dO->eQ F F'->zW (md ob X) Z F' σ H' dO->Rep X.K F' v x->Q v H')->t σ H Q
structure DQ(ob:BG)(X:Cx)(e:Expr)(f:WE):Prop where
 ex:∃t:TE,PE X e t/\∀(Z:Zn) (F:Hp) (σ:St) (H:Hp) (env:En) (P:PV->En->Prop) (Q:VK),zW (md ob X) Z F σ H env->f env P ->
  (∀x dO v F' H',P x dO->eQ F F'->zW (md ob X) Z F' σ H' dO->Vw (md ob X) F' H' v x->Q v H')->t σ H Q
structure GS(ob:BG)(X:Cx)(e:Expr)(f:WE):Prop where
 ex:∃t:TE,PE X e t/\∀(Z:Zn) (F:Hp) (σ:St) (H:Hp) (env:En) (P:PV->En->Prop) (Q:VK),zW (md ob X) Z F σ H env->f env P ->
  (∀x dO v F' H',P x dO->eQ F F'->(∀xs,x≠.set xs)->zW (md ob X) Z F' (σ++[some v]) H' (dO++[some ⟨1,x⟩])->Q v H')->t σ H Q
structure GR(ob:BG)(X:Cx)(e:Expr)(f:WT):Prop where
 ex:∃t:TT,PT X e t/\∀(Z:Zn) (F:Hp) (σ:St) (H:Hp) (env:En) (P:Bool->En->Prop) (Q:Bool->Hp->Prop),zW (md ob X) Z F σ H env->f env P ->
  (∀b dO F' H',P b dO->eQ F F'->zW (md ob X) Z F' σ H' dO->Q b H')->t σ H Q
structure LY(ob:BG)(X:Cx)(e:Expr)(f:WT):Prop where
 ex:∃t:TT,PW X e t/\∀(Z:Zn) (F:Hp) (σ:St) (H:Hp) (env:En) (P:Bool->En->Prop) (Q:Bool->Hp->Prop),zW (md ob X) Z F σ H env->f env P ->
  (∀b dO F' H',P b dO->eQ F F'->zW (md ob X) Z F' σ H' dO->Q b H')->t σ H Q
structure FQ(ob:BG)(X:Cx)(es:List Expr)(f:WA):Prop where
 ex:∃t:TA,PA X es t/\∀(Z:Zn) (F:Hp) (σ:St) (H:Hp) (env:En) (P:List PV->En->Prop) (Q:List V->Hp->Prop),zW (md ob X) Z F σ H env->f env P ->
  (∀xs dO vs F' H',P xs dO->xs.length=es.length->eQ F F'->zW (md ob X) Z F' σ H' dO->zL X.K F' vs xs->Q vs H')->t σ H Q
def eC(x:PV):WE:=λenv P=>P x env
def eV(i:Nat):WE:=λenv P=>match env[i]? with
 |some (some ⟨0,x⟩)=>P x env
 |some (some ⟨1,.lst xs⟩)=>P (.lst xs) (env.set i (some ⟨0,.lst xs⟩))
 |some (some ⟨1,.Av xs⟩)=>P (.Av xs) (env.set i (some ⟨0,.Av xs⟩))
 |_=>False
def An(i:Nat):WE:=λenv P=>match env[i]? with
 |some (some ⟨0,x⟩)=>P x env
 |some (some ⟨1,x⟩)=>P x env
 |some (some ⟨3,x⟩)=>P x env
 |_=>False
variable{α:Type}
def opt(o:Option α)(P:α->Prop):Prop:=∃z,o=some z/\P z
theorem Fx{z:α}{P:α->Prop}:opt (some z) P↔P z:=⟨λ⟨_,e,h⟩=>by cases e;exact h,λh=>⟨z,rfl,h⟩⟩
def bY:WA:=λenv P=>P [] env
def aS(a:WE)(r:WA):WA:=λenv P=>a env λx e1=>r e1 λxs e2=>P (x::xs) e2
def zN(a:WA):WE:=λenv P=>a env λxs e=>P (.tup xs) e
def BK(a:WA):WE:=λenv P=>a env λxs e=>P (.lst xs) e
def iN(g:PV->PV->Option PV)(a b:WE):WE:=λenv P=>a env λx e1=>b e1 λy e2=>opt (g x y) λz=>P z e2
def NT(g:PV->Option PV)(a:WE):WE:=λenv P=>a env λx e1=>opt (g x) λz=>P z e1
def Cm(g:PV->PV->Option PV)(i:Nat)(b:WE):WE:=λenv P=>(env[i]?).join.isSome=true/\b env λy e2=>An i e2 λx _=>opt (g x y) λz=>P z e2
def zO(a:WE):WT:=λenv P=>a env λx e=>opt (match x with|.bl b=>some b|_=>none) λb=>P b e
def C6(a b:WT):WT:=λenv P=>a env λx e=>if x=true then b e P else P false e
def Fp(a b:WT):WT:=λenv P=>a env λx e=>if x=true then P true e else b e P
def B4(a:WT):WT:=λenv P=>a env λx e=>P (!x) e
def OS(c:WT)(a b:WE):WE:=λenv P=>c env λx e=>if x=true then a e P else b e P
variable{ob:BG}{X:Cx}{e a b c:Expr}{es:List Expr}{pos:Pos}{f g h:WE}
theorem nE(he:Am ob X e f):DQ ob X e f:=by
 obtain⟨t,ht,h⟩:=he.ex
 exact⟨t,ht,λZ F σ H env P Q K hf k=>h Z F σ H env P Q K hf λx dO v F' H' p s K' r=>k x dO v F' H' p s K' (.inl r)⟩
theorem A3(he:GS ob X e f):Am ob X e f:=by
 obtain⟨t,ht,h⟩:=he.ex
 refine⟨t,ht,λZ F σ H env P Q K hf k=>h Z F σ H env P Q K hf λx dO v F' H' p s hx K'=>?_⟩
 obtain⟨F2,s2,K2,r⟩:=K'.G7 hx
 exact k x dO v F2 H' p (aj s s2) K2 r
theorem fj(hp:PE X e (tC v))(hr:∀F,Rep X.K F v x):Am ob X e (eC x) :=
 ⟨_,hp,λZ F σ H env P Q K hf k=>k x env v F H hf aq K (hr F)⟩
theorem af{i j}:Am ob X (.Constant (.int i) j pos) (eC (.int i)):=fj aJ λ_=>.int i
theorem cz{i j}:Am ob X (.Constant (.bool i) j pos) (eC (.bl i)):=fj zt λ_=>.bl i
theorem fe{j}:Am ob X (.Constant .none j pos) (eC .rW):=fj yp λ_=>.rW
theorem bb{i j}:Am ob X (.Constant (.str i) j pos) (eC (.str i)):=fj yl λ_=>.str i
theorem y8(i:Nat){x:Str}(hp:PE X (.Name x pos) (AR i)):Am ob X (.Name x pos) (eV i):=by
 refine⟨_,hp,λZ F σ H env P Q K hf k=>?_⟩
 unfold eV at hf
 split at hf
 ·rename_i y hy
  obtain⟨v,hv,r⟩:=K.val hy
  exact⟨v,hv,k _ _ v F H hf aq K r⟩
 ·rename_i y hy
  obtain⟨F',v,hv,s,K',r⟩:=K.freeze hy (λ_=>by simp)
  exact⟨v,hv,k _ _ v F' H hf s K' r⟩
 ·rename_i y hy
  obtain⟨F',v,hv,s,K',r⟩:=K.freeze hy (λ_=>by simp)
  exact⟨v,hv,k _ _ v F' H hf s K' r⟩
 ·exact hf.elim
theorem xu(i:Nat){x:Str}(hp:PE X (.Name x pos) (AR i)):DQ ob X (.Name x pos) (An i):=by
 refine⟨_,hp,λZ F σ H env P Q K hf k=>?_⟩
 unfold An at hf
 split at hf
 ·rename_i y hy
  obtain⟨v,hv,r⟩:=K.vw hy (by simp)
  exact⟨v,hv,k _ _ v F H hf aq K r⟩
 ·rename_i y hy
  obtain⟨v,hv,r⟩:=K.vw hy (by simp)
  exact⟨v,hv,k _ _ v F H hf aq K r⟩
 ·rename_i y hy
  obtain⟨v,hv,r⟩:=K.vw hy (by simp)
  exact⟨v,hv,k _ _ v F H hf aq K r⟩
 ·exact hf.elim
theorem ae:FQ ob X [] bY:=⟨_,bN,λZ F σ H env P Q K hf k=>k [] env [] F H hf rfl aq K .nil⟩
variable{fa:WA}
theorem aa(he:Am ob X e f)(hr:FQ ob X es fa)(hs:aam (e::es) X.env=(false,eval e X.env)::aam es X.env:=by rfl):FQ ob X (e::es) (aS f fa):=by
 obtain⟨t,ht,h⟩:=he.ex
 obtain⟨u,hu,g⟩:=hr.ex
 refine⟨_,bu ht hu hs,λZ F σ H env P Q K hf k=>?_⟩
 refine h Z F σ H env _ _ K hf λx e1 v F1 H1 p s1 K1 r1=>?_
 refine g Z F1 σ H1 e1 _ _ K1 p λxs e2 vs F2 H2 p2 hl s2 K2 r2=>?_
 exact k (x::xs) e2 (v::vs) F2 H2 p2 (by simp[hl]) (aj s1 s2) K2 (.cons (r1.mono s2) r2)
theorem av{x1}(ha:FQ ob X es fa)(hn:es.length<=1000:=by decide):Am ob X (.Tuple es x1 pos) (zN fa):=by
 obtain⟨t,ht,h⟩:=ha.ex
 refine⟨_,yk ht,λZ F σ H env P Q K hf k=>?_⟩
 refine h Z F σ H env _ _ K hf λxs e1 vs F1 H1 p hl s1 K1 r1=>⟨?_,λq hq=>?_⟩
 ·rw[r1.len,hl,aaz];omega
 ·have hF:F1 q=none:=eQ.none_of K1.sF hq
  exact k _ e1 _ _ _ p (aj s1 (az hF)) (K1.lay hq) (.tup (.inl (.inl ao)) (r1.mono (az hF)))
theorem bo(ha:FQ ob X es fa)(hn:es.length<=1000:=by decide):GS ob X (.List es pos) (BK fa):=by
 obtain⟨t,ht,h⟩:=ha.ex
 refine⟨_,lg ht,λZ F σ H env P Q K hf k=>?_⟩
 refine h Z F σ H env _ _ K hf λxs e1 vs F1 H1 p hl s1 K1 r1=>⟨?_,λq hq=>?_⟩
 ·rw[r1.len,hl,aaz];omega
 ·exact k _ e1 _ _ _ p s1 (λ_=>by simp) (K1.own hq ⟨vs,ao,r1⟩)
def Dr(ob:BG)(X:Cx)(r:R2)(g:PV->PV->Option PV):Prop :=
 ∀(Z:Zn) (F:Hp) (σ:St) (H:Hp) (env:En) (v u:V) (x y z:PV) (Q:VK),zW (md ob X) Z F σ H env->Vw (md ob X) F H v x->Vw (md ob X) F H u y->g x y=some z ->
  (∀v' F' H',eQ F F'->zW (md ob X) Z F' σ H' env->Rep X.K F' v' z->Q v' H')->r v u H Q
def N6(ob:BG)(X:Cx)(r:R2)(g:PV->PV->Option PV):Prop :=
 ∀(Z:Zn) (F:Hp) (σ:St) (H:Hp) (env:En) (v u:V) (x y z:PV) (Q:VK),zW (md ob X) Z F σ H env->Rep X.K F v x->Vw (md ob X) F H u y->g x y=some z ->
  (∀v' F' H',eQ F F'->zW (md ob X) Z F' σ H' env->Rep X.K F' v' z->Q v' H')->r v u H Q
variable{r:R2}
theorem Ov{o:PV->PV->Option PV}(h:Dr ob X r o):N6 ob X r o:=λZ F σ H env v u x y z Q K rx ry=>h Z F σ H env v u x y z Q K (.inl rx) ry
variable{tb:TE}
theorem jj{o:PV->PV->Option PV}{ta:TE}(hq:N6 ob X r o)
  (ha:∀(Z:Zn) (F:Hp) (σ:St) (H:Hp) (env:En) (P:PV->En->Prop) (Q:VK),zW (md ob X) Z F σ H env->f env P->(∀x dO v F' H',P x dO->eQ F F'->zW (md ob X) Z F' σ H' dO->Rep X.K F' v x->Q v H')->ta σ H Q)
  (hb:∀(Z:Zn) (F:Hp) (σ:St) (H:Hp) (env:En) (P:PV->En->Prop) (Q:VK),zW (md ob X) Z F σ H env->g env P->(∀x dO v F' H',P x dO->eQ F F'->zW (md ob X) Z F' σ H' dO->Vw (md ob X) F' H' v x->Q v H')->tb σ H Q) :
  ∀(Z:Zn) (F:Hp) (σ:St) (H:Hp) (env:En) (P:PV->En->Prop) (Q:VK),zW (md ob X) Z F σ H env->iN o f g env P->(∀x dO v F' H',P x dO->eQ F F'->zW (md ob X) Z F' σ H' dO->Rep X.K F' v x->Q v H')->DB r ta tb σ H Q:=by
 intro Z F σ H env P Q K hf k
 refine ha Z F σ H env _ _ K hf λx e1 v F1 H1 p s1 K1 r1=>?_
 refine hb Z F1 σ H1 e1 _ _ K1 p λy e2 u F2 H2 p2 s2 K2 r2=>?_
 obtain⟨z,ez,p3⟩:=p2
 exact hq Z F2 σ H2 e2 v u x y z Q K2 (r1.mono s2) r2 ez λv' F' H' s3 K3 r3=>k z e2 v' F' H' p3 (aj s1 (aj s2 s3)) K3 r3
theorem uG{o:PV->PV->Option PV}(hq:Dr ob X r o)
  (hb:∀(Z:Zn) (F:Hp) (σ:St) (H:Hp) (env:En) (P:PV->En->Prop) (Q:VK),zW (md ob X) Z F σ H env->g env P->(∀x dO v F' H',P x dO->eQ F F'->zW (md ob X) Z F' σ H' dO->Vw (md ob X) F' H' v x->Q v H')->tb σ H Q) :
  ∀(Z:Zn) (F:Hp) (σ:St) (H:Hp) (env:En) (P:PV->En->Prop) (Q:VK),zW (md ob X) Z F σ H env->Cm o i g env P->(∀x dO v F' H',P x dO->eQ F F'->zW (md ob X) Z F' σ H' dO->Rep X.K F' v x->Q v H')->DB r (AR i) tb σ H Q:=by
 intro Z F σ H env P Q K hf k
 obtain⟨hd,hf⟩:=hf
 obtain⟨v,hv⟩:∃v,σ[i]?=some (some v):=by
  cases e:env[i]? with
  |none=>rw[e]at hd;cases hd
  |some w=>
   cases w with
   |none=>rw[e]at hd;cases hd
   |some s=>
    obtain⟨fp,L⟩:=K.sl
    obtain⟨v,hv,_⟩:=L.at' i s e
    exact⟨v,hv⟩
 refine⟨v,hv,hb Z F σ H env _ _ K hf λy e2 u F2 H2 p2 s2 K2 r2=>?_⟩
 unfold An at p2
 have fin:∀(s:Sl),(s.k≠2/\s.k≠4)->e2[i]?=some (some s)->opt (o s.v y) (λz=>P z e2)->r v u H2 Q:=λs hk hs ⟨z,ez,p3⟩=>by
  obtain⟨v',Nu,rv⟩:=K2.vw hs hk
  rw[hv]at Nu;cases Nu
  exact hq Z F2 σ H2 e2 v u s.v y z Q K2 rv r2 ez λv' F' H' s3 K3 r3=>k z e2 v' F' H' p3 (aj s2 s3) K3 r3
 split at p2
 ·rename_i hy;exact fin _ (by simp) hy p2
 ·rename_i hy;exact fin _ (by simp) hy p2
 ·rename_i hy;exact fin _ (by simp) hy p2
 ·exact p2.elim
end Q
namespace Q
open PySem L2 PyProof.Rows
def A4(kvs:List (Key×PV))(k:Key):Option PV:=(kvs.find? λkv=>decide (kv.1=k)).map (·.2)
def B6(kvs:List (Key×PV))(k:Key)(v:PV):List (Key×PV) :=
 if (kvs.any λkv=>decide (kv.1=k))=true then kvs.map (λkv=>if kv.1=k then (kv.1,v)else kv)else kvs++[(k,v)]
def D5:PV->Option Key
 |.int i=>some (.inl i)
 |.str s=>some (.inr s)
 |_=>none
variable{K:aah}{F:Hp}
variable{k:Key}{vs:List (Key×V)}{xs:List (Key×PV)}
theorem zK.val(h:zK K F vs xs):(B0 vs k=none/\A4 xs k=none)\/∃v x,B0 vs k=some v/\A4 xs k=some x/\Rep K F v x:=by
 induction h using zK.ind with
 |nil=>exact .inl ⟨rfl,rfl⟩
 |@cons k' v x vs xs h _ ih=>
  by_cases e:k'=k
  ·exact .inr ⟨v,x,gI e,by simp[A4,abx,e],h⟩
  ·rw[gJ (p:=(k',v)) e]
   have e2:A4 ((k',x)::xs) k=A4 xs k:=by simp[A4,abx,e]
   rw[e2]
   exact ih
theorem zK.any(h:zK K F vs xs):(vs.any λkv=>decide (kv.1=k))=xs.any λkv=>decide (kv.1=k):=by
 induction h using zK.ind with
 |nil=>rfl
 |cons _ _ ih=>exact congrArg (_ || ·) ih
theorem zK.app{ws:List (Key×V)}{ys:List (Key×PV)}(h:zK K F vs xs)(k:zK K F ws ys):zK K F (vs++ws) (xs++ys):=by
 induction h using zK.ind with
 |nil=>exact k
 |cons a _ ih=>exact .cons a ih
variable{v:V}{x:PV}
theorem zK.Le(hv:Rep K F v x)(h:zK K F vs xs):zK K F (vs.map λkv=>if kv.1=k then (kv.1,v)else kv) (xs.map λkv=>if kv.1=k then (kv.1,x)else kv):=by
 induction h using zK.ind with
 |nil=>exact .nil
 |@cons k' v' x' vs xs a _ ih=>
  rw[aap,aap]
  dsimp only
  by_cases e:k'=k
  ·rw[if_pos e,if_pos e];exact .cons hv ih
  ·rw[if_neg e,if_neg e];exact .cons a ih
theorem zK.put(h:zK K F vs xs)(hv:Rep K F v x):zK K F (putK vs k v) (B6 xs k x):=by
 unfold putK B6
 rw[h.any]
 split
 ·exact h.Le hv
 ·exact h.app (.cons hv .nil)
theorem mq(h:D5 x=some k)(r:Rep K F v x):v=kV k:=by
 cases r<;>cases h<;>rfl
def iF:PV->PV->Option PV
 |.tup xs,.int i=>GL xs i
 |.lst xs,.int i=>GL xs i
 |.str s,.int i=>if s.length<=100000 then (GL s.cps.toList i).map λc=>.str ⟨#[c]⟩else none
 |.Av kvs,y=>(D5 y).bind (A4 kvs)
 |_,_=>none
def MN:R2:=λx y H Q=>∃a v,x=.ref a/\GV H a y (some v)/\Q v H
variable{ob:BG}{X:Cx}{a b c e:Expr}{f g h:WE}{pos:Pos}
theorem xl(hu:X.A.units+1<cLine):IH X MN:=by
 intro value slice pins s σ H x y v u Q I rx ry h hs
 obtain⟨a,z,rfl,g,q⟩:=h
 cases rx
 exact tail_any (pT I g) PySem.F.slot_dict_getitem.lookup (tK hu I g ry λw' s3 I3 Du=>⟨z,H,I3,Du,q⟩) hs
def MO(K:aah):R2:=λx y H Q=>RH K x y H Q\/MN x y H Q
theorem sM(hu:X.A.units+1<cLine):IH X (MO X.K):=Li.or (xl hu)
variable{i:Int}
theorem qF{vs:List V}{xs:List PV}{z:PV}(r:zL K F vs xs)(h:GL xs i=some z):∃v,GL vs i=some v/\Rep K F v z:=by
 unfold GL at h⊢
 rw[r.len]
 cases e:IQ xs.length i with
 |none=>rw[e]at h;cases h
 |some j=>
  rw[e]at h
  exact r.get h
variable{M:Md}{H:Hp}
theorem HG(h:Vw M F H v x)(hk:D5 x=some k):v=kV k:=by
 cases x<;>try cases hk
 ·exact h.int
 ·exact h.str
theorem HY:Dr ob X (MO X.K) iF:=by
 intro Z F σ H env v u x y z Q K rx ry hz k
 unfold iF at hz
 split at hz
 ·obtain⟨p,vs,rfl,h1,h2⟩:=rx.tup K.sF
  rw[ry.int]
  obtain⟨w,e1,e2⟩:=qF h2 hz
  exact .inl (.inr (.inl ⟨p,vs,_,w,rfl,rfl,h1,e1,k w F H aq K e2⟩))
 ·obtain⟨p,vs,rfl,h1,h2⟩:=rx.lst K.sF
  rw[ry.int]
  obtain⟨w,e1,e2⟩:=qF h2 hz
  exact .inl (.inl ⟨p,vs,_,w,rfl,rfl,.inl (.inl h1),e1,k w F H aq K e2⟩)
 ·rename_i s i
  split at hz
  ·rename_i hl
   rw[rx.str,ry.int]
   cases e:GL s.cps.toList i with
   |none=>rw[e]at hz;cases hz
   |some c=>
    rw[e]at hz;cases hz
    exact .inl (.inr (.inr ⟨s,i,c,rfl,rfl,by rw[aaz];omega,e,k _ F H aq K (.str _)⟩))
  ·cases hz
 ·rename_i kvs
  obtain⟨p,vs,rfl,h1,h2⟩:=rx.Av K.sF
  cases e:D5 y with
  |none=>rw[e]at hz;cases hz
  |some kk=>
   rw[e]at hz
   have hz:A4 kvs kk=some z:=hz
   rw[HG ry e]
   rcases h2.val (k:=kk)with ⟨_,e2⟩|⟨w,w',e1,e2,e3⟩
   ·rw[e2]at hz;cases hz
   ·rw[e2]at hz;cases hz
    refine .inr ⟨p,w,rfl,?_,k w F H aq K e3⟩
    rw[<- e1];exact RR h1
 ·cases hz
theorem zC(hu:X.A.units+1<cLine)(ha:Am ob X a f)(hb:DQ ob X b g)(hs:gG b:=by exact λ_ _=>rfl):Am ob X (.Subscript a b pos) (iN iF f g):=by
 obtain⟨ta,ha,ka⟩:=ha.ex
 obtain⟨tb,hb,kb⟩:=hb.ex
 exact⟨_,bU (sM hu) ha hb hs,jj (Ov HY) ka kb⟩
variable{p:Pos}
theorem y9(i:Nat){x:Str}(hu:X.A.units+1<cLine)(ha:PE X (.Name x p) (AR i))(hb:DQ ob X b g)(hs:gG b:=by exact λ_ _=>rfl):Am ob X (.Subscript (.Name x p) b pos) (Cm iF i g):=by
 obtain⟨tb,hb,kb⟩:=hb.ex
 exact⟨_,bU (sM hu) ha hb hs,uG HY kb⟩
variable{r r':R2}
theorem AK.or{fn:Value->Value->Sem Value}(h:AK X fn r)(h':AK X fn r'):AK X fn (λx y H Q=>r x y H Q\/r' x y H Q):=by
 intro pins s σ H x y v u Q I rx ry q
 rcases q with q|q
 ·exact h pins s σ H x y v u Q I rx ry q
 ·exact h' pins s σ H x y v u Q I rx ry q
def zR:PV->PV->Option PV
 |.int i,.int j=>some (.int (i+j))
 |.str s,.str t=>if s.length+t.length<=100000 then some (.str (s++t))else none
 |.tup xs,.tup ys=>if xs.length+ys.length<=100000 then some (.tup (xs++ys))else none
 |.lst xs,.lst ys=>if xs.length+ys.length<=100000 then some (.lst (xs++ys))else none
 |_,_=>none
theorem Vw.HH{xs:List PV}(h:Vw M F H v (.tup xs)):Rep M.K F v (.tup xs):=by
 rcases h with h|⟨a,rfl,h⟩
 ·exact h
 ·exact h.elim
def J1(K:aah):R2:=λx y H Q=>((Gj λi j=>.int (i+j)) x y H Q\/∃i j,x=.str i/\y=.str j/\i.length+j.length<=sizeLine/\Q (.str (i++j)) H)\/(J0 K x y H Q\/MS x y H Q)
theorem wV:AK X (acq .Add) (J1 X.K):=AK.or (AK.or iP qS) (AK.or wT yA)
theorem wQ:Dr ob X (J1 X.K) zR:=by
 intro Z F σ H env v u x y z Q K rx ry hz k
 unfold zR at hz
 split at hz
 ·cases hz
  rw[rx.int,ry.int]
  exact .inl (.inl ⟨_,_,rfl,rfl,k _ F H aq K (.int _)⟩)
 ·split at hz
  ·cases hz
   rw[rx.str,ry.str]
   exact .inl (.inr ⟨_,_,rfl,rfl,by rw[aaz];omega,k _ F H aq K (.str _)⟩)
  ·cases hz
 ·rename_i xs ys
  split at hz
  ·cases hz
   obtain⟨p,vs,rfl,h1,h2⟩:=rx.tup K.sF
   obtain⟨q,ws,rfl,g1,g2⟩:=ry.tup K.sF
   have hl:=h2.len
   have gl:=g2.len
   refine .inr (.inl ⟨p,q,vs,ws,rfl,rfl,h1,g1,by rw[aaz];omega,?_⟩)
   refine⟨λe=>k _ F H aq K ?_,λe=>k _ F H aq K ?_,λr hr=>?_⟩
   ·subst e
    have:xs=[]:=List.length_eq_zero_iff.mp hl.symm
    subst this
    exact ry.HH
   ·subst e
    have:ys=[]:=List.length_eq_zero_iff.mp gl.symm
    subst this
    rw[aby]
    exact rx.HH
   ·have hF:F r=none:=eQ.none_of K.sF hr
    exact k _ _ _ (az hF) (K.lay hr) (.tup (.inl (.inl ao)) ((h2.app g2).mono (az hF)))
  ·cases hz
 ·rename_i xs ys
  split at hz
  ·cases hz
   obtain⟨p,vs,rfl,h1,h2⟩:=rx.lst K.sF
   obtain⟨q,ws,rfl,g1,g2⟩:=ry.lst K.sF
   have hl:=h2.len
   have gl:=g2.len
   refine .inr (.inr ⟨p,q,vs,ws,rfl,rfl,h1,g1,by rw[aaz];omega,λr hr=>?_⟩)
   have hF:F r=none:=eQ.none_of K.sF hr
   exact k _ _ _ (az hF) (K.lay hr) (.lst ao ((h2.app g2).mono (az hF)))
  ·cases hz
 ·cases hz
variable{o:PV->PV->Option PV}
theorem gB{op:Operator}(hr:AK X (acq op) r)(hq:Dr ob X r o)(ha:Am ob X a f)(hb:DQ ob X b g):Am ob X (.BinOp a op b pos) (iN o f g):=by
 obtain⟨ta,ha,ka⟩:=ha.ex
 obtain⟨tb,hb,kb⟩:=hb.ex
 exact⟨_,bK hr ha hb,jj (Ov hq) ka kb⟩
theorem aD(ha:Am ob X a f)(hb:DQ ob X b g):Am ob X (.BinOp a .Add b pos) (iN zR f g):=gB wV wQ ha hb
def iI(C:Int->Int->Bool)(h:Int->Int->Int):PV->PV->Option PV
 |.int i,.int j=>if C i j=true then some (.int (h i j))else none
 |_,_=>none
theorem jk{C:Int->Int->Bool}{D:Int->Int->Prop}{h:Int->Int->Int}(hC:∀i j,C i j=true->D i j):Dr ob X (rI D λi j=>.int (h i j)) (iI C h):=by
 intro Z F σ H env v u x y z Q K rx ry hz k
 unfold iI at hz
 split at hz
 ·split at hz
  ·rename_i hc
   cases hz
   rw[rx.int,ry.int]
   exact⟨_,_,rfl,rfl,hC _ _ hc,k _ F H aq K (.int _)⟩
  ·cases hz
 ·cases hz
def Ca:=iI (λ_ _=>true) λi j=>i - j
def LS(i j:Int):Bool:=(decide (-(2 ^ 64)<i) && decide (i<2 ^ 64)) || (decide (-(2 ^ 64)<j) && decide (j<2 ^ 64))
def BV:PV->PV->Option PV
 |.int i,.int j=>if LS i j=true then some (.int (i*j))else none
 |.str s,.int i=>if 0<=i/\i<=1000/\s.length<=1000 then some (.str (DE s i.toNat))else none
 |.lst xs,.int i=>if -1000<=i/\i<=1000/\xs.length<=1000 then some (.lst (aaK i.toNat xs).flatten)else none
 |_,_=>none
def CZ:=iI (λ_ j=>decide (0<j)) λi j=>i % j
def G9:=iI (λ_ j=>decide (0<j) && decide (j<1073741824)) λi j=>i / j
def D0:=iI (λi j=>decide (0<=j) && decide (j<=1000000) && decide (i.natAbs<2 ^ 64)) λi j=>i ^ j.toNat
theorem wR:AK X (acq .Sub) (rI (λ_ _=>True) λi j=>.int (i - j)):=by
 intro pins s σ H x y v u Q I rx ry h
 obtain⟨i,j,e1,e2,_,q⟩:=h
 exact yu pins s σ H x y v u Q I rx ry ⟨i,j,e1,e2,q⟩
theorem cW(ha:Am ob X a f)(hb:DQ ob X b g):Am ob X (.BinOp a .Sub b pos) (iN Ca f g):=gB wR (jk λ_ _ _=>trivial) ha hb
theorem fg(ha:Am ob X a f)(hb:DQ ob X b g):Am ob X (.BinOp a .Mod b pos) (iN CZ f g):=gB eU (jk λ_ _ h=>of_decide_eq_true h) ha hb
theorem tB(ha:Am ob X a f)(hb:DQ ob X b g):Am ob X (.BinOp a .FloorDiv b pos) (iN G9 f g):=gB lZ (jk λ_ _ h=>by simp at h;exact h) ha hb
theorem oX(ha:Am ob X a f)(hb:DQ ob X b g):Am ob X (.BinOp a .Pow b pos) (iN D0 f g):=gB oB (jk λ_ _ h=>by simp at h;exact⟨h.1.1,h.1.2,h.2⟩) ha hb
theorem zL.rep{vs:List V}{xs:List PV}(r:zL K F vs xs):∀n:Nat,zL K F (aaK n vs).flatten (aaK n xs).flatten
 |0=>.nil
 |n+1=>by
  rw[abq,abq,ab2,ab2]
  exact r.app (r.rep n)
theorem wP:Dr ob X (λx y H Q=>(rI Hv λi j=>.int (i*j)) x y H Q\/(JX x y H Q\/MI x y H Q)) BV:=by
 intro Z F σ H env v u x y z Q K rx ry hz k
 unfold BV at hz
 split at hz
 ·split at hz
  ·rename_i hc
   cases hz
   rw[rx.int,ry.int]
   refine .inl ⟨_,_,rfl,rfl,?_,k _ F H aq K (.int _)⟩
   unfold LS at hc
   simp at hc
   exact hc
  ·cases hz
 ·split at hz
  ·rename_i hc
   cases hz
   rw[rx.str,ry.int]
   exact .inr (.inl ⟨_,_,rfl,rfl,hc.1,hc.2.1,hc.2.2,k _ F H aq K (.str _)⟩)
  ·cases hz
 ·rename_i xs i
  split at hz
  ·rename_i hc
   cases hz
   obtain⟨p,vs,rfl,h1,h2⟩:=rx.lst K.sF
   rw[ry.int]
   have hl:=h2.len
   refine .inr (.inr ⟨p,i,vs,rfl,rfl,h1,by omega,by omega,?_,λr hr=>?_⟩)
   ·rw[aaz]
    have h3:i.toNat<=1000:=by omega
    have h4:vs.length<=1000:=by omega
    calc vs.length*i.toNat<=1000*1000:=Nat.mul_le_mul h4 h3
     _<=16777216:=by decide
   ·have hF:F r=none:=eQ.none_of K.sF hr
    exact k _ _ _ (az hF) (K.lay hr) (.lst ao ((h2.rep _).mono (az hF)))
  ·cases hz
 ·cases hz
theorem gA(ha:Am ob X a f)(hb:DQ ob X b g):Am ob X (.BinOp a .Mult b pos) (iN BV f g):=gB (AK.or lj (AK.or wS yw)) wP ha hb
def M7:PV->Option PV
 |.int i=>some (.int (-i))
 |_=>none
variable{op:CmpOp}
theorem za(hr:AK X (aaV op) r)(hq:Dr ob X r o)(ha:Am ob X a f)(hb:DQ ob X b g)(hm:acG op b=false):Am ob X (.Compare a [op] [b] pos) (iN o f g):=by
 obtain⟨ta,ha,ka⟩:=ha.ex
 obtain⟨tb,hb,kb⟩:=hb.ex
 exact⟨_,qg hr ha hb hm,jj (Ov hq) ka kb⟩
theorem zb{o:PV->PV->Option PV}(he:∃t,PE X (.Compare a [op] [b] pos) t/\PT X (.Compare a [op] [b] pos) (GY t)/\∀(Z:Zn) (F:Hp) (σ:L2.St) (H:Hp) (env:En) (P:PV->En->Prop) (Q:VK),zW (md ob X) Z F σ H env->f env P->(∀x dO v F' H',P x dO->eQ F F'->zW (md ob X) Z F' σ H' dO->Rep X.K F' v x->Q v H')->t σ H Q):GR ob X (.Compare a [op] [b] pos) (zO f):=by
 obtain⟨t,_,ht,h⟩:=he
 refine⟨_,ht,λZ F σ H env P Q K hf k=>h Z F σ H env _ _ K hf λx e1 v F1 H1 p s1 K1 r1=>?_⟩
 obtain⟨z,hz,p⟩:=p
 cases x<;>try (cases hz)
 cases r1
 exact⟨_,rfl,k _ e1 F1 H1 p s1 K1⟩
theorem xA(hr:AK X (aaV op) r)(hq:Dr ob X r o)(ha:Am ob X a f)(hb:DQ ob X b g)(hm:acG op b=false):GR ob X (.Compare a [op] [b] pos) (zO (iN o f g)):=by
 obtain⟨ta,ha,ka⟩:=ha.ex
 obtain⟨tb,hb,kb⟩:=hb.ex
 exact zb (o:=o) ⟨_,qg hr ha hb hm,gf hr ha hb hm,jj (Ov hq) ka kb⟩
theorem bV{P:V->V->Hp->V->Prop}(h:∀(F H:Hp) (v u:V) (x y z:PV),eQ F H->Vw (md ob X) F H v x->Vw (md ob X) F H u y->o x y=some z->∃w,(∀F,Rep X.K F w z)/\∀Q:VK,Q w H->r v u H Q):Dr ob X r o:=by
 intro Z F σ H env v u x y z Q K rx ry hz k
 obtain⟨w,h1,h2⟩:=h F H v u x y z K.sF rx ry hz
 exact h2 Q (k w F H aq K (h1 F))
def Ew:PV->PV->Option PV
 |.int i,.int j=>some (.bl (decide (i<j)))
 |.str s,.str t=>some (.bl (decide (Ai s t)))
 |_,_=>none
def Gp:PV->PV->Option PV
 |.int i,.int j=>some (.bl (decide (i<=j)))
 |.str s,.str t=>some (.bl (!decide (Ai t s)))
 |_,_=>none
def Iv:PV->PV->Option PV
 |.int i,.int j=>some (.bl (decide (j<i)))
 |_,_=>none
theorem gh:Dr ob X (λx y H Q=>(Gj λi j=>.bl (decide (i<j))) x y H Q\/∃i j,x=.str i/\y=.str j/\Q (.bl (decide (i.cps.toList<j.cps.toList))) H) Ew:=by
 refine bV (P:=λ_ _ _ _=>True) λF H v u x y z sF rx ry hz=>?_
 unfold Ew at hz
 split at hz
 ·cases hz
  rw[rx.int,ry.int]
  exact⟨_,λ_=>.bl _,λQ q=>.inl ⟨_,_,rfl,rfl,q⟩⟩
 ·cases hz
  rw[rx.str,ry.str]
  exact⟨_,λ_=>.bl _,λQ q=>.inr ⟨_,_,rfl,rfl,q⟩⟩
 ·cases hz
theorem li:Dr ob X (λx y H Q=>(Gj λi j=>.bl (decide (i<=j))) x y H Q\/∃i j,x=.str i/\y=.str j/\Q (.bl (!decide (j.cps.toList<i.cps.toList))) H) Gp:=by
 refine bV (P:=λ_ _ _ _=>True) λF H v u x y z sF rx ry hz=>?_
 unfold Gp at hz
 split at hz
 ·cases hz
  rw[rx.int,ry.int]
  exact⟨_,λ_=>.bl _,λQ q=>.inl ⟨_,_,rfl,rfl,q⟩⟩
 ·cases hz
  rw[rx.str,ry.str]
  exact⟨_,λ_=>.bl _,λQ q=>.inr ⟨_,_,rfl,rfl,q⟩⟩
 ·cases hz
theorem so:Dr ob X (Gj λi j=>.bl (decide (j<i))) Iv:=by
 refine bV (P:=λ_ _ _ _=>True) λF H v u x y z sF rx ry hz=>?_
 unfold Iv at hz
 split at hz
 ·cases hz
  rw[rx.int,ry.int]
  exact⟨_,λ_=>.bl _,λQ q=>⟨_,_,rfl,rfl,q⟩⟩
 ·cases hz
theorem ji:AK X (aaV .Lt) (λx y H Q=>(Gj λi j=>.bl (decide (i<j))) x y H Q\/∃i j,x=.str i/\y=.str j/\Q (.bl (decide (i.cps.toList<j.cps.toList))) H):=AK.or zv su
theorem nO:AK X (aaV .LtE) (λx y H Q=>(Gj λi j=>.bl (decide (i<=j))) x y H Q\/∃i j,x=.str i/\y=.str j/\Q (.bl (!decide (j.cps.toList<i.cps.toList))) H):=AK.or zw sv
def EZ:PV->Bool
 |.rW=>true
 |_=>false
def Jr:PV->PV->Option PV
 |x,.rW=>some (.bl (EZ x))
 |.bl a,.bl b=>some (.bl (a==b))
 |_,_=>none
theorem xR(h:Vw M F H v x):decide (v=V.rW)=EZ x:=by
 rcases h with h|⟨a,rfl,h⟩
 ·cases h<;>simp[EZ]
 ·cases x<;>first|exact h.elim|simp[EZ]
theorem sk:Dr ob X (λx y H Q=>(y=.rW/\Q (.bl (decide (x=.rW))) H)\/∃a b,x=.bl a/\y=.bl b/\Q (.bl (a==b)) H) Jr:=by
 refine bV (P:=λ_ _ _ _=>True) λF H v u x y z sF rx ry hz=>?_
 unfold Jr at hz
 split at hz
 ·cases hz
  rw[ry.rW]
  refine⟨_,λ_=>.bl _,λQ q=>.inl ⟨rfl,?_⟩⟩
  rw[xR rx];exact q
 ·cases hz
  rw[rx.bl,ry.bl]
  exact⟨_,λ_=>.bl _,λQ q=>.inr ⟨_,_,rfl,rfl,q⟩⟩
 ·cases hz
theorem vI:AK X (aaV .Is) (λx y H Q=>(y=.rW/\Q (.bl (decide (x=.rW))) H)\/∃a b,x=.bl a/\y=.bl b/\Q (.bl (a==b)) H):=AK.or yy yz
def HI:PV->Option Bool
 |.rW=>some false
 |.bl b=>some b
 |.int i=>some (i != 0)
 |.str s=>if s.length<=100000 then some ((s.length:Int) != 0)else none
 |.tup xs=>some (!xs.isEmpty)
 |.lst xs=>some (!xs.isEmpty)
 |.Av xs=>some (!xs.isEmpty)
 |_=>none
def BS(a:WE):WT:=λenv P=>a env λx e=>opt (HI x) λb=>P b e
theorem bp(he:DQ ob X e f)(h:∀whole,isTrue e X.env whole=(do let v <- whole;standAt e.pos;ad3 [v] (truthy v)):=by intro _;rfl):GR ob X e (BS f):=by
 obtain⟨t,ht,k0⟩:=he.ex
 refine⟨_,uf ht h,λZ F σ H env P Q K hf k=>k0 Z F σ H env _ _ K hf λx e1 v F1 H1 p s1 K1 r1=>?_⟩
 obtain⟨z,hz,p⟩:=p
 refine⟨z,?_,k _ e1 F1 H1 p s1 K1⟩
 have Q8:∀{α β:Type} {l:List α} {m:List β},l.length=m.length->l.isEmpty=m.isEmpty:=λ{α β l m} h=>by
  cases l<;>cases m<;>simp at h⊢
 cases x<;>simp only[HI]at hz
 ·cases hz;rw[r1.rW];rfl
 ·cases hz;rw[r1.bl];rfl
 ·cases hz;rw[r1.int];rfl
 ·split at hz
  ·cases hz;rw[r1.str];exact⟨by rw[aaz];omega,rfl⟩
  ·cases hz
 ·cases hz
  obtain⟨p,vs,rfl,h1,h2⟩:=r1.tup K1.sF
  exact .inr (.inl ⟨vs,h1,by rw[Q8 h2.len]⟩)
 ·cases hz
  obtain⟨p,vs,rfl,h1,h2⟩:=r1.lst K1.sF
  exact .inl ⟨vs,.inl (.inl h1),by rw[Q8 h2.len]⟩
 ·cases hz
  obtain⟨p,vs,rfl,h1,h2⟩:=r1.Av K1.sF
  exact .inr (.inr ⟨vs,h1,by rw[Q8 h2.len]⟩)
 ·cases hz
 ·cases hz
variable{t u:WT}{rest:List Expr}
theorem cr(h:LY ob X e t):GR ob X e t:=by
 obtain⟨w,hw,k⟩:=h.ex
 exact⟨w,hw.pt,k⟩
theorem cN(h:GR ob X a t):LY ob X (.BoolOp .And [a] pos) t:=by
 obtain⟨w,hw,k⟩:=h.ex
 exact⟨w,pw_and1 hw,k⟩
theorem dL(h:GR ob X a t):LY ob X (.BoolOp .Or [a] pos) t:=by
 obtain⟨w,hw,k⟩:=h.ex
 exact⟨w,pw_or1 hw,k⟩
theorem cY(h:GR ob X a t)(h2:LY ob X (.BoolOp .And (b::rest) pos) u):LY ob X (.BoolOp .And (a::b::rest) pos) (C6 t u):=by
 obtain⟨w,hw,k⟩:=h.ex
 obtain⟨w2,Qk,k2⟩:=h2.ex
 refine⟨_,pw_and hw Qk,λZ F σ H env P Q K hf kk=>k Z F σ H env _ _ K hf λx e1 F1 H1 p s1 K1=>?_⟩
 cases x with
 |true=>exact Ey (k2 Z F1 σ H1 e1 P Q K1 p λx e2 F2 H2 p2 s2 K2=>kk x e2 F2 H2 p2 (aj s1 s2) K2)
 |false=>exact D6 (kk _ e1 F1 H1 p s1 K1)
theorem cn(h:GR ob X a t)(h2:LY ob X (.BoolOp .Or (b::rest) pos) u):LY ob X (.BoolOp .Or (a::b::rest) pos) (Fp t u):=by
 obtain⟨w,hw,k⟩:=h.ex
 obtain⟨w2,Qk,k2⟩:=h2.ex
 refine⟨_,pw_or hw Qk,λZ F σ H env P Q K hf kk=>k Z F σ H env _ _ K hf λx e1 F1 H1 p s1 K1=>?_⟩
 cases x with
 |true=>exact Ey (kk _ e1 F1 H1 p s1 K1)
 |false=>exact D6 (k2 Z F1 σ H1 e1 P Q K1 p λx e2 F2 H2 p2 s2 K2=>kk x e2 F2 H2 p2 (aj s1 s2) K2)
theorem bJ(h:GR ob X a t):GR ob X (.UnaryOp .Not a pos) (B4 t):=by
 obtain⟨w,hw,k⟩:=h.ex
 exact⟨_,yb hw,λZ F σ H env P Q K hf kk=>k Z F σ H env _ _ K hf λx e1 F1 H1 p s1 K1=>kk _ e1 F1 H1 p s1 K1⟩
theorem tz(hc:GR ob X c t)(ha:Am ob X a f)(hb:Am ob X b g):Am ob X (.IfExp c a b pos) (OS t f g):=by
 obtain⟨w,hw,k⟩:=hc.ex
 obtain⟨ta,ha,ka⟩:=ha.ex
 obtain⟨tb,hb,kb⟩:=hb.ex
 refine⟨_,uq hw ha hb,λZ F σ H env P Q K hf kk=>k Z F σ H env _ _ K hf λx e1 F1 H1 p s1 K1=>?_⟩
 cases x with
 |true=>exact Ey (ka Z F1 σ H1 e1 P Q K1 p λx e2 v F2 H2 p2 s2 K2 r2=>kk x e2 v F2 H2 p2 (aj s1 s2) K2 r2)
 |false=>exact D6 (kb Z F1 σ H1 e1 P Q K1 p λx e2 v F2 H2 p2 s2 K2 r2=>kk x e2 v F2 H2 p2 (aj s1 s2) K2 r2)
def ED:PV->Option Bool
 |.bl b=>some b
 |_=>none
def Ee(a b:WE):WE:=λenv P=>a env λx e=>opt (ED x) λk=>if k=true then b e P else P (.bl false) e
def UN(a b:WE):WE:=λenv P=>a env λx e=>opt (ED x) λk=>if k=true then P (.bl true) e else b e P
def JE(a:WE):WE:=λenv P=>a env λx e=>opt (ED x) λk=>P (.bl (!k)) e
theorem dJ{op}(h:Am ob X a f):Am ob X (.BoolOp op [a] pos) f:=by
 obtain⟨t,ht,k⟩:=h.ex
 exact⟨t,yn ht,k⟩
theorem mN{k:Bool}(r:Rep K F v x)(h:ED x=some k):v=.bl k/\x=.bl k:=by
 cases x<;>cases h
 cases r
 exact⟨rfl,rfl⟩
theorem cX(ha:Am ob X a f)(hb:Am ob X (.BoolOp .And (b::rest) pos) g):Am ob X (.BoolOp .And (a::b::rest) pos) (Ee f g):=by
 obtain⟨ta,ha,ka⟩:=ha.ex
 obtain⟨tb,hb,kb⟩:=hb.ex
 refine⟨_,yr ha hb,λZ F σ H env P Q K hf kk=>ka Z F σ H env _ _ K hf λx e1 v F1 H1 p s1 K1 r1=>?_⟩
 obtain⟨z,hz,p⟩:=p
 obtain⟨rfl,rfl⟩:=mN r1 hz
 refine⟨z,rfl,?_⟩
 cases z with
 |true=>exact Ey (kb Z F1 σ H1 e1 P Q K1 p λx e2 v F2 H2 p2 s2 K2 r2=>kk x e2 v F2 H2 p2 (aj s1 s2) K2 r2)
 |false=>exact D6 (kk _ e1 _ F1 H1 p s1 K1 (.bl _))
theorem tw(ha:Am ob X a f):Am ob X (.UnaryOp .Not a pos) (JE f):=by
 obtain⟨ta,ha,ka⟩:=ha.ex
 refine⟨_,yo ha,λZ F σ H env P Q K hf kk=>ka Z F σ H env _ _ K hf λx e1 v F1 H1 p s1 K1 r1=>?_⟩
 obtain⟨z,hz,p⟩:=p
 obtain⟨rfl,rfl⟩:=mN r1 hz
 exact⟨z,rfl,kk _ e1 _ F1 H1 p s1 K1 (.bl _)⟩
def AN:Nat->PV->PV->Option Bool
 |0,_,_=>none
 |d+1,x,y=>match x,y with
  |.rW,.rW=>some true
  |.rW,.bl _=>some false
  |.rW,.int _=>some false
  |.rW,.str _=>some false
  |.bl _,.rW=>some false
  |.bl a,.bl b=>some (a==b)
  |.bl a,.int b=>some ((if a then 1 else 0)==b)
  |.bl _,.str _=>some false
  |.int _,.rW=>some false
  |.int a,.bl b=>some (a==(if b then 1 else 0))
  |.int a,.int b=>some (a==b)
  |.int _,.str _=>some false
  |.str _,.rW=>some false
  |.str _,.bl _=>some false
  |.str _,.int _=>some false
  |.str a,.str b=>some (a==b)
  |.tup xs,.tup ys=>((xs.zip ys).mapM λp=>AN d p.1 p.2).map λbs=>bs.all id && xs.length==ys.length
  |.lst xs,.lst ys=>if xs.length=ys.length then ((xs.zip ys).mapM λp=>AN d p.1 p.2).map λbs=>bs.all id else some false
  |.tup _,.lst _=>some false
  |.lst _,.tup _=>some false
  |.tup _,.rW=>some false
  |.tup _,.bl _=>some false
  |.tup _,.int _=>some false
  |.tup _,.str _=>some false
  |.rW,.tup _=>some false
  |.bl _,.tup _=>some false
  |.int _,.tup _=>some false
  |.str _,.tup _=>some false
  |.lst _,.rW=>some false
  |.lst _,.bl _=>some false
  |.lst _,.int _=>some false
  |.lst _,.str _=>some false
  |.rW,.lst _=>some false
  |.bl _,.lst _=>some false
  |.int _,.lst _=>some false
  |.str _,.lst _=>some false
  |_,_=>none
variable{α β:Type}
theorem bx{f:α->Option β}:∀{l:List α} {m:List β},l.mapM f=some m->m.length=l.length/\∀(i:Nat) (a:α),l[i]?=some a->∃b,m[i]?=some b/\f a=some b
 |[],m,h=>by simp at h;subst h;exact⟨rfl,λi a e=>by simp at e⟩
 |a::l,m,h=>by
  rw[aa8]at h
  cases ea:f a with
  |none=>rw[ea]at h;cases h
  |some b=>
   rw[ea]at h
   cases el:l.mapM f with
   |none=>rw[el]at h;cases h
   |some m'=>
    rw[el]at h
    have h:some (b::m')=some m:=h
    cases h
    obtain⟨h1,h2⟩:=bx el
    refine⟨by simp[h1],λi c e=>?_⟩
    cases i with
    |zero=>simp at e;subst e;exact⟨b,rfl,ea⟩
    |succ i=>simp at e ⊢;exact h2 i c e
theorem zP.Gx:∀{xs:List V} {us:List Value} {i:Nat} {u:Value},zP xs us->us[i]?=some u->∃x,xs[i]?=some x/\RelV x u
 |_,_,_,_,.nil,e=>by simp at e
 |_,_,0,_,.cons r _,e=>by simp at e;subst e;exact⟨_,rfl,r⟩
 |_,_,i+1,x,.cons _ t,e=>by
  obtain⟨u,h1,h2⟩:=zP.Gx (i:=i) (u:=x) t (by simpa using e)
  exact⟨u,by simpa using h1,h2⟩
variable{pins:List (Addr×Obj)}{σ:L2.St}{s:Shared}
variable{ws:List V}
theorem dm(I:Inv X pins σ H s){a:Addr}{vs:List V}(h1:Bs X.K H a vs)(h2:AW X.K H a ws):False:=by
 obtain⟨_,_,⟨o,n,e,c,_⟩,_⟩:=I.list h1
 obtain⟨_,_,⟨o',e',c',_⟩,_⟩:=I.tuple h2
 rw[e]at e';cases e';rw[c]at c';injection c' with c';exact absurd c' (by decide)
theorem ft{e:Nat->Bool}{bs:List Bool}(h:∀j,j<bs.length->bs[j]?=some (e j)):(aaM bs.length).all e=bs.all id:=by
 rw[abt,abW,abW]
 constructor
 ·intro q b hb
  obtain⟨j,hj,rfl⟩:=List.mem_iff_getElem.mp hb
  have:=h j hj
  rw[aab hj]at this
  have q2:=q j (List.mem_range.mpr hj)
  rw[<- aau this]at q2
  exact q2
 ·intro q j hj
  have hj:=List.mem_range.mp hj
  have:=h j hj
  rw[aab hj]at this
  rw[<- aau this]
  exact q _ (abV hj)
theorem nh(I:Inv X pins σ H s)(sF:eQ F H):∀{d:Nat} {v:V} {x y:PV} {k:Bool},Rep X.K F v x->Rep X.K F v y->AN d x y=some k->k=true:=by
 intro d
 induction d with
 |zero=>intro v x y k _ _ h;cases h
 |succ d ih=>
  intro v x y k rx ry h
  have lists:∀{vs:List V} {xs ys:List PV} {bs:List Bool},zL X.K F vs xs->zL X.K F vs ys->(xs.zip ys).mapM (λp=>AN d p.1 p.2)=some bs->bs.all id=true:=λ{vs xs ys bs} r1 r2 hm=>by
   obtain⟨h1,h2⟩:=bx hm
   rw[abW]
   intro b hb
   obtain⟨j,hj,rfl⟩:=List.mem_iff_getElem.mp hb
   have QA:j<(xs.zip ys).length:=by rw[<- h1];exact hj
   obtain⟨b',e1,e2⟩:=h2 j _ (aab QA)
   rw[aab hj]at e1
   cases aau e1
   have hx:xs[j]?=some (xs.zip ys)[j].1:=by
    have:=aab QA
    rw[aaX]at this
    exact this.1
   have hy:ys[j]?=some (xs.zip ys)[j].2:=by
    have:=aab QA
    rw[aaX]at this
    exact this.2
   obtain⟨v1,q1,q2⟩:=r1.get hx
   obtain⟨v2,q3,q4⟩:=r2.get hy
   rw[q1]at q3;cases q3
   exact ih q2 q4 e2
  cases rx with
  |rW=>cases ry;cases h;rfl
  |bl b=>cases ry;cases h;simp
  |int b=>cases ry;cases h;simp
  |str b=>cases ry;cases h;simp
  |tup h1 r1=>
   cases ry with
   |tup h2 r2=>
    have:=I.BR (aw sF h1) (aw sF h2)
    subst this
    replace h:aff (λbs:List Bool=>bs.all id && acb _==acb _) (List.mapM (λp:PV×PV=>AN d p.1 p.2) (List.zip _ _))=some k:=h
    rw[aaD]at h
    obtain⟨bs,hb,e⟩:=h
    rw[<- e,lists r1 r2 hb,<- r1.len,<- r2.len]
    simp
   |lst h2 r2=>exact(dm I (.inl (.inl (sF _ _ h2))) (aw sF h1)).elim
   |Av h2 r2=>cases h
   |BH h2=>cases h
  |lst h1 r1=>
   cases ry with
   |tup h2 r2=>exact(dm I (.inl (.inl (sF _ _ h1))) (aw sF h2)).elim
   |lst h2 r2=>
    rw[h1]at h2;cases h2
    replace h:(if acb _=acb _ then aff (λbs:List Bool=>bs.all id) (List.mapM (λp:PV×PV=>AN d p.1 p.2) (List.zip _ _))else some false)=some k:=h
    rw[if_pos (by rw[<- r1.len,<- r2.len])]at h
    rw[aaD]at h
    obtain⟨bs,hb,e⟩:=h
    rw[<- e,lists r1 r2 hb]
   |Av h2 r2=>cases h
   |BH h2=>cases h
  |Av h1 r1=>cases y<;>cases h
  |BH h1=>cases y<;>cases h
theorem LO(I:Inv X pins σ H s)(sF:eQ F H):∀{d:Nat} {A:Around} {v u:V} {x y:PV} {a b:Value} {k:Bool},A.units+d<cLine->Rep X.K F v x->Rep X.K F u y->RelV v a->RelV u b->AN d x y=some k->SeqAt.RcAt A s a b k/\SeqAt.EqAt A s a b k:=by
 intro d
 induction d with
 |zero=>intro A v u x y a b k _ _ _ _ _ h;cases h
 |succ d ih=>
  intro A v u x y a b k hu rx ry ra rb h
  have Bj:A.units<cLine:=by omega
  cases rx with
  |rW=>
   cases ra
   cases ry with
   |rW=>cases rb;cases h;exact⟨SeqAt.RcAt.none_none,afJ _⟩
   |bl b=>cases rb;cases h;exact⟨SeqAt.RcAt.none_bool b,SeqAt.EqAt.none_bool b⟩
   |int b=>obtain⟨t,rfl⟩:=rb;cases h;exact⟨SeqAt.RcAt.none_int b t,SeqAt.EqAt.none_int b t⟩
   |str b=>obtain⟨t,rfl⟩:=rb;cases h;exact⟨SeqAt.RcAt.none_str b t,SeqAt.EqAt.none_str b t⟩
   |tup h1 r1=>
    cases rb;cases h
    obtain⟨iD,_,p,_⟩:=I.tuple (aw sF h1)
    exact⟨SeqAt.RcAt.none_tuple p Bj,SeqAt.EqAt.none_tuple p Bj⟩
   |lst h1 r1=>
    cases rb;cases h
    obtain⟨iD,_,p,_⟩:=I.list (.inl (.inl (sF _ _ h1)))
    exact⟨SeqAt.RcAt.none_list p.isList Bj,SeqAt.EqAt.none_list p.isList Bj⟩
   |Av=>cases h
   |BH=>cases h
  |bl a=>
   cases ra
   cases ry with
   |rW=>cases rb;cases h;exact⟨SeqAt.RcAt.bool_none a,SeqAt.EqAt.bool_none a⟩
   |bl b=>cases rb;cases h;exact⟨SeqAt.RcAt.bool_bool a b,SeqAt.EqAt.bool_bool a b⟩
   |int b=>obtain⟨t,rfl⟩:=rb;cases h;exact⟨SeqAt.RcAt.bool_int a b t,SeqAt.EqAt.bool_int a b t⟩
   |str b=>obtain⟨t,rfl⟩:=rb;cases h;exact⟨SeqAt.RcAt.bool_str a b t,SeqAt.EqAt.bool_str a b t⟩
   |tup h1 r1=>
    cases rb;cases h
    obtain⟨iD,_,p,_⟩:=I.tuple (aw sF h1)
    exact⟨SeqAt.RcAt.bool_tuple a p Bj,SeqAt.EqAt.bool_tuple a p Bj⟩
   |lst h1 r1=>
    cases rb;cases h
    obtain⟨iD,_,p,_⟩:=I.list (.inl (.inl (sF _ _ h1)))
    exact⟨SeqAt.RcAt.bool_list a p.isList Bj,SeqAt.EqAt.bool_list a p.isList Bj⟩
   |Av=>cases h
   |BH=>cases h
  |int a=>
   obtain⟨t',rfl⟩:=ra
   cases ry with
   |rW=>cases rb;cases h;exact⟨SeqAt.RcAt.int_none a t',SeqAt.EqAt.int_none a t'⟩
   |bl b=>cases rb;cases h;exact⟨SeqAt.RcAt.int_bool a t' b,SeqAt.EqAt.int_bool a t' b⟩
   |int b=>obtain⟨t,rfl⟩:=rb;cases h;exact⟨SeqAt.RcAt.int_int a t' b t,SeqAt.EqAt.int_int a t' b t⟩
   |str b=>obtain⟨t,rfl⟩:=rb;cases h;exact⟨SeqAt.RcAt.int_str a t' b t,SeqAt.EqAt.int_str a t' b t⟩
   |tup h1 r1=>
    cases rb;cases h
    obtain⟨iD,_,p,_⟩:=I.tuple (aw sF h1)
    exact⟨SeqAt.RcAt.int_tuple a t' p Bj,SeqAt.EqAt.int_tuple a t' p Bj⟩
   |lst h1 r1=>
    cases rb;cases h
    obtain⟨iD,_,p,_⟩:=I.list (.inl (.inl (sF _ _ h1)))
    exact⟨SeqAt.RcAt.int_list a t' p.isList Bj,SeqAt.EqAt.int_list a t' p.isList Bj⟩
   |Av=>cases h
   |BH=>cases h
  |str a=>
   obtain⟨t',rfl⟩:=ra
   cases ry with
   |rW=>cases rb;cases h;exact⟨SeqAt.RcAt.str_none a t',SeqAt.EqAt.str_none a t'⟩
   |bl b=>cases rb;cases h;exact⟨SeqAt.RcAt.str_bool a t' b,SeqAt.EqAt.str_bool a t' b⟩
   |int b=>obtain⟨t,rfl⟩:=rb;cases h;exact⟨SeqAt.RcAt.str_int a t' b t,SeqAt.EqAt.str_int a t' b t⟩
   |str b=>obtain⟨t,rfl⟩:=rb;cases h;exact⟨SeqAt.RcAt.str_str a t' b t,SeqAt.EqAt.str_str a t' b t⟩
   |tup h1 r1=>
    cases rb;cases h
    obtain⟨iD,_,p,_⟩:=I.tuple (aw sF h1)
    exact⟨SeqAt.RcAt.str_tuple a t' p Bj,SeqAt.EqAt.str_tuple a t' p Bj⟩
   |lst h1 r1=>
    cases rb;cases h
    obtain⟨iD,_,p,_⟩:=I.list (.inl (.inl (sF _ _ h1)))
    exact⟨SeqAt.RcAt.str_list a t' p.isList Bj,SeqAt.EqAt.str_list a t' p.isList Bj⟩
   |Av=>cases h
   |BH=>cases h
  |@tup pa vs xs h1 r1=>
   cases ra
   obtain⟨iD,rv,p,_⟩:=I.tuple (aw sF h1)
   cases ry with
   |rW=>cases rb;cases h;exact⟨SeqAt.RcAt.tuple_none p Bj,SeqAt.EqAt.tuple_none p Bj⟩
   |bl b=>cases rb;cases h;exact⟨SeqAt.RcAt.tuple_bool b p Bj,SeqAt.EqAt.tuple_bool b p Bj⟩
   |int b=>obtain⟨t,rfl⟩:=rb;cases h;exact⟨SeqAt.RcAt.tuple_int b t p Bj,SeqAt.EqAt.tuple_int b t p Bj⟩
   |str b=>obtain⟨t,rfl⟩:=rb;cases h;exact⟨SeqAt.RcAt.tuple_str b t p Bj,SeqAt.EqAt.tuple_str b t p Bj⟩
   |@tup pb ws ys h2 r2=>
    cases rb
    have h0:=h
    obtain⟨Bq,Du,p2,_⟩:=I.tuple (aw sF h2)
    replace h:aff (λbs:List Bool=>bs.all id && xs.length==ys.length) (List.mapM (λp:PV×PV=>AN d p.1 p.2) (xs.zip ys))=some k:=h
    rw[aaD]at h
    obtain⟨bs,hb,e⟩:=h
    obtain⟨Hm,Hn⟩:=bx hb
    have l1:iD.length=xs.length:=by rw[<- rv.length,r1.len]
    have l2:Bq.length=ys.length:=by rw[<- Du.length,r2.len]
    have rc:SeqAt.RcAt A s (.ref pa) (.ref pb) k:=by
     have:=SeqAt.RcAt.tuples (e:=λj=>bs.getD j false) p p2 Bj (λj j1 j2=>by
      simp only[aag]at j1 j2
      have jx:j<xs.length:=by omega
      have jy:j<ys.length:=by omega
      have hz:(xs.zip ys)[j]?=some (xs[j],ys[j]):=by rw[aaX];exact⟨by simp[jx],by simp[jy]⟩
      obtain⟨b,e1,e2⟩:=Hn j _ hz
      obtain⟨v1,q1,q2⟩:=r1.get (aab jx)
      obtain⟨v2,q3,q4⟩:=r2.get (aab jy)
      obtain⟨u1,q5,q6⟩:=rv.get q1
      obtain⟨u2,q7,q8⟩:=Du.get q3
      have g1:iD.toArray[j]=u1:=by simpa[aab j1]using q5
      have g2:Bq.toArray[j]=u2:=by simpa[aab j2]using q7
      rw[g1,g2]
      have Gw:bs.getD j false=b:=by simp[ae2,e1]
      rw[Gw]
      exact(ih (A:=A.in1) (by show A.units+1+d<cLine;omega) q2 q4 q6 q8 e2).2)
     have e3:((aaM (min iD.toArray.size Bq.toArray.size)).all (λj=>bs.getD j false) && iD.toArray.size==Bq.toArray.size)=k:=by
      have e4:min iD.toArray.size Bq.toArray.size=bs.length:=by
       rw[Hm,adA,aag,aag,l1,l2]
      rw[e4,ft (λj hj=>by simp[ae2,aab hj]),aag,aag,l1,l2]
      exact e
     rw[e3]at this
     exact this
    refine⟨rc,?_⟩
    by_cases q:pa=pb
    ·subst q
     have:k=true:=nh I sF (.tup h1 r1) (.tup h2 r2) h0
     subst this
     exact afJ _
    ·exact SeqAt.EqAt.of_refs q rc
   |lst h2 r2=>
    cases rb;cases h
    obtain⟨Bq,_,p2,_⟩:=I.list (.inl (.inl (sF _ _ h2)))
    exact⟨SeqAt.RcAt.tuple_list p p2.isList Bj,SeqAt.EqAt.tuple_list p p2.isList Bj⟩
   |Av=>cases h
   |BH=>cases h
  |@lst pa vs xs h1 r1=>
   cases ra
   obtain⟨iD,rv,p,_⟩:=I.list (.inl (.inl (sF _ _ h1)))
   cases ry with
   |rW=>cases rb;cases h;exact⟨SeqAt.RcAt.list_none p.isList Bj,SeqAt.EqAt.list_none p.isList Bj⟩
   |bl b=>cases rb;cases h;exact⟨SeqAt.RcAt.list_bool b p.isList Bj,SeqAt.EqAt.list_bool b p.isList Bj⟩
   |int b=>obtain⟨t,rfl⟩:=rb;cases h;exact⟨SeqAt.RcAt.list_int b t p.isList Bj,SeqAt.EqAt.list_int b t p.isList Bj⟩
   |str b=>obtain⟨t,rfl⟩:=rb;cases h;exact⟨SeqAt.RcAt.list_str b t p.isList Bj,SeqAt.EqAt.list_str b t p.isList Bj⟩
   |tup h2 r2=>
    cases rb;cases h
    obtain⟨Bq,_,p2,_⟩:=I.tuple (aw sF h2)
    exact⟨SeqAt.RcAt.list_tuple p.isList p2 Bj,SeqAt.EqAt.list_tuple p.isList p2 Bj⟩
   |@lst pb ws ys h2 r2=>
    cases rb
    have h0:=h
    obtain⟨Bq,Du,p2,_⟩:=I.list (.inl (.inl (sF _ _ h2)))
    have l1:iD.length=xs.length:=by rw[<- rv.length,r1.len]
    have l2:Bq.length=ys.length:=by rw[<- Du.length,r2.len]
    have rc:SeqAt.RcAt A s (.ref pa) (.ref pb) k:=by
     replace h:(if xs.length=ys.length then aff (λbs:List Bool=>bs.all id) (List.mapM (λp:PV×PV=>AN d p.1 p.2) (xs.zip ys))else some false)=some k:=h
     split at h
     ·rename_i hl
      rw[aaD]at h
      obtain⟨bs,hb,e⟩:=h
      obtain⟨Hm,Hn⟩:=bx hb
      have:=SeqAt.RcAt.lists (e:=λj=>bs.getD j false) p.isList p2.isList (by rw[aag,aag];omega) Bj (λj j1 j2=>by
       simp only[aag]at j1 j2
       have jx:j<xs.length:=by omega
       have jy:j<ys.length:=by omega
       have hz:(xs.zip ys)[j]?=some (xs[j],ys[j]):=by rw[aaX];exact⟨by simp[jx],by simp[jy]⟩
       obtain⟨b,e1,e2⟩:=Hn j _ hz
       obtain⟨v1,q1,q2⟩:=r1.get (aab jx)
       obtain⟨v2,q3,q4⟩:=r2.get (aab jy)
       obtain⟨u1,q5,q6⟩:=rv.get q1
       obtain⟨u2,q7,q8⟩:=Du.get q3
       have g1:iD.toArray[j]=u1:=by simpa[aab j1]using q5
       have g2:Bq.toArray[j]=u2:=by simpa[aab j2]using q7
       rw[g1,g2]
       have Gw:bs.getD j false=b:=by simp[ae2,e1]
       rw[Gw]
       exact(ih (A:=A.in1) (by show A.units+1+d<cLine;omega) q2 q4 q6 q8 e2).2)
      have e3:((aaM iD.toArray.size).all (λj=>bs.getD j false))=k:=by
       have e4:iD.toArray.size=bs.length:=by
        rw[Hm,adA,aag,l1];omega
       rw[e4,ft (λj hj=>by simp[ae2,aab hj])]
       exact e
      rw[e3]at this
      exact this
     ·rename_i hl
      cases h
      exact SeqAt.RcAt.lists_lengths p.isList p2.isList (by simp only[aag];simpa[l1,l2]using hl) Bj
    refine⟨rc,?_⟩
    by_cases q:pa=pb
    ·subst q
     have:k=true:=nh I sF (.lst h1 r1) (.lst h2 r2) h0
     subst this
     exact afJ _
    ·exact SeqAt.EqAt.of_refs q rc
   |Av=>cases h
   |BH=>cases h
  |Av h1 r1=>cases y<;>cases h
  |BH h1=>cases y<;>cases h
def Ag(x y:PV):Option PV:=(AN 60 x y).map .bl
theorem Vw.CB(h:Vw M F H v x)(s:eQ F H)(hx:∀xs,x≠.set xs):∃F',eQ F F'/\eQ F' H/\Rep M.K F' v x:=by
 rcases h with h|⟨a,rfl,h⟩
 ·exact⟨F,aq,s,h⟩
 ·cases x<;>try exact h.elim
  ·rename_i xs
   obtain⟨vs,h1,h2⟩:=h
   cases e:F a with
   |none=>
    refine⟨upd F a (.lst vs),az e,λb o q=>?_,.lst ao (h2.mono (az e))⟩
    by_cases z:b=a
    ·subst z;rw[ao]at q;cases q;exact h1
    ·rw[ak z]at q;exact s b o q
   |some o=>
    have:=s a o e
    rw[h1]at this;cases this
    exact⟨F,aq,s,.lst e h2⟩
  ·rename_i xs
   obtain⟨vs,h1,h2⟩:=h
   cases e:F a with
   |none=>
    refine⟨upd F a (.dK vs),az e,λb o q=>?_,.Av ao (h2.mono (az e))⟩
    by_cases z:b=a
    ·subst z;rw[ao]at q;cases q;exact h1
    ·rw[ak z]at q;exact s b o q
   |some o=>
    have:=s a o e
    rw[h1]at this;cases this
    exact⟨F,aq,s,.Av e h2⟩
  ·exact absurd rfl (hx _)
def MQ(K:aah):R2:=λv u H Q=>∃F x y k,eQ F H/\Rep K F v x/\Rep K F u y/\AN 60 x y=some k/\Q (.bl k) H
theorem aR(hu:X.A.units+60<cLine):AK X (aaV .Eq) (MQ X.K):=by
 intro pins s σ H x y v u Q I rx ry h
 obtain⟨F,p,q,k,sF,r1,r2,e,hq⟩:=h
 exact(LO I sF (A:=X.A) hu r1 r2 rx ry e).1 X.prog X.w X.xe _ ⟨.bl k,H,I,rfl,hq⟩
theorem aQ:Dr ob X (MQ X.K) Ag:=by
 refine bV (P:=λ_ _ _ _=>True) λF H v u x y z sF rx ry hz=>?_
 unfold Ag at hz
 rw[aaD]at hz
 obtain⟨k,hk,rfl⟩:=hz
 have nx:∀xs,x≠.set xs:=λxs e=>by subst e;cases y<;>cases hk
 have ny:∀xs,y≠.set xs:=λxs e=>by subst e;cases x<;>cases hk
 obtain⟨F1,s1,s2,r1⟩:=rx.CB sF nx
 have S8:Vw (md ob X) F1 H u y:=by
  rcases ry with r|⟨a,e,r⟩
  ·exact .inl (r.mono s1)
  ·exact .inr ⟨a,e,r.mono s1 rfl⟩
 obtain⟨F2,s3,s4,r2⟩:=S8.CB s2 ny
 exact⟨_,λ_=>.bl _,λQ q=>⟨F2,x,y,k,s4,r1.mono s3,r2,hk,q⟩⟩
def toV:PV->Option V
 |.rW=>some .rW
 |.bl b=>some (.bl b)
 |.int i=>some (.int i)
 |.str s=>some (.str s)
 |_=>none
theorem rH{w:V}(h:Vw M F H v x)(e:toV x=some w):v=w:=by
 cases x<;>cases e
 ·exact h.rW
 ·exact h.bl
 ·exact h.int
 ·exact h.str
def B7:PV->PV->Option PV
 |.lst xs,.lst []=>some (.bl (!xs.isEmpty))
 |x,y=>(toV x).bind λv=>(toV y).bind λu=>if Jj v u=true then some (.bl (!decide (v=u)))else none
theorem b0:Dr ob X (λx y H Q=>PM x y H Q\/EW X.K x y H Q) B7:=by
 refine bV (P:=λ_ _ _ _=>True) λF H v u x y z sF rx ry hz=>?_
 unfold B7 at hz
 split at hz
 ·cases hz
  rename_i xs
  obtain⟨p,vs,rfl,h1,h2⟩:=rx.lst sF
  obtain⟨q,ws,rfl,g1,g2⟩:=ry.lst sF
  cases g2
  refine⟨_,λ_=>.bl _,λQ hq=>.inr ⟨p,q,vs,rfl,rfl,.inl (.inl h1),.inl (.inl g1),?_⟩⟩
  have:vs.isEmpty=xs.isEmpty:=by have:=h2.len;cases vs<;>cases xs<;>simp at this ⊢
  rw[this];exact hq
 ·cases e1:toV x with
  |none=>rw[e1]at hz;cases hz
  |some v'=>
   cases e2:toV y with
   |none=>rw[e1,e2]at hz;cases hz
   |some u'=>
    rw[e1,e2]at hz
    have hz:(if Jj v' u'=true then some (PV.bl (!decide (v'=u')))else none)=some z:=hz
    split at hz
    ·rename_i hs
     cases hz
     rw[rH rx e1,rH ry e2]
     exact⟨_,λ_=>.bl _,λQ q=>.inl ⟨hs,q⟩⟩
    ·cases hz
theorem cy(hu:X.A.units<cLine):AK X (aaV .NotEq) (λx y H Q=>PM x y H Q\/EW X.K x y H Q):=AK.or zu (kh hu)
theorem Inv.OC(I:Inv X pins σ H s){a:Addr}{o:Obj}(h:X.K.lookup a=some o):H a=none:=(I.bs a o (I.mod.kin a o h)).2
theorem o5(I:Inv X pins σ H s){a:Addr}{kvs:List (Key×V)}{vs:List V}(h1:H a=some (.dK kvs))(h2:AW X.K H a vs):False:=by
 obtain⟨_,_,_,_,o,_,_,e,ex,_⟩:=I.zY a _ h1
 obtain⟨_,_,⟨o',e',c',_⟩,_⟩:=I.tuple h2
 rw[e]at e';cases e';rw[ex.1]at c';injection c' with c';exact absurd c' (by decide)
theorem jN:∀{ns ms:List Int},ns.map V.int=ms.map V.int->ns=ms
 |[],[],_=>rfl
 |n::ns,m::ms,h=>by
  rw[aap,aap]at h
  injection h with h1 h2
  injection h1 with h1
  rw[h1,jN h2]
 |[],_::_,h=>by simp at h
 |_::_,[],h=>by simp at h
variable{y:PV}
theorem Rep.inj(I:Inv X pins σ H s)(sF:eQ F H)(h:Rep X.K F v x)(h':Rep X.K F v y):x=y:=by
 refine Rep.rec (K:=X.K) (F:=F) (motive_1:=λv x _=>∀y,Rep X.K F v y->x=y) (motive_2:=λvs xs _=>∀ys,zL X.K F vs ys->xs=ys) (motive_3:=λvs xs _=>∀ys,zK X.K F vs ys->xs=ys)
  ?_ ?_ ?_ ?_ ?_ ?_ ?_ ?_ ?_ ?_ ?_ ?_ h y h'
 ·intro y h;cases h;rfl
 ·intro b y h;cases h;rfl
 ·intro b y h;cases h;rfl
 ·intro b y h;cases h;rfl
 ·intro a vs xs h1 _ ih y h
  cases h with
  |tup h2 r2=>
   have:=I.BR (aw sF h1) (aw sF h2)
   subst this
   rw[ih _ r2]
  |lst h2 r2=>exact(dm I (.inl (.inl (sF _ _ h2))) (aw sF h1)).elim
  |Av h2 r2=>exact(o5 I (sF _ _ h2) (aw sF h1)).elim
  |BH h2=>exact(dm I (er sF h2.sq) (aw sF h1)).elim
 ·intro a vs xs h1 _ ih y h
  cases h with
  |tup h2 r2=>exact(dm I (.inl (.inl (sF _ _ h1))) (aw sF h2)).elim
  |lst h2 r2=>rw[h1]at h2;cases h2;rw[ih _ r2]
  |Av h2 r2=>rw[h1]at h2;cases h2
  |BH h2=>
   rcases h2 with ⟨o,h2⟩|⟨o,_,_,h2,_⟩
   ·rw[h1]at h2;cases h2
   ·have:=sF _ _ h1;rw[Inv.OC I h2]at this;cases this
 ·intro a vs xs h1 _ ih y h
  cases h with
  |tup h2 r2=>exact(o5 I (sF _ _ h1) (aw sF h2)).elim
  |lst h2 r2=>rw[h1]at h2;cases h2
  |Av h2 r2=>rw[h1]at h2;cases h2;rw[ih _ r2]
  |BH h2=>
   rcases h2 with ⟨o,h2⟩|⟨o,_,_,h2,_⟩
   ·rw[h1]at h2;cases h2
   ·have:=sF _ _ h1;rw[Inv.OC I h2]at this;cases this
 ·intro a ns h1 y h
  cases h with
  |tup h2 r2=>exact(dm I (er sF h1.sq) (aw sF h2)).elim
  |lst h2 r2=>
   rcases h1 with ⟨o,h1⟩|⟨o,_,_,h1,_⟩
   ·rw[h1]at h2;cases h2
   ·have:=sF _ _ h2;rw[Inv.OC I h1]at this;cases this
  |Av h2 r2=>
   rcases h1 with ⟨o,h1⟩|⟨o,_,_,h1,_⟩
   ·rw[h1]at h2;cases h2
   ·have:=sF _ _ h2;rw[Inv.OC I h1]at this;cases this
  |BH h2=>rw[jN (I.Fz (er sF h1.sq) (er sF h2.sq))]
 ·intro ys h;cases h;rfl
 ·intro v x vs xs _ _ Nn Nm ys h
  cases h with
  |cons h r=>rw[Nn _ h,Nm _ r]
 ·intro ys h;cases h;rfl
 ·intro k v x vs xs _ _ Nn Nm ys h
  cases h with
  |cons h r=>rw[Nn _ h,Nm _ r]
variable{A:Around}
theorem jr(I:Inv X pins σ H s)(sF:eQ F H){d:Nat}{vs:List V}{us:List Value}{xs:List PV}{u:Value}{ks:List Bool}(hu:A.units+d<cLine)(rv:zP vs us)(r:zL X.K F vs xs)(rx:Rep X.K F v x)(ru:RelV v u)
  (hk:xs.mapM (λy=>AN d y x)=some ks):∃e:Value->Bool,(∀y,y∈us->SeqAt.EqAt A s y u (e y))/\us.any e=ks.any id/\us.countP e=ks.countP id/\(∀(i:Nat) (w:Value),us[i]?=some w->ks[i]?=some (e w)):=by
 obtain⟨hl,hb⟩:=bx hk
 have l1:=rv.length
 have l2:=r.len
 have key:∀(i:Nat) (w:Value),us[i]?=some w->∃b y z,xs[i]?=some y/\vs[i]?=some z/\RelV z w/\Rep X.K F z y/\AN d y x=some b/\ks[i]?=some b:=λi w hw=>by
  obtain⟨z,e1,e2⟩:=zP.Gx rv hw
  obtain⟨y,e3,e4⟩:=r.Gx e1
  obtain⟨b,e5,e6⟩:=hb i y e3
  exact⟨b,y,z,e3,e1,e2,e4,e6,e5⟩
 let e:Value->Bool:=λw=>(us.zip ks).any λp=>p.1==w && p.2
 have four:∀(i:Nat) (w:Value),us[i]?=some w->ks[i]?=some (e w):=by
  intro i w hw
  obtain⟨b,y,z,e1,e2,e3,e4,e5,e6⟩:=key i w hw
  rw[e6]
  congr 1
  rw[abt,adq]
  constructor
  ·intro Gw
   refine⟨(w,b),abh (i:=i) (by rw[aaX];exact⟨hw,e6⟩),by simp[Gw]⟩
  ·rintro⟨⟨w',b'⟩,hm,hp⟩
   simp only[aaT]at hp
   obtain⟨j,hj,ej⟩:=List.mem_iff_getElem.mp hm
   have hz:=aab hj
   rw[ej,aaX]at hz
   obtain⟨Ma,Nt⟩:=hz
   have TF:w'=w:=eq_of_beq hp.1
   dsimp only at Ma Nt
   rw[TF]at Ma
   obtain⟨b2,y2,z2,f1,f2,f3,f4,f5,f6⟩:=key j w Ma
   have:z=z2:=e3.inj f3
   subst this
   have:=Rep.inj I sF e4 f4
   subst this
   rw[e5]at f5;cases f5
   rw[Nt]at f6;cases f6
   exact hp.2
 have NC:ks=us.map e:=by
  refine abK λi=>?_
  rw[aal]
  cases q:us[i]? with
  |none=>
   have:us.length<=i:=List.getElem?_eq_none_iff.mp q
   rw[aan (by omega)];rfl
  |some w=>rw[four i w q];rfl
 refine⟨e,λy hy=>?_,?_,?_,four⟩
 ·obtain⟨i,hi,rfl⟩:=List.mem_iff_getElem.mp hy
  have hw:=aab hi
  obtain⟨b,y,z,e1,e2,e3,e4,e5,e6⟩:=key i _ hw
  have:=four i _ hw
  rw[e6]at this
  rw[<- aau this]
  exact(LO I sF (A:=A) hu e4 rx e3 ru e5).2
 ·rw[NC,afq];rfl
 ·rw[NC,List.countP_map];rfl
def IS(x:PV):PV->Option Bool
 |.tup ys=>(ys.mapM λy=>AN 60 y x).map λks=>ks.any id
 |.lst ys=>(ys.mapM λy=>AN 60 y x).map λks=>ks.any id
 |.Av kvs=>(D5 x).map λk=>(A4 kvs k).isSome
 |.str s=>match x with
  |.str t=>some (!(ada s t 0 s.length 1).isEmpty)
  |_=>none
 |.set S=>match x with
  |.str t=>some (decide (t∈S))
  |_=>none
 |_=>none
def H0:PV->Bool
 |.set _=>false
 |_=>true
theorem oE(h:H0 x=true):∀xs,x≠.set xs:=λxs e=>by subst e;cases h
def C0(x y:PV):Option PV:=if H0 x=true then (IS x y).map .bl else none
def Be(x y:PV):Option PV:=if H0 x=true then (IS x y).map λb=>.bl (!b)else none
def Hh(P:aaI)(w:World)(K:aah)(neg:Bool):R2:=λv u H Q=>∃(F:Hp) (x:PV) (b:Bool),eQ F H/\Q (.bl (if neg then !b else b)) H /\
 ((∃p vs ys ks,u=.ref p/\(Bs K H p vs\/AW K H p vs)/\zL K F vs ys/\Rep K F v x/\ys.mapM (λy=>AN 60 y x)=some ks/\b=ks.any id) \/
  (∃p o,u=.ref p/\GV H p v o/\b=o.isSome)\/(∃i j,v=.str i/\u=.str j/\b=!(ada j i 0 j.length 1).isEmpty) \/
  (∃z a S n,v=.str z/\u=.ref a/\H a=some (KL P w a S n)/\b=S z))
theorem dE(hu:X.A.units+62<cLine):AK X (aaV .In) (Hh X.prog X.w X.K false):=by
 intro pins s σ H v u v' u' Q I rv ru h
 obtain⟨F,x,b,sF,q,h⟩:=h
 have q:Q (.bl b) H:=q
 rcases h with ⟨p,vs,ys,ks,rfl,hs,hr,hx,hk,rfl⟩|⟨p,o,rfl,hd,rfl⟩|⟨i,j,rfl,rfl,rfl⟩|⟨z,a,S,n,rfl,rfl,ha,rfl⟩
 ·cases ru
  rcases hs with hs|hs
  ·obtain⟨iD,r,pl,_⟩:=I.list hs
   obtain⟨e,e1,e2,_⟩:=jr I sF (A:=X.A.in1) (d:=60) (by show X.A.units+1+60<cLine;omega) r hr hx rv hk
   refine SeqAt.in_listAt e pl.isList (λy hy=>e1 y (by simpa using hy)) ⟨.bl _,H,I,rfl,?_⟩
   rw[show iD.toArray.any e=iD.any e by simp,e2];exact q
  ·obtain⟨iD,r,pl,_⟩:=I.tuple hs
   obtain⟨e,e1,e2,_⟩:=jr I sF (A:=X.A.in1) (d:=60) (by show X.A.units+1+60<cLine;omega) r hr hx rv hk
   refine SeqAt.in_tupleAt e pl (λy hy=>e1 y (by simpa using hy)) ⟨.bl _,H,I,rfl,?_⟩
   rw[show iD.toArray.any e=iD.any e by simp,e2];exact q
 ·cases ru
  exact zJ (by omega) I hd rv λs3 I3=>⟨.bl _,H,I3,rfl,q⟩
 ·exact sw pins s σ H _ _ _ _ Q I rv ru ⟨i,j,rfl,rfl,q⟩
 ·cases ru
  obtain⟨t,rfl⟩:=rv
  obtain⟨x,_,_⟩:=I.zY a _ ha
  exact wpAny_inSet_of (knd:=PySem.strKind X.prog X.w) (ae7 _ _ _ _) rfl x ⟨.bl (S z),H,I.tok _,rfl,q⟩
theorem b8(hu:X.A.units+62<cLine):AK X (aaV .NotIn) (Hh X.prog X.w X.K true):=by
 intro pins s σ H v u v' u' Q I rv ru h
 obtain⟨F,x,b,sF,q,h⟩:=h
 have q:Q (.bl (!b)) H:=q
 rcases h with ⟨p,vs,ys,ks,rfl,hs,hr,hx,hk,rfl⟩|⟨p,o,rfl,hd,rfl⟩|⟨i,j,rfl,rfl,rfl⟩|⟨z,a,S,n,rfl,rfl,ha,rfl⟩
 ·cases ru
  rcases hs with hs|hs
  ·obtain⟨iD,r,pl,_⟩:=I.list hs
   obtain⟨e,e1,e2,_⟩:=jr I sF (A:=X.A.in1) (d:=60) (by show X.A.units+1+60<cLine;omega) r hr hx rv hk
   refine SeqAt.notIn_listAt e pl.isList (λy hy=>e1 y (by simpa using hy)) ⟨.bl _,H,I,rfl,?_⟩
   rw[show iD.toArray.any e=iD.any e by simp,e2];exact q
  ·obtain⟨iD,r,pl,_⟩:=I.tuple hs
   obtain⟨e,e1,e2,_⟩:=jr I sF (A:=X.A.in1) (d:=60) (by show X.A.units+1+60<cLine;omega) r hr hx rv hk
   refine SeqAt.notIn_tupleAt e pl (λy hy=>e1 y (by simpa using hy)) ⟨.bl _,H,I,rfl,?_⟩
   rw[show iD.toArray.any e=iD.any e by simp,e2];exact q
 ·cases ru
  exact xG (by omega) I hd rv λs3 I3=>⟨.bl _,H,I3,rfl,q⟩
 ·exact oC pins s σ H _ _ _ _ Q I rv ru ⟨i,j,rfl,rfl,q⟩
 ·exact sr pins s σ H _ _ _ _ Q I rv ru ⟨z,a,S,n,rfl,rfl,ha,q⟩
theorem sP{u:V}{b neg:Bool}(sF:eQ F H)(nx:∀xs,x≠.set xs)(rx:Vw (md ob X) F H v x)(ry:Vw (md ob X) F H u y)(hz:IS x y=some b)(Q:VK)(q:Q (.bl (if neg then !b else b)) H):Hh X.prog X.w X.K neg v u H Q:=by
 unfold IS at hz
 have seq:∀{p:Addr} {vs:List V} {ys:List PV},u=.ref p->(Bs X.K H p vs\/AW X.K H p vs)->zL X.K F vs ys->((ys.mapM λy=>AN 60 y x).map λks=>ks.any id)=some b->Hh X.prog X.w X.K neg v u H Q:=λ{p vs ys} hp hs hr hz=>by
  rw[aaD]at hz
  obtain⟨ks,hk,e⟩:=hz
  obtain⟨F1,s1,s2,r1⟩:=rx.CB sF nx
  exact⟨F1,x,b,s2,q,.inl ⟨p,vs,ys,ks,hp,hs,hr.mono s1,r1,hk,e.symm⟩⟩
 split at hz
 ·obtain⟨p,vs,e,h1,h2⟩:=ry.tup sF
  exact seq e (.inr h1) h2 hz
 ·obtain⟨p,vs,e,h1,h2⟩:=ry.lst sF
  exact seq e (.inl (.inl (.inl h1))) h2 hz
 ·obtain⟨p,vs,e,h1,h2⟩:=ry.Av sF
  rw[aaD]at hz
  obtain⟨k,hk,rfl⟩:=hz
  have hv:=HG rx hk
  subst hv
  refine⟨F,.rW,_,sF,q,.inr (.inl ⟨p,B0 vs k,e,RR h1,?_⟩)⟩
  rcases h2.val (k:=k)with ⟨e1,e2⟩|⟨w,w',e1,e2,_⟩
  ·rw[e1,e2];rfl
  ·rw[e1,e2];rfl
 ·split at hz
  ·cases hz
   exact⟨F,.rW,_,sF,q,.inr (.inr (.inl ⟨_,_,rx.str,ry.str,rfl⟩))⟩
  ·cases hz
 ·split at hz
  ·cases hz
   rcases ry with r|⟨p,rfl,r⟩
   ·cases r
   ·exact⟨F,.rW,_,sF,q,.inr (.inr (.inr ⟨_,p,_,_,rx.str,rfl,r,rfl⟩))⟩
  ·cases hz
 ·cases hz
theorem dC:Dr ob X (Hh X.prog X.w X.K false) C0:=by
 refine bV (P:=λ_ _ _ _=>True) λF H v u x y z sF rx ry hz=>?_
 unfold C0 at hz
 split at hz
 case isFalse=>cases hz
 rename_i nx
 rw[aaD]at hz
 obtain⟨b,hb,rfl⟩:=hz
 exact⟨_,λ_=>.bl _,λQ q=>sP sF (oE nx) rx ry hb Q q⟩
theorem b7:Dr ob X (Hh X.prog X.w X.K true) Be:=by
 refine bV (P:=λ_ _ _ _=>True) λF H v u x y z sF rx ry hz=>?_
 unfold Be at hz
 split at hz
 case isFalse=>cases hz
 rename_i nx
 rw[aaD]at hz
 obtain⟨b,hb,rfl⟩:=hz
 exact⟨_,λ_=>.bl _,λQ q=>sP sF (oE nx) rx ry hb Q q⟩
inductive Hs (M:Md) (F H:Hp):List V->List PV->Prop where
 |nil:Hs M F H [] []
 |cons {v:V} {x:PV} {vs:List V} {xs:List PV}:Vw M F H v x->Hs M F H vs xs->Hs M F H (v::vs) (x::xs)
theorem zL.SM{vs:List V}{xs:List PV}(h:zL M.K F vs xs):Hs M F H vs xs:=by
 induction h using zL.ind with
 |nil=>exact .nil
 |cons a _ ih=>exact .cons (.inl a) ih
theorem Hs.one{vs:List V}(h:Hs M F H vs [x]):∃v,vs=[v]/\Vw M F H v x:=by
 cases h with
 |cons a r=>cases r;exact⟨_,rfl,a⟩
theorem Hs.two{vs:List V}(h:Hs M F H vs [x,y]):∃v u,vs=[v,u]/\Vw M F H v x/\Vw M F H u y:=by
 cases h with
 |cons a r=>
  cases r with
  |cons b r=>cases r;exact⟨_,_,rfl,a,b⟩
structure Ek(ob:BG)(X:Cx)(es:List Expr)(f:WA):Prop where
 ex:∃t:TA,PA X es t/\∀(Z:Zn) (F:Hp) (σ:L2.St) (H:Hp) (env:En) (P:List PV->En->Prop) (Q:List V->Hp->Prop),zW (md ob X) Z F σ H env->f env P ->
  (∀xs dO vs F' H',P xs dO->eQ F F'->zW (md ob X) Z F' σ H' dO->Hs (md ob X) F' H' vs xs->Q vs H')->t σ H Q
def a1(a:WE):WA:=λenv P=>a env λx e=>P [x] e
def AJ(o:List PV->Option PV)(fa:WA):WE:=λenv P=>fa env λxs e=>opt (o xs) λz=>P z e
variable{es:List Expr}{fa:WA}{x:Str}{Np T:String}{r:List V->Hp->VK->Prop}{o:List PV->Option PV}
theorem BZ(h:FQ ob X es fa):Ek ob X es fa:=by
 obtain⟨t,ht,k⟩:=h.ex
 exact⟨t,ht,λZ F σ H env P Q K hf kk=>k Z F σ H env P Q K hf λxs e1 vs F1 H1 p _ s1 K1 r1=>kk xs e1 vs F1 H1 p s1 K1 r1.SM⟩
theorem bn(h:DQ ob X e f)(hs:aam [e] X.env=(false,eval e X.env)::aam [] X.env:=by rfl):Ek ob X [e] (a1 f):=by
 obtain⟨t,ht,k⟩:=h.ex
 exact⟨_,bu ht bN hs,λZ F σ H env P Q K hf kk=>k Z F σ H env _ _ K hf λx e1 v F1 H1 p s1 K1 r1=>kk [x] e1 [v] F1 H1 p s1 K1 (.cons r1 .nil)⟩
def Dy(ob:BG)(X:Cx)(r:List V->Hp->VK->Prop)(o:List PV->Option PV):Prop :=
 ∀(Z:Zn) (F:Hp) (σ:L2.St) (H:Hp) (env:En) (vs:List V) (xs:List PV) (z:PV) (Q:VK),zW (md ob X) Z F σ H env->Hs (md ob X) F H vs xs->o xs=some z ->
  (∀v' F' H',eQ F F'->zW (md ob X) Z F' σ H' env->Rep X.K F' v' z->Q v' H')->r vs H Q
def El(ob:BG)(X:Cx)(r:List V->Hp->VK->Prop)(o:List PV->Option PV):Prop :=
 ∀(Z:Zn) (F:Hp) (σ:L2.St) (H:Hp) (env:En) (vs:List V) (xs:List PV) (z:PV) (Q:VK),zW (md ob X) Z F σ H env->Hs (md ob X) F H vs xs->o xs=some z ->
  (∀v' H',(∀xs,z≠.set xs)->zW (md ob X) Z F (σ++[some v']) H' (env++[some ⟨1,z⟩])->Q v' H')->r vs H Q
theorem rR{t:TA}(hq:Dy ob X r o)(k:∀(Z:Zn) (F:Hp) (σ:L2.St) (H:Hp) (env:En) (P:List PV->En->Prop) (Q:List V->Hp->Prop),zW (md ob X) Z F σ H env->fa env P->(∀xs dO vs F' H',P xs dO->eQ F F'->zW (md ob X) Z F' σ H' dO->Hs (md ob X) F' H' vs xs->Q vs H')->t σ H Q):
  ∀(Z:Zn) (F:Hp) (σ:L2.St) (H:Hp) (env:En) (P:PV->En->Prop) (Q:VK),zW (md ob X) Z F σ H env->AJ o fa env P->(∀x dO v F' H',P x dO->eQ F F'->zW (md ob X) Z F' σ H' dO->Rep X.K F' v x->Q v H')->Om r t σ H Q:=by
 intro Z F σ H env P Q K hf kk
 refine k Z F σ H env _ _ K hf λxs e1 vs F1 H1 p s1 K1 r1=>?_
 obtain⟨z,hz,p⟩:=p
 exact hq Z F1 σ H1 e1 vs xs z Q K1 r1 hz λv' F' H' s2 K2 r2=>kk z e1 v' F' H' p (aj s1 s2) K2 r2
theorem wz{t:TA}(hq:El ob X r o)(k:∀(Z:Zn) (F:Hp) (σ:L2.St) (H:Hp) (env:En) (P:List PV->En->Prop) (Q:List V->Hp->Prop),zW (md ob X) Z F σ H env->fa env P->(∀xs dO vs F' H',P xs dO->eQ F F'->zW (md ob X) Z F' σ H' dO->Hs (md ob X) F' H' vs xs->Q vs H')->t σ H Q):
  ∀(Z:Zn) (F:Hp) (σ:L2.St) (H:Hp) (env:En) (P:PV->En->Prop) (Q:VK),zW (md ob X) Z F σ H env->AJ o fa env P->(∀x dO v F' H',P x dO->eQ F F'->(∀xs,x≠.set xs)->zW (md ob X) Z F' (σ++[some v]) H' (dO++[some ⟨1,x⟩])->Q v H')->Om r t σ H Q:=by
 intro Z F σ H env P Q K hf kk
 refine k Z F σ H env _ _ K hf λxs e1 vs F1 H1 p s1 K1 r1=>?_
 obtain⟨z,hz,p⟩:=p
 exact hq Z F1 σ H1 e1 vs xs z Q K1 r1 hz λv' H' hx K2=>kk z e1 v' F1 H' p s1 hx K2
theorem bf(hc:zZ X (.builtin Np) r)(hq:Dy ob X r o)(hg:Gl X x)(hm:X.mg x=none)(hv:acm x=some (.builtin Np))(ha:Ek ob X (e::es) fa)(hn:x ≠ "__name__" :=by decide)(C1:(x==("__debug__" : Str))=false:=by decide)
  (he:aam (e::es) X.env=(false,eval e X.env)::aam es X.env:=by rfl) (A5:(backTo pos (aam es X.env)).any (·.1)=false:=by rfl):Am ob X (.Call (.Name x p) (e::es) [] pos) (AJ o fa):=by
 obtain⟨t,ht,k⟩:=ha.ex
 exact⟨_,bE hc hg hm hv ht hn C1 he A5,rR hq k⟩
theorem bL(hc:zZ X (.type T) r)(hq:Dy ob X r o)(hg:Gl X x)(hm:X.mg x=none)(hv:acm x=some (.type T))(ha:Ek ob X (e::es) fa)(hn:x ≠ "__name__" :=by decide)(C1:(x==("__debug__" : Str))=false:=by decide)
  (he:aam (e::es) X.env=(false,eval e X.env)::aam es X.env:=by rfl) (A5:(backTo pos (aam es X.env)).any (·.1)=false:=by rfl):Am ob X (.Call (.Name x p) (e::es) [] pos) (AJ o fa):=by
 obtain⟨t,ht,k⟩:=ha.ex
 exact⟨_,iM hc hg hm hv ht hn C1 he A5,rR hq k⟩
theorem fh(hc:zZ X (.type T) r)(hq:El ob X r o)(hg:Gl X x)(hm:X.mg x=none)(hv:acm x=some (.type T))(ha:Ek ob X (e::es) fa)(hn:x ≠ "__name__" :=by decide)(C1:(x==("__debug__" : Str))=false:=by decide)
  (he:aam (e::es) X.env=(false,eval e X.env)::aam es X.env:=by rfl) (A5:(backTo pos (aam es X.env)).any (·.1)=false:=by rfl):GS ob X (.Call (.Name x p) (e::es) [] pos) (AJ o fa):=by
 obtain⟨t,ht,k⟩:=ha.ex
 exact⟨_,iM hc hg hm hv ht hn C1 he A5,wz hq k⟩
variable{ns:List Int}
theorem Vw.BH(h:Vw M F H v (.BH ns))(s:eQ F H):∃a,v=.ref a/\Bs M.K H a (ns.map V.int):=by
 rcases h with h|⟨a,rfl,h⟩
 ·cases h with
  |BH h=>exact⟨_,rfl,er s h.sq⟩
 ·exact h.elim
def AS:List PV->Option PV
 |[.lst xs]=>some (.int xs.length)
 |[.tup xs]=>some (.int xs.length)
 |[.Av xs]=>some (.int xs.length)
 |[.str s]=>if s.length<=100000 then some (.int s.length)else none
 |[.BH ns]=>some (.int ns.length)
 |_=>none
def MK(K:aah):List V->Hp->VK->Prop:=λxs H Q=>(∃p ys,xs=[.ref p]/\(Bs K H p ys\/AW K H p ys)/\Q (.int ys.length) H)\/((∃z,xs=[.str z]/\z.length<=sizeLine/\Q (.int z.length) H)\/∃a kvs,xs=[V.ref a]/\H a=some (.dK kvs)/\Q (.int kvs.length) H)
theorem bz:zZ X (.builtin "len") (MK X.K):=zZ.or i7 (zZ.or pk tS)
theorem bA:Dy ob X (MK X.K) AS:=by
 intro Z F σ H env vs xs z Q K rv hz k
 unfold AS at hz
 split at hz
 ·cases hz
  obtain⟨v,rfl,r⟩:=rv.one
  obtain⟨p,vs,rfl,h1,h2⟩:=r.lst K.sF
  exact .inl ⟨p,vs,rfl,.inl (.inl (.inl h1)),k _ F H aq K (by rw[h2.len];exact .int _)⟩
 ·cases hz
  obtain⟨v,rfl,r⟩:=rv.one
  obtain⟨p,vs,rfl,h1,h2⟩:=r.tup K.sF
  exact .inl ⟨p,vs,rfl,.inr h1,k _ F H aq K (by rw[h2.len];exact .int _)⟩
 ·cases hz
  obtain⟨v,rfl,r⟩:=rv.one
  obtain⟨p,vs,rfl,h1,h2⟩:=r.Av K.sF
  exact .inr (.inr ⟨p,vs,rfl,h1,k _ F H aq K (by rw[h2.len];exact .int _)⟩)
 ·split at hz
  ·cases hz
   obtain⟨v,rfl,r⟩:=rv.one
   rw[r.str]
   exact .inr (.inl ⟨_,rfl,by rw[aaz];omega,k _ F H aq K (.int _)⟩)
  ·cases hz
 ·cases hz
  obtain⟨v,rfl,r⟩:=rv.one
  obtain⟨p,rfl,h1⟩:=r.BH K.sF
  exact .inl ⟨p,_,rfl,.inl h1,k _ F H aq K (by rw[aad];exact .int _)⟩
 ·cases hz
def ba:List PV->Option PV
 |[.lst xs]=>some (.tup xs)
 |[.tup xs]=>some (.tup xs)
 |_=>none
def HV(K:aah):List V->Hp->VK->Prop:=λxs H Q=>∃p ys,xs=[.ref p]/\((Bs K H p ys/\∀l,H l=none->Q (.ref l) (upd H l (.tup ys)))\/(AW K H p ys/\Q (.ref p) H))
theorem aX:zZ X (.type "tuple") (HV X.K):=nL
theorem aY:Dy ob X (HV X.K) ba:=by
 intro Z F σ H env vs xs z Q K rv hz k
 unfold ba at hz
 split at hz
 ·cases hz
  obtain⟨v,rfl,r⟩:=rv.one
  obtain⟨p,vs,rfl,h1,h2⟩:=r.lst K.sF
  refine⟨p,vs,rfl,.inl ⟨.inl (.inl h1),λl hl=>?_⟩⟩
  have hF:F l=none:=eQ.none_of K.sF hl
  exact k _ _ _ (az hF) (K.lay hl) (.tup (.inl (.inl ao)) (h2.mono (az hF)))
 ·cases hz
  obtain⟨v,rfl,r⟩:=rv.one
  have r':=r.HH
  obtain⟨p,vs,rfl,h1,h2⟩:=r.tup K.sF
  exact⟨p,vs,rfl,.inr ⟨h1,k _ F H aq K r'⟩⟩
 ·cases hz
def D4:List PV->Option PV
 |[.lst xs]=>some (.lst xs)
 |[.tup xs]=>some (.lst xs)
 |[.BH ns]=>some (.lst (ns.map .int))
 |_=>none
def JY(K:aah):List V->Hp->VK->Prop:=λxs H Q=>∃p ys,xs=[.ref p]/\(Bs K H p ys\/AW K H p ys)/\∀l,H l=none->Q (.ref l) (upd H l (.lst ys))
theorem mH:zZ X (.type "list") (JY X.K):=pj
theorem fB:∀(ns:List Int),zL K F (ns.map V.int) (ns.map PV.int)
 |[]=>.nil
 |n::ns=>.cons (.int n) (fB ns)
theorem mJ:El ob X (JY X.K) D4:=by
 intro Z F σ H env vs xs z Q K rv hz k
 unfold D4 at hz
 split at hz
 ·cases hz
  obtain⟨v,rfl,r⟩:=rv.one
  obtain⟨p,vs,rfl,h1,h2⟩:=r.lst K.sF
  exact⟨p,vs,rfl,.inl (.inl (.inl h1)),λl hl=>k _ _ (λ_=>by simp) (K.own hl ⟨vs,ao,h2⟩)⟩
 ·cases hz
  obtain⟨v,rfl,r⟩:=rv.one
  obtain⟨p,vs,rfl,h1,h2⟩:=r.tup K.sF
  exact⟨p,vs,rfl,.inr h1,λl hl=>k _ _ (λ_=>by simp) (K.own hl ⟨vs,ao,h2⟩)⟩
 ·cases hz
  obtain⟨v,rfl,r⟩:=rv.one
  obtain⟨p,rfl,h1⟩:=r.BH K.sF
  exact⟨p,_,rfl,.inl h1,λl hl=>k _ _ (λ_=>by simp) (K.own hl ⟨_,ao,fB _⟩)⟩
 ·cases hz
def Ib:List PV->Option PV
 |[.int i,.int j]=>some (.int (if j<i then j else i))
 |[.str s,.str t]=>some (.str (Cf s t))
 |_=>none
def Fy:List PV->Option PV
 |[.int i,.int j]=>some (.int (if j > i then j else i))
 |[.str s,.str t]=>some (.str (Cg s t))
 |_=>none
theorem zd(hc:X.calm=true):zZ X (.builtin "min") (λxs H Q=>(∃i j,xs=[.int i,.int j]/\Q (.int (if j<i then j else i)) H)\/∃x y,xs=[.str x,.str y]/\Q (.str (Cf x y)) H):=zZ.or (tQ hc) (rn hc)
theorem tM(hc:X.calm=true):zZ X (.builtin "max") (λxs H Q=>(∃i j,xs=[.int i,.int j]/\Q (.int (if j > i then j else i)) H)\/∃x y,xs=[.str x,.str y]/\Q (.str (Cg x y)) H):=zZ.or (tR hc) (rq hc)
theorem zf:Dy ob X (λxs H Q=>(∃i j,xs=[.int i,.int j]/\Q (.int (if j<i then j else i)) H)\/∃x y,xs=[.str x,.str y]/\Q (.str (Cf x y)) H) Ib:=by
 intro Z F σ H env vs xs z Q K rv hz k
 unfold Ib at hz
 split at hz
 ·cases hz
  obtain⟨v,u,rfl,r1,r2⟩:=rv.two
  rw[r1.int,r2.int]
  exact .inl ⟨_,_,rfl,k _ F H aq K (.int _)⟩
 ·cases hz
  obtain⟨v,u,rfl,r1,r2⟩:=rv.two
  rw[r1.str,r2.str]
  exact .inr ⟨_,_,rfl,k _ F H aq K (.str _)⟩
 ·cases hz
theorem tN:Dy ob X (λxs H Q=>(∃i j,xs=[.int i,.int j]/\Q (.int (if j > i then j else i)) H)\/∃x y,xs=[.str x,.str y]/\Q (.str (Cg x y)) H) Fy:=by
 intro Z F σ H env vs xs z Q K rv hz k
 unfold Fy at hz
 split at hz
 ·cases hz
  obtain⟨v,u,rfl,r1,r2⟩:=rv.two
  rw[r1.int,r2.int]
  exact .inl ⟨_,_,rfl,k _ F H aq K (.int _)⟩
 ·cases hz
  obtain⟨v,u,rfl,r1,r2⟩:=rv.two
  rw[r1.str,r2.str]
  exact .inr ⟨_,_,rfl,k _ F H aq K (.str _)⟩
 ·cases hz
def Ii:PV->Option Int
 |.int i=>some i
 |_=>none
def Bo:PV->Option Str
 |.str i=>some i
 |_=>none
theorem cF{g:PV->Option α}{w:α->V}(hg:∀x a,g x=some a->∀v,Rep K F v x->v=w a):∀{xs:List PV} {as:List α} {vs:List V},xs.mapM g=some as->zL K F vs xs->vs=as.map w
 |[],as,vs,h,r=>by simp at h;subst h;cases r;rfl
 |x::xs,as,vs,h,r=>by
  rw[aa8]at h
  cases ea:g x with
  |none=>rw[ea]at h;cases h
  |some a=>
   rw[ea]at h
   cases el:xs.mapM g with
   |none=>rw[el]at h;cases h
   |some bs=>
    rw[el]at h
    have h:some (a::bs)=some as:=h
    cases h
    cases r with
    |cons r1 r2=>rw[aap,hg x a ea _ r1,cF hg el r2]
def Dx:List PV->Option PV
 |[.lst xs]=>(xs.mapM ED).map λbs=>.bl (bs.all id)
 |_=>none
theorem zi(x:PV)(a:Bool)(h:ED x=some a)(v:V)(r:Rep K F v x):v=.bl a:=by cases x<;>cases h;cases r;rfl
theorem gb(x:PV)(a:Str)(h:Bo x=some a)(v:V)(r:Rep K F v x):v=.str a:=by cases x<;>cases h;cases r;rfl
theorem lG:Dy ob X (λxs H Q=>∃(p:Addr) (bs:List Bool),xs=[.ref p]/\Bs X.K H p (bs.map V.bl)/\Q (.bl (bs.all id)) H) Dx:=by
 intro Z F σ H env vs xs z Q K rv hz k
 unfold Dx at hz
 split at hz
 ·rw[aaD]at hz
  obtain⟨ns,hn,rfl⟩:=hz
  obtain⟨v,rfl,r⟩:=rv.one
  obtain⟨p,vs,rfl,h1,h2⟩:=r.lst K.sF
  have:=cF zi hn h2
  subst this
  exact⟨p,ns,rfl,.inl (.inl h1),k _ F H aq K (.bl _)⟩
 ·cases hz
abbrev WO:=En->(Option Int->En->Prop)->Prop
structure O3(ob:BG)(X:Cx)(e:Option Expr)(f:WO):Prop where
 ex:∃t:TO,PO X e t/\∀(Z:Zn) (F:Hp) (σ:L2.St) (H:Hp) (env:En) (P:Option Int->En->Prop) (Q:Option Int->Hp->Prop),zW (md ob X) Z F σ H env->f env P ->
  (∀i dO F' H',P i dO->eQ F F'->zW (md ob X) Z F' σ H' dO->Q i H')->t σ H Q
def Bc:WO:=λenv P=>P none env
def AY(a:WE):WO:=λenv P=>a env λx e=>opt (Ii x) λi=>P (some i) e
theorem bC:O3 ob X none Bc:=⟨_,lX,λZ F σ H env P Q K hf k=>k none env F H hf aq K⟩
theorem bh(h:DQ ob X e f):O3 ob X (some e) (AY f):=by
 obtain⟨t,ht,k⟩:=h.ex
 refine⟨_,lW ht,λZ F σ H env P Q K hf kk=>k Z F σ H env _ _ K hf λx e1 v F1 H1 p s1 K1 r1=>?_⟩
 obtain⟨z,hz,p⟩:=p
 cases x<;>cases hz
 rw[r1.int]
 exact⟨_,rfl,kk _ e1 F1 H1 p s1 K1⟩
def Br(xs:List α)(lo hi:Option Int):List α:=(xs.drop (HT.AL xs.length 0 lo)).take (HT.AL xs.length xs.length hi - HT.AL xs.length 0 lo)
def Jh:PV->Option Int->Option Int->Option PV
 |.lst xs,lo,hi=>some (.lst (Br xs lo hi))
 |.tup xs,lo,hi=>some (.tup (Br xs lo hi))
 |.BH ns,lo,hi=>some (.lst ((Br ns lo hi).map .int))
 |_,_,_=>none
def Fb(a:WE)(lo hi:WO):WE:=λenv P=>a env λx e1=>lo e1 λl e2=>hi e2 λu e3=>opt (Jh x l u) λz=>P z e3
theorem o6{vs:List V}{xs:List PV}{lo hi:Option Int}(r:zL K F vs xs):zL K F (Dm vs lo hi) (Br xs lo hi):=by
 unfold Dm Br
 rw[r.len]
 exact(r.drop _).take _
theorem xH{lo hi:Option Int}:Dm (ns.map V.int) lo hi=(Br ns lo hi).map V.int:=by
 unfold Dm Br
 rw[aad,ad9,List.map_drop]
theorem Rep.vw{x:PV}(h:Rep M.K F v x):Vw M F H v x:=.inl h
variable{p2:Pos}
theorem bX{l u:Option Expr}{lo hi:WO}(ha:Am ob X a f)(hl:O3 ob X l lo)(hu:O3 ob X u hi):Am ob X (.Subscript a (.Slice l u none p2) pos) (Fb f lo hi):=by
 obtain⟨t,ht,k⟩:=ha.ex
 obtain⟨t1,Il,k1⟩:=hl.ex
 obtain⟨t2,Ik,k2⟩:=hu.ex
 refine⟨_,j8 (JI.or lN wm) ht Il Ik,λZ F σ H env P Q K hf kk=>k Z F σ H env _ _ K hf λx e1 v F1 H1 p s1 K1 r1=>?_⟩
 refine k1 Z F1 σ H1 e1 _ _ K1 p λi e2 F2 H2 p2 s2 K2=>k2 Z F2 σ H2 e2 _ _ K2 p2 λj e3 F3 H3 p3 s3 K3=>?_
 obtain⟨z,hz,p3⟩:=p3
 have r3:=(r1.mono s2).mono s3
 have s4:=aj s1 (aj s2 s3)
 have PN:Vw (md ob X) F3 H3 v x:=.inl r3
 cases x<;>simp only[Jh]at hz<;>cases hz
 ·obtain⟨q,vs,rfl,h1,h2⟩:=PN.tup K3.sF
  refine .inr ⟨q,vs,rfl,h1,λhw=>kk _ e3 _ F3 H3 p3 s4 K3 ?_,λl hl=>?_⟩
  ·have:Br (α:=PV) ‹_› i j=‹List PV›:=by
    unfold Br
    rw[<- h2.len,hw.1,hw.2]
    simp[h2.len]
   rw[this];exact r3
  ·have hF:F3 l=none:=eQ.none_of K3.sF hl
   exact kk _ e3 _ _ _ p3 (aj s4 (az hF)) (K3.lay hl) (.tup (.inl (.inl ao)) ((o6 h2).mono (az hF)))
 ·obtain⟨q,vs,rfl,h1,h2⟩:=PN.lst K3.sF
  refine .inl ⟨q,vs,rfl,.inl (.inl h1),λl hl=>?_⟩
  have hF:F3 l=none:=eQ.none_of K3.sF hl
  exact kk _ e3 _ _ _ p3 (aj s4 (az hF)) (K3.lay hl) (.lst ao ((o6 h2).mono (az hF)))
 ·obtain⟨q,rfl,h1⟩:=PN.BH K3.sF
  refine .inl ⟨q,_,rfl,h1,λl hl=>?_⟩
  have hF:F3 l=none:=eQ.none_of K3.sF hl
  exact kk _ e3 _ _ _ p3 (aj s4 (az hF)) (K3.lay hl) (.lst (by rw[ao,xH]) (fB _))
structure N8(M:Md)(Z:Zn)(F:Hp)(P:Wd)(D:Ends):Prop where
 nx:∀env σ F' H,P.nx env->eQ F F'->zW M Z F' σ H env->D.nx σ H
 rt:∀x env v σ F' H,P.rt x env->eQ F F'->zW M Z F' σ H env->Rep M.K F' v x->D.rt v H
 bk:∀env σ F' H,P.bk env->eQ F F'->zW M Z F' σ H env->D.bk σ H
 ct:∀env σ F' H,P.ct env->eQ F F'->zW M Z F' σ H env->D.ct σ H
 rf:∀x env v σ F' H,P.rf x env->eQ F F'->(∀xs,x≠.set xs)->zW M Z F' (σ++[some v]) H (env++[some ⟨1,x⟩])->D.rt v H
 ro:∀x i env v σ F' H,P.ro x i env->eQ F F'->zW M Z F' σ H env->env[i]?=some (some ⟨4,x⟩)->σ[i]?=some (some v)->D.rt v H
variable{Z:Zn}{P:Wd}
theorem N8.mono{F1:Hp}{D:Ends}(h:N8 M Z F P D)(s:eQ F F1):N8 M Z F1 P D :=
 ⟨λe σ F' H p q=>h.nx e σ F' H p (aj s q),λx e v σ F' H p q=>h.rt x e v σ F' H p (aj s q),λe σ F' H p q=>h.bk e σ F' H p (aj s q),λe σ F' H p q=>h.ct e σ F' H p (aj s q),λx e v σ F' H p q=>h.rf x e v σ F' H p (aj s q),λx i e v σ F' H p q=>h.ro x i e v σ F' H p (aj s q)⟩
structure FY(ob:BG)(X:Cx)(st:Stmt)(f:WS):Prop where
 ex:∃t:TS,PS X st t/\∀(Z:Zn) (F:Hp) (σ:L2.St) (H:Hp) (env:En) (P:Wd) (D:Ends),zW (md ob X) Z F σ H env->f P env->N8 (md ob X) Z F P D->t D σ H
structure Ej(ob:BG)(X:Cx)(st:List Stmt)(f:WS):Prop where
 ex:∃t:TS,GP X st t/\∀(Z:Zn) (F:Hp) (σ:L2.St) (H:Hp) (env:En) (P:Wd) (D:Ends),zW (md ob X) Z F σ H env->f P env->N8 (md ob X) Z F P D->t D σ H
abbrev WG:=PV->En->(En->Prop)->Prop
structure Od(ob:BG)(X:Cx)(tg:Expr)(f:WG):Prop where
 ex:∃t:TG,PG X tg t/\∀(Z:Zn) (F:Hp) (σ:L2.St) (H:Hp) (env:En) (v:V) (x:PV) (P:En->Prop) (Q:L2.St->Hp->Prop),zW (md ob X) Z F σ H env->Rep X.K F v x->f x env P ->
  (∀dO σ' F' H',P dO->eQ F F'->zW (md ob X) Z F' σ' H' dO->Q σ' H')->t v σ H Q
abbrev Kg:=List PV->En->(En->Prop)->Prop
structure JM(ob:BG)(X:Cx)(S0:List Expr)(f:Kg):Prop where
 ex:∃t:HC,N5 X S0 t/\∀(Z:Zn) (F:Hp) (σ:L2.St) (H:Hp) (env:En) (vs:List V) (xs:List PV) (P:En->Prop) (Q:L2.St->Hp->Prop),zW (md ob X) Z F σ H env->zL X.K F vs xs->f xs env P ->
  (∀dO σ' F' H',P dO->eQ F F'->zW (md ob X) Z F' σ' H' dO->Q σ' H')->t vs σ H Q
def oF(a b:WS):WS:=λP env=>a {P with nx:=b P} env
def AF:WS:=λP env=>P.nx env
def zX(a:WE):WS:=λP env=>a env P.rt
def Ct(a:WE):WS:=λP env=>a env λ_ e=>P.nx e
def BN(c:WT)(a b:WS):WS:=λP env=>c env λk e=>if k=true then a P e else b P e
def Ad(i:Nat)(a:WE):WS:=λP env=>a env λx e=>P.nx (e.set i (some ⟨0,x⟩))
def Bw(i:Nat)(a:WE):WS:=λP env=>a env λx e=>P.nx (e.set i (some ⟨1,x⟩))
def gN(i:Nat):WG:=λx env P=>P (env.set i (some ⟨0,x⟩))
def CH:Kg:=λxs env P=>xs=[]/\P env
def Ap(g:WG)(r:Kg):Kg:=λxs env P=>match xs with
 |[]=>False
 |x::xs=>g x env λe=>r xs e P
def gT(r:Kg):WG:=λx env P=>match x with
 |.tup xs=>r xs env P
 |_=>False
def Fs(a:WE)(g:WG):WS:=λP env=>a env λx e=>g x e P.nx
def HP(i j:Nat)(a:WA):WS:=λP env=>a env λxs e=>match xs with
 |[x,y]=>P.nx ((e.set i (some ⟨0,x⟩)).set j (some ⟨0,y⟩))
 |_=>False
variable{tg:Expr}{st:Stmt}{Oq:List Stmt}{u v:WS}
theorem aF:Ej ob X [] AF:=⟨_,qd,λZ F σ H env P D K hf L=>L.nx env σ F H hf aq K⟩
theorem ag(h1:FY ob X st u)(h2:Ej ob X Oq v):Ej ob X (st::Oq) (oF u v):=by
 obtain⟨t1,Il,k1⟩:=h1.ex
 obtain⟨t2,Ik,k2⟩:=h2.ex
 refine⟨_,bT Il Ik,λZ F σ H env P D K hf L=>k1 Z F σ H env _ _ K hf ⟨λe σ' F' H' p s K'=>?_,L.rt,L.bk,L.ct,L.rf,L.ro⟩⟩
 exact k2 Z F' σ' H' e P D K' p (L.mono s)
theorem ap(h1:FY ob X st u):Ej ob X [st] u:=by
 obtain⟨t1,Il,k1⟩:=h1.ex
 exact⟨t1,dk Il,k1⟩
theorem ay(h:Am ob X e f):FY ob X (.Return (some e) pos) (zX f):=by
 obtain⟨t,ht,k⟩:=h.ex
 exact⟨_,iL ht,λZ F σ H env P D K hf L=>k Z F σ H env _ _ K hf λx e1 v F1 H1 p s1 K1 r1=>L.rt x e1 v σ F1 H1 p s1 K1 r1⟩
theorem dt(h:DQ ob X e f)(hs:acP e none pos.line X.env=pure false:=by rfl):FY ob X (.Expr e pos) (Ct f):=by
 obtain⟨t,ht,k⟩:=h.ex
 exact⟨_,qe ht hs,λZ F σ H env P D K hf L=>k Z F σ H env _ _ K hf λx e1 v F1 H1 p s1 K1 r1=>L.nx e1 σ F1 H1 p s1 K1⟩
theorem aK{s1 s2:List Stmt}(hc:GR ob X c t)(ha:Ej ob X s1 u)(hb:Ej ob X s2 v):FY ob X (.If c s1 s2 pos) (BN t u v):=by
 obtain⟨w,hw,k⟩:=hc.ex
 obtain⟨ta,ha,ka⟩:=ha.ex
 obtain⟨tb,hb,kb⟩:=hb.ex
 refine⟨_,vE hw ha hb,λZ F σ H env P D K hf L=>k Z F σ H env _ _ K hf λx e1 F1 H1 p s1 K1=>?_⟩
 cases x with
 |true=>exact Ey (ka Z F1 σ H1 e1 P D K1 p (L.mono s1))
 |false=>exact D6 (kb Z F1 σ H1 e1 P D K1 p (L.mono s1))
theorem aC(i:Nat){pos':Pos}(hN:X.N.Nodup)(hi:X.N[i]?=some x)(hx:Loc X.env.scope x)(he:Am ob X e f)(hs:acP e (some (.Name x pos')) pos.line X.env=pure false:=by rfl)(hf:X.fn x=true\/X.env.scope.names.lookup x=some .local:=by first|exact .inl rfl|exact .inr rfl|assumption):
  FY ob X (.Assign [.Name x pos'] e pos) (Ad i f):=by
 obtain⟨t,ht,k⟩:=he.ex
 exact⟨_,eS hN hi hx ht hs hf,λZ F σ H env P D K hf L=>k Z F σ H env _ _ K hf λx e1 v F1 H1 p s1 K1 r1=>L.nx _ _ F1 H1 p s1 (K1.put r1)⟩
theorem dr(i:Nat){pos':Pos}(hN:X.N.Nodup)(hi:X.N[i]?=some x)(hx:Loc X.env.scope x)(he:GS ob X e f)(hs:acP e (some (.Name x pos')) pos.line X.env=pure false:=by rfl)(hf:X.fn x=true\/X.env.scope.names.lookup x=some .local:=by first|exact .inl rfl|exact .inr rfl|assumption):
  FY ob X (.Assign [.Name x pos'] e pos) (Bw i f):=by
 obtain⟨t,ht,k⟩:=he.ex
 exact⟨_,eS hN hi hx ht hs hf,λZ F σ H env P D K hf L=>k Z F σ H env _ _ K hf λx e1 v F1 H1 p s1 _ K1=>L.nx _ _ F1 H1 p s1 K1.take⟩
theorem aO(i:Nat)(hN:X.N.Nodup)(hi:X.N[i]?=some x)(hx:Loc X.env.scope x)(hf:X.fn x=true\/X.env.scope.names.lookup x=some .local:=by first|exact .inl rfl|exact .inr rfl|assumption):Od ob X (.Name x pos) (gN i) :=
 ⟨_,aG hN hi hx hf,λZ F σ H env v x P Q K r hf k=>k _ _ F H hf aq (K.put r)⟩
theorem du:JM ob X [] CH:=⟨_,jg,λZ F σ H env vs xs P Q K r hf k=>by obtain⟨rfl,hf⟩:=hf;cases r;exact⟨rfl,k env σ F H hf aq K⟩⟩
theorem aW{g:WG}{r:Kg}(h1:Od ob X e g)(h2:JM ob X es r)(hs:(acy (e::es) X.env).map (·.2)=assign e X.env::(acy es X.env).map (·.2):=by rfl):JM ob X (e::es) (Ap g r):=by
 obtain⟨t1,Il,k1⟩:=h1.ex
 obtain⟨t2,Ik,k2⟩:=h2.ex
 refine⟨_,cG Il Ik hs,λZ F σ H env vs xs P Q K r hf k=>?_⟩
 cases r with
 |nil=>exact hf.elim
 |cons r1 r2=>
  refine⟨_,_,rfl,k1 Z F σ H env _ _ _ _ K r1 hf λe1 σ1 F1 H1 p s1 K1=>?_⟩
  exact k2 Z F1 σ1 H1 e1 _ _ P Q K1 (r2.mono s1) p λe2 σ2 F2 H2 p2 s2 K2=>k e2 σ2 F2 H2 p2 (aj s1 s2) K2
variable{n:Nat}
theorem fm{r:Kg}{k:Nat}(hc:X.calm=true)(h:JM ob X es r)(hl:∀xs env P,r xs env P->xs.length=n)(hn:(acy es X.env).length=n:=by rfl)(Im:(acy es X.env).findIdx? (·.1)=none:=by rfl):Od ob X (.Tuple es k pos) (gT r):=by
 obtain⟨t,ht,kk⟩:=h.ex
 refine⟨_,kZ hc ht hn Im,λZ F σ H env v x P Q K r hf k=>?_⟩
 unfold gT at hf
 split at hf
 ·have hl:=hl _ _ _ hf
  cases r with
  |tup h1 h2=>exact⟨_,_,rfl,aw K.sF h1,by rw[h2.len];exact hl,kk Z F σ H env _ _ P Q K h2 hf k⟩
 ·exact hf.elim
theorem e8:∀xs env P,CH xs env P->xs.length=0:=λxs env P h=>by obtain⟨rfl,_⟩:=h;rfl
theorem bc{i:Nat}{r:Kg}(h:∀xs env P,r xs env P->xs.length=n):∀xs env P,Ap (gN i) r xs env P->xs.length=n+1:=λxs env P q=>by
 cases xs with
 |nil=>exact q.elim
 |cons x xs=>exact congrArg (·+1) (h _ _ _ q)
theorem gz{g:WG}(he:Am ob X e f)(hg:Od ob X tg g)(hs:ad0 [tg] e pos.line X.env=pure false:=by rfl)(hw:ad1 [tg] e X.env=pure none:=by rfl)
  (h1:(acy [tg] X.env).map (·.2)=[assign tg X.env]:=by rfl):FY ob X (.Assign [tg] e pos) (Fs f g):=by
 obtain⟨t,ht,k⟩:=he.ex
 obtain⟨t1,Il,k1⟩:=hg.ex
 refine⟨_,kY ht Il hs hw h1,λZ F σ H env P D K hf L=>k Z F σ H env _ _ K hf λx e1 v F1 H1 p s1 K1 r1=>?_⟩
 exact k1 Z F1 σ H1 e1 v x _ _ K1 r1 p λe2 σ2 F2 H2 p2 s2 K2=>L.nx e2 σ2 F2 H2 p2 (aj s1 s2) K2
variable{py:Pos}
theorem sZ(i j:Nat){y:Str}{px pt:Pos}{kt k2 pt2}(hc:X.calm=true)(hN:X.N.Nodup)(hi:X.N[i]?=some x)(hj:X.N[j]?=some y)(DH:i≠j)
  (hx:X.env.scope.names.lookup x=some .local) (hy:X.env.scope.names.lookup y=some .local) (ha:FQ ob X [a,b] fa)
  (hw:ad1 [.Tuple [.Name x px,.Name y py] kt pt] (.Tuple [a,b] k2 pt2) X.env=pure (some [x,y]))
  (hs:ad0 [.Tuple [.Name x px,.Name y py] kt pt] (.Tuple [a,b] k2 pt2) pos.line X.env=pure false:=by rfl) :
  FY ob X (.Assign [.Tuple [.Name x px,.Name y py] kt pt] (.Tuple [a,b] k2 pt2) pos) (HP i j fa):=by
 obtain⟨t,ht,k⟩:=ha.ex
 refine⟨_,yc hc hN hi hj DH hx hy ht hw hs,λZ F σ H env P D K hf L=>k Z F σ H env _ _ K hf λxs e1 vs F1 H1 p hl s1 K1 r1=>?_⟩
 cases r1 with
 |nil=>cases hl
 |cons r1 r2=>cases r2 with
  |nil=>cases hl
  |cons r2 r3=>cases r3 with
   |nil=>exact⟨_,_,rfl,L.nx _ _ F1 H1 p s1 ((K1.put r1).put r2)⟩
   |cons=>simp at hl
structure Fj(M:Md)(J:It)(F:Hp)(xs:List PV):Prop where
 go:∀(Z:Zn) (i:Nat) (σ:L2.St) (env:En) (F' H:Hp) (x:PV),eQ F F'->zW M Z F' σ H env->xs[i]?=some x->J.go i H/\∀v H',J.yld i H v H'->∃O2,eQ F' O2/\zW M Z O2 σ H' env/\Rep M.K O2 v x/\eQ H H'/\∀a,O2 a≠none->F' a≠none\/H a=none
 stop:∀(Z:Zn) (i:Nat) (σ:L2.St) (env:En) (F' H:Hp),eQ F F'->zW M Z F' σ H env->xs.length<=i->J.stop i H
structure Jc(ob:BG)(X:Cx)(tg it:Expr)(f:WA):Prop where
 ex:∃wi:TI,PI X tg it wi/\∀(Z:Zn) (F:Hp) (σ:L2.St) (H:Hp) (env:En) (P:List PV->En->Prop) (R:It->Hp->Prop),zW (md ob X) Z F σ H env->f env P ->
  (∀xs dO J F' H',P xs dO->eQ F F'->zW (md ob X) Z F' σ H' dO->Fj (md ob X) J F' xs->R J H')->wi σ H R
theorem yW{a:Addr}{vs:List V}{xs:List PV}(h:F a=some (.lst vs))(r:zL M.K F vs xs):Fj M (Jb M.K a) F xs:=by
 refine⟨λZ i σ env F' H x s K e=>?_,λZ i σ env F' H s K hl=>⟨vs,.inl (.inl (K.sF _ _ (s _ _ h))),by rw[r.len];exact hl⟩⟩
 obtain⟨v,hv,rv⟩:=r.get e
 have hH:Bs M.K H a vs:=.inl (.inl (K.sF _ _ (s _ _ h)))
 refine⟨⟨vs,v,hH,hv⟩,λv' H' y=>?_⟩
 obtain⟨rfl,y⟩:=y
 have:=y vs hH
 rw[hv]at this;cases this
 exact⟨F',aq,K,rv.mono s,aq,λ_ h=>.inl h⟩
theorem yT{a:Addr}{vs:List V}{xs:List PV}(h:AW M.K F a vs)(r:zL M.K F vs xs):Fj M (Rk M.K a) F xs:=by
 refine⟨λZ i σ env F' H x s K e=>?_,λZ i σ env F' H s K hl=>⟨vs,aw K.sF (aw s h),by rw[r.len];exact hl⟩⟩
 obtain⟨v,hv,rv⟩:=r.get e
 have hH:AW M.K H a vs:=aw K.sF (aw s h)
 refine⟨⟨vs,v,hH,hv⟩,λv' H' y=>?_⟩
 obtain⟨rfl,y⟩:=y
 have:=y vs hH
 rw[hv]at this;cases this
 exact⟨F',aq,K,rv.mono s,aq,λ_ h=>.inl h⟩
def Qh(K:aah)(tl:TE):TI:=λσ H R=>tl σ H λx H1=>∃a,x=.ref a/\(((∃xs,Bs K H1 a xs)/\R (Jb K a) H1)\/((∃xs,AW K H1 a xs)/\R (Rk K a) H1))
theorem yh{l:Expr}{tl:TE}(hl:PE X l tl):PI X tg l (Qh X.K tl):=by
 intro pins s σ H R I h
 refine Aw (hl pins s σ H _ I h) λv s1 ⟨x,H1,I1,r1,q1⟩=>?_
 obtain⟨a,e,q⟩:=q1
 subst e
 cases r1
 rcases q with ⟨⟨xs,hq⟩,q⟩|⟨⟨xs,hq⟩,q⟩
 ·obtain⟨iD,rv,p,hz⟩:=I1.list hq
  refine adf p.isList ?_
  refine⟨s1.heap.objs.size,[s1.heap.objs.size],_,_,H1,rfl,I1.kept (t':=s1.toks) λb o e=>aac _ e,mT a _,⟨_,aai _ rfl,rfl,rfl⟩,λb hb=>?_,q⟩
  have e:b=s1.heap.objs.size:=by simpa using hb
  subst e
  exact I1.GA (aak _) (I1.zY.fresh (aak _))
 ·obtain⟨iD,rv,p,hz⟩:=I1.tuple hq
  refine ac1 (show s1.heap.IsTuple a iD.toArray from p) ?_
  refine⟨s1.heap.objs.size,[s1.heap.objs.size],_,_,H1,rfl,I1.kept (t':=s1.toks) λb o e=>aac _ e,qH a _,⟨_,aai _ rfl,rfl,rfl⟩,λb hb=>?_,q⟩
  have e:b=s1.heap.objs.size:=by simpa using hb
  subst e
  exact I1.GA (aak _) (I1.zY.fresh (aak _))
def iS(a:WE):WA:=λenv P=>a env λx e=>match x with
 |.lst xs=>P xs e
 |.tup xs=>P xs e
 |_=>False
theorem aP(h:Am ob X e f):Jc ob X tg e (iS f):=by
 obtain⟨t,ht,k⟩:=h.ex
 refine⟨_,yh ht,λZ F σ H env P R K hf kk=>k Z F σ H env _ _ K hf λx e1 v F1 H1 p s1 K1 r1=>?_⟩
 cases r1 with
 |tup h1 h2=>exact⟨_,rfl,.inr ⟨⟨_,aw K1.sF h1⟩,kk _ e1 _ F1 H1 p s1 K1 (yT h1 h2)⟩⟩
 |lst h1 h2=>exact⟨_,rfl,.inl ⟨⟨_,.inl (.inl (K1.sF _ _ h1))⟩,kk _ e1 _ F1 H1 p s1 K1 (yW h1 h2)⟩⟩
 |_=>exact p.elim
def DD(lo:Int)(n:Nat):List PV:=(aaM n).map λ(k:Nat)=>.int (lo+(k:Int))
theorem yV{lo:Int}:Fj M (OY lo n) F (DD lo n):=by
 refine⟨λZ i σ env F' H x s K e=>?_,λZ i σ env F' H s K hl=>show n<=i by simpa[DD]using hl⟩
 have hi:i<n:=by
  rcases aaZ i n with h|h
  ·exact h
  ·rw[aan (by simpa[DD]using h)]at e;cases e
 have ex:x=.int (lo+i):=by
  unfold DD at e
  rw[aal,abJ hi]at e
  exact(aau e).symm
 subst ex
 refine⟨hi,λv' H' y=>?_⟩
 obtain⟨rfl,rfl⟩:=y
 exact⟨F',aq,K,.int _,aq,λ_ h=>.inl h⟩
def Lk(a:WA):WA:=λenv P=>a env λxs e=>match xs with
 |[.int j]=> -1000000<=j/\j<=1000000/\P (DD 0 j.toNat) e
 |_=>False
def Tw(a:WA):WA:=λenv P=>a env λxs e=>match xs with
 |[.int i,.int j]=>(-1000000<=i/\i<=1000000 /\ -1000000<=j/\j<=1000000)/\P (DD i (j - i).toNat) e
 |_=>False
theorem fI(hg:Gl X "range")(hm:X.mg "range" = none)(ha:FQ ob X [a] fa)(hs:aam [a] X.env=[(false,eval a X.env)]:=by rfl):Jc ob X tg (.Call (.Name "range" p) [a] [] pos) (Lk fa):=by
 obtain⟨t,ht,k⟩:=ha.ex
 refine⟨_,r9 hg hm ht hs,λZ F σ H env P R K hf kk=>k Z F σ H env _ _ K hf λxs e1 vs F1 H1 p _ s1 K1 r1=>?_⟩
 split at p
 ·cases r1 with
  |cons r1 r2=>
   cases r1
   cases r2
   exact⟨_,rfl,by omega,by omega,kk _ e1 _ F1 H1 p.2.2 s1 K1 yV⟩
 ·exact p.elim
def DA(xs ys:List PV):List PV:=(xs.zip ys).map λp=>.tup [p.1,p.2]
variable{ys:List PV}
theorem yS{a b:Addr}{vs:List V}{xs:List PV}(h1:AW M.K F a vs)(r1:zL M.K F vs xs)(h2:AW M.K F b ws)(r2:zL M.K F ws ys):Fj M (Rj M.K a b) F (DA xs ys):=by
 refine⟨λZ i σ env F' H x s K e=>?_,λZ i σ env F' H s K hl=>⟨vs,ws,aw K.sF (aw s h1),aw K.sF (aw s h2),?_⟩⟩
 ·unfold DA at e
  rw[aal]at e
  cases ez:(xs.zip ys)[i]? with
  |none=>rw[ez]at e;cases e
  |some q=>
   rw[ez]at e
   obtain⟨x1,x2⟩:=q
   rw[aaX]at ez
   have e:x=.tup [x1,x2]:=(aau e).symm
   subst e
   obtain⟨v1,q1,q2⟩:=r1.get ez.1
   obtain⟨v2,q3,q4⟩:=r2.get ez.2
   have g1:=aw K.sF (aw s h1)
   have g2:=aw K.sF (aw s h2)
   refine⟨⟨vs,ws,v1,v2,g1,g2,q1,q3⟩,λv' H' y=>?_⟩
   obtain⟨p,w1,w2,rfl,hp,rfl,y⟩:=y
   obtain⟨y1,y2⟩:=y vs ws g1 g2
   rw[q1]at y1;cases y1
   rw[q3]at y2;cases y2
   have hF:F' p=none:=eQ.none_of K.sF hp
   refine⟨upd F' p (.tup [v1,v2]),az hF,K.lay hp,.tup (.inl (.inl ao)) (.cons ((q2.mono s).mono (az hF)) (.cons ((q4.mono s).mono (az hF)) .nil)),az hp,λc hc=>?_⟩
   by_cases z:c=p
   ·subst z;exact .inr hp
   ·rw[ak z]at hc;exact .inl hc
 ·have:=r1.len
  have:=r2.len
  simp only[DA,aad,adA]at hl
  omega
def iZ(a:WA):WA:=λenv P=>a env λxs e=>match xs with
 |[.tup xs,.tup ys]=>P (DA xs ys) e
 |_=>False
theorem tD{elts:List Expr}{x1:_}{ER:Pos}(hg:Gl X "zip")(hm:X.mg "zip" = none)(ha:FQ ob X [a,b] fa)(hs:aam [a,b] X.env=[(false,eval a X.env),(false,eval b X.env)]:=by rfl)(Hy:aam [b] X.env=[(false,eval b X.env)]:=by rfl):
  Jc ob X (.Tuple elts x1 ER) (.Call (.Name "zip" p) [a,b] [] pos) (iZ fa):=by
 obtain⟨t,ht,k⟩:=ha.ex
 refine⟨_,yf hg hm ht hs Hy,λZ F σ H env P R K hf kk=>k Z F σ H env _ _ K hf λxs e1 vs F1 H1 p _ s1 K1 r1=>?_⟩
 split at p
 ·cases r1 with
  |cons r1 r2=>
   cases r2 with
   |cons r2 r3=>
    cases r3
    cases r1 with
    |tup g1 g2=>
     cases r2 with
     |tup g3 g4=>exact⟨_,_,rfl,⟨_,aw K1.sF g1⟩,⟨_,aw K1.sF g3⟩,kk _ e1 _ F1 H1 p s1 K1 (yS g1 g2 g3 g4)⟩
 ·exact p.elim
def Cs(s:Str):List PV:=s.cps.toList.map λc=>.str ⟨#[c]⟩
theorem yU{s:Str}:Fj M (OX s) F (Cs s):=by
 refine⟨λZ i σ env F' H x sm K e=>?_,λZ i σ env F' H sm K hl=>show s.cps.size<=i by simpa[Cs]using hl⟩
 unfold Cs at e
 rw[aal]at e
 cases ez:s.cps.toList[i]? with
 |none=>rw[ez]at e;cases e
 |some c=>
  rw[ez]at e
  have e:x=.str ⟨#[c]⟩:=(aau e).symm
  subst e
  have hi:i<s.cps.size:=by
   rcases aaZ i s.cps.size with h|h
   ·exact h
   ·rw[aan (by simpa using h)]at ez;cases ez
  refine⟨hi,λv' H' y=>?_⟩
  obtain⟨rfl,c',Gv,rfl⟩:=y
  rw[<- abb,ez]at Gv
  cases Gv
  exact⟨F',aq,K,.str _,aq,λ_ h=>.inl h⟩
def Ij(a:WE):WA:=λenv P=>a env λx e=>match x with
 |.str s=>P (Cs s) e
 |_=>False
theorem zc(h:Am ob X e f):Jc ob X tg e (Ij f):=by
 obtain⟨t,ht,k⟩:=h.ex
 refine⟨_,yg ht,λZ F σ H env P R K hf kk=>k Z F σ H env _ _ K hf λx e1 v F1 H1 p s1 K1 r1=>?_⟩
 cases r1 with
 |str s=>exact⟨s,rfl,kk _ e1 _ F1 H1 p s1 K1 yU⟩
 |_=>exact p.elim
def Dw(g:WG)(b:WS)(P:Wd):List PV->En->Prop
 |[],env=>P.nx env
 |x::xs,env=>g x env λe=>b {P with nx:=Dw g b P xs,ct:=Dw g b P xs,bk:=P.nx} e
def DV(it:WA)(g:WG)(b:WS):WS:=λP env=>it env λxs e=>Dw g b P xs e
theorem dI{it:Expr}{g:WG}(hp:PassesOwn (model X.prog X.w) X.A X.env X.xe)(hc:X.calm=true)(hi:Jc ob X tg it fa)(hg:Od ob X tg g)(hb:Ej ob X Oq u)
  (hs:∀x,abo it X.env x=pure x:=by intro _;rfl):FY ob X (.For tg it Oq [] pos) (DV fa g u):=by
 obtain⟨wi,Jt,k⟩:=hi.ex
 obtain⟨Ol,TK,kg⟩:=hg.ex
 obtain⟨tb,Nv,kb⟩:=hb.ex
 refine⟨_,rY hp hc Jt TK Nv hs,λZ F σ H env P D K hf L=>k Z F σ H env _ _ K hf λxs e1 J F1 H1 p s1 K1 I1=>?_⟩
 have L1:=L.mono s1
 refine⟨λi m σ' H'=>m=xs.length - i/\∃F' dO,eQ F1 F'/\zW (md ob X) Z F' σ' H' dO/\Dw g u P (xs.drop i) dO,⟨_,rfl,F1,e1,aq,K1,p⟩,?_⟩
 rintro i m σ' H' ⟨rfl,F',dO,s,K',J8⟩
 by_cases AV:i<xs.length
 ·rw[acR AV]at J8
  obtain⟨h1,h2⟩:=I1.go Z i σ' dO F' H' xs[i] s K' (by simp[AV])
  refine .inr ⟨h1,λσ2 H2=>∃F2 e2,eQ F1 F2/\zW (md ob X) Z F2 σ2 H2 e2/\Dw g u P (xs.drop (i+1)) e2,λσ2 H2 q=>⟨xs.length - (i+1),by omega,rfl,q⟩,λv H2 y=>?_⟩
  obtain⟨F2,s2,K2,r2,_,_⟩:=h2 v H2 y
  refine kg Z F2 σ' H2 dO v xs[i] _ _ K2 r2 J8 λe3 σ3 F3 H3 p3 s3 K3=>?_
  have sF:=aj s (aj s2 s3)
  exact kb Z F3 σ3 H3 e3 _ _ K3 p3 ⟨λe4 σ4 F4 H4 q s4 K4=>⟨F4,e4,aj sF s4,K4,q⟩,(L1.mono sF).rt,(L1.mono sF).nx,λe4 σ4 F4 H4 q s4 K4=>⟨F4,e4,aj sF s4,K4,q⟩,(L1.mono sF).rf,(L1.mono sF).ro⟩
 ·rw[aeh (by omega)]at J8
  exact .inl ⟨I1.stop Z i σ' dO F' H' s K' (by omega),L1.nx dO σ' F' H' J8 s K'⟩
def lend(s:Sl):Sl:=if s.k=1 then ⟨3,s.v⟩else s
def EC(js:List (Option Nat))(env:En):En:=js.map λo=>o.bind λj=>((env[j]?).getD none).map lend
def CK(s s':Sl):Option Sl:=if s'.k=3 then (if s.k=1\/s.k=3 then some ⟨s.k,s'.v⟩else none)else if s'.k=2 then (if s.k=2 then some s' else none)else some s'
def AU(js:List (Option Nat))(env benv:En):En:=env.mapIdx λj o=>match js.findIdx? (λq=>q==some j)with
 |none=>o
 |some i=>match o,benv[i]? with
  |some s,some (some s')=>CK s s'
  |_,_=>none
def FA(js:List (Option Nat)):Bool:=decide (js.filterMap id).Nodup
theorem kC:∀{js:List (Option Nat)},(js.filterMap id).Nodup->∀(i i':Nat) (j:Nat),js[i]?=some (some j)->js[i']?=some (some j)->i=i'
 |[],_,i,i',j,h,_=>by simp at h
 |none::js,hn,i,i',j,h,h'=>by
  cases i with
  |zero=>simp at h
  |succ i=>
   cases i' with
   |zero=>simp at h'
   |succ i'=>
    simp at h h' hn
    exact congrArg (·+1) (kC (js:=js) (by simpa using hn) i i' j h h')
 |some k::js,hn,i,i',j,h,h'=>by
  simp only[abm,id]at hn
  obtain⟨hk,hn⟩:=List.nodup_cons.mp hn
  have mem:∀m,js[m]?=some (some k)->False:=λm hm=>hk (List.mem_filterMap.mpr ⟨some k,abh hm,rfl⟩)
  cases i with
  |zero=>
   simp at h;subst h
   cases i' with
   |zero=>rfl
   |succ i'=>exact(mem i' (by simpa using h')).elim
  |succ i=>
   cases i' with
   |zero=>simp at h';subst h';exact(mem i (by simpa using h)).elim
   |succ i'=>exact congrArg (·+1) (kC hn i i' j (by simpa using h) (by simpa using h'))
variable{F' H':Hp}{env:En}
theorem Ei.wr{v:V}{s:Sl}{fp:List Addr}(h:Ei M Z F H v s fp):∀c∈fp,c∈Z.S\/Z.H₀ c=none:=by
 rcases h with ⟨_,rfl,_⟩|⟨_,a,_,rfl,h0,_⟩|⟨_,a,_,h,_⟩|⟨_,a,_,rfl,h0,_⟩
 ·intro c hc;simp at hc
 ·intro c hc;simp at hc;subst hc;exact .inr h0
 ·exact h
 ·intro c hc;simp at hc;subst hc;exact .inl h0
def C3(js:List (Option Nat))(env:En)(fp:Nat->List Addr)(i:Nat):List Addr:=match js[i]? with
 |some (some j)=>match env[j]? with
  |some (some _)=>fp j
  |_=>[]
 |_=>[]
def FK(js:List (Option Nat))(env:En)(fp:Nat->List Addr)(H:Hp):List Addr:=((aaM js.length).flatMap (C3 js env fp)).filter λb=>(H b).isSome
variable{js:List (Option Nat)}{fp:Nat->List Addr}
theorem sB{i:Nat}{a:Addr}(h:a∈C3 js env fp i)(hH:H a≠none):a∈FK js env fp H:=by
 refine List.mem_filter.mpr ⟨List.mem_flatMap.mpr ⟨i,List.mem_range.mpr ?_,h⟩,by obtain⟨o,ho⟩:=dH hH;rw[ho];rfl⟩
 rcases aaZ i js.length with q|q
 ·exact q
 ·unfold C3 at h;rw[aan q]at h;simp at h
theorem eY{a:Addr}(h:a∈FK js env fp H):∃(i j:Nat) (s:Sl),js[i]?=some (some j)/\env[j]?=some (some s)/\a∈fp j:=by
 obtain⟨i,_,h⟩:=List.mem_flatMap.mp (List.mem_filter.mp h).1
 unfold C3 at h
 split at h
 ·rename_i j ej
  split at h
  ·rename_i s es
   exact⟨i,j,s,ej,es,h⟩
  ·simp at h
 ·simp at h
theorem vA{i:Nat}{s':Sl}(h:(EC js env)[i]?=some (some s')):∃j s,js[i]?=some (some j)/\env[j]?=some (some s)/\s'=lend s:=by
 unfold EC at h
 rw[aal]at h
 cases ej:js[i]? with
 |none=>rw[ej]at h;cases h
 |some o=>
  cases o with
  |none=>rw[ej]at h;cases h
  |some j=>
   rw[ej]at h
   have h:((env[j]?).getD none).map lend=some s':=aau h
   cases es:env[j]? with
   |none=>rw[es]at h;cases h
   |some o=>
    cases o with
    |none=>rw[es]at h;cases h
    |some s=>rw[es]at h;exact⟨j,s,rfl,es,(aau h).symm⟩
theorem ph{i j:Nat}{v:V}(h:js[i]?=some (some j))(hv:σ[j]?=some (some v)):(AE js σ)[i]?=some (some v):=by
 unfold AE
 rw[aal,h]
 show some ((σ[j]?).getD none)=_
 rw[hv];rfl
def Zb(js:List (Option Nat))(env:En)(fp:Nat->List Addr)(F H:Hp):Zn:={H₀:=H,F₀:=F,S:=FK js env fp H,sS:=λb hb e=>by have:=(List.mem_filter.mp hb).2;rw[e]at this;cases this}
theorem pz(hj:FA js=true)(K:zW M Z F σ H env)(L:Slots M Z F σ H env fp):zW M (Zb js env fp F H) F (AE js σ) H (EC js env):=by
 have hn:(js.filterMap id).Nodup:=of_decide_eq_true hj
 refine⟨K.sF,λb o h _=>h,λb h=>h,aq,λa h=>.inl h,by simp[EC,AE],C3 js env fp,λi s' h=>?_,λi a h=>?_,λi i' a Uk h h'=>?_,λi a s e=>by cases e⟩
 ·obtain⟨j,s,ej,es,rfl⟩:=vA h
  obtain⟨v,hv,ok⟩:=L.at' j s es
  have ef:C3 js env fp i=fp j:=by unfold C3;rw[ej];dsimp only;rw[es]
  refine⟨v,ph ej hv,?_⟩
  have Lj:∀c∈fp j,c∈(Zb js env fp F H).S:=λc hc=>sB (i:=i) (by rw[ef];exact hc) (L.al j c hc).1
  rw[ef]
  rcases ok with ⟨k,e,r⟩|⟨k,a,e,e2,h0,r⟩|⟨k,a,e,h0,r⟩|⟨k,a,e,e2,h0,r⟩
  ·have:lend s=s:=by unfold lend;rw[if_neg (by rw[k];decide)]
   rw[this];exact .inl ⟨k,e,r⟩
  ·have:lend s=⟨3,s.v⟩:=by unfold lend;rw[if_pos k]
   rw[this];exact .inr (.inr (.inr ⟨rfl,a,e,e2,Lj a (by rw[e2];simp),r⟩))
  ·have:lend s=s:=by unfold lend;rw[if_neg (by rcases k with k|k<;>(rw[k];decide))]
   rw[this];exact .inr (.inr (.inl ⟨k,a,e,λc hc=>.inl (Lj c hc),r⟩))
  ·have:lend s=s:=by unfold lend;rw[if_neg (by rw[k];decide)]
   rw[this];exact .inr (.inr (.inr ⟨k,a,e,e2,Lj a (by rw[e2];simp),r⟩))
 ·unfold C3 at h
  split at h
  ·split at h
   ·exact L.al _ a h
   ·simp at h
  ·simp at h
 ·unfold C3 at h h'
  split at h
  ·rename_i j ej
   split at h'
   ·rename_i j' UM
    split at h
    ·split at h'
     ·have:j≠j':=λe=>by subst e;exact Uk (kC hn i i' j ej UM)
      exact L.dj j j' a this h h'
     ·simp at h'
    ·simp at h
   ·simp at h'
  ·simp at h
theorem nk{σb:L2.St}{benv:En}(hj:FA js=true)(K:zW M Z F σ H env)(L:Slots M Z F σ H env fp)(Kb:zW M (Zb js env fp F H) F' σb H' benv)
  (hσ:∀(k j:Nat),js[k]?=some (some j)->σb[k]?=(AE js σ)[k]?) :
  ∃HB,Slots M Z F' σ H' (AU js env benv) HB/\zW M Z F' σ H' (AU js env benv)/\∀i a,a∈HB i->(∃i',a∈fp i')\/H a=none:=by
 have hn:(js.filterMap id).Nodup:=of_decide_eq_true hj
 obtain⟨fb,Lb⟩:=Kb.sl
 have Lj:∀c∈FK js env fp H,(c∈Z.S\/Z.H₀ c=none)/\∃i',c∈fp i':=λc hc=>by
  obtain⟨i,j,s,e1,e2,e3⟩:=eY hc
  obtain⟨v,_,ok⟩:=L.at' j s e2
  exact⟨ok.wr c e3,j,e3⟩
 have LL:∀j i,js.findIdx? (λq=>q==some j)=some i->js[i]?=some (some j):=λj i h=>by
  rw[List.findIdx?_eq_some_iff_getElem]at h
  obtain⟨hi,he,_⟩:=h
  rw[aab hi,eq_of_beq he]
 have NZ:∀j,(AU js env benv)[j]?=(env[j]?).map λo=>(match js.findIdx? (λq=>q==some j)with
   |none=>o
   |some i=>match o,benv[i]? with
    |some s,some (some s')=>CK s s'
    |_,_=>none):=λj=>by
  unfold AU
  rw[List.getElem?_mapIdx]
 have Sv:∀i s',benv[i]?=some (some s')->∀c∈fb i,(c∈Z.S\/Z.H₀ c=none)/\((∃i',c∈fp i')\/H c=none):=λi s' e c hc=>by
  obtain⟨v,_,ok⟩:=Lb.at' i s' e
  rcases ok.wr c hc with h|h
  ·exact⟨(Lj c h).1,.inl (Lj c h).2⟩
  ·exact⟨.inr (K.h0 h),.inr h⟩
 let HB:Nat->List Addr:=λj=>match js.findIdx? (λq=>q==some j)with
  |none=>fp j
  |some i=>match env[j]?,benv[i]? with
   |some (some s),some (some s')=>if (CK s s').isSome=true then fb i else []
   |_,_=>[]
 have keep:∀c o,H c=some o->c∉FK js env fp H->H' c=some o:=λc o h1 h2=>Kb.sG c o h1 h2
 have S:Slots M Z F' σ H' (AU js env benv) HB:=by
  refine⟨λj t e=>?_,λj a h=>?_,λj j2 a Mf h h2=>?_,λj a t e1 e e3=>?_⟩
  case refine_4=>
   rw[NZ]at e
   cases ej:env[j]? with
   |none=>rw[ej]at e;cases e
   |some o=>
    rw[ej]at e
    have e:=aau e
    cases ei:js.findIdx? (λq=>q==some j)with
    |none=>
     rw[ei]at e
     dsimp only at e
     subst e
     exact L.oa j a t e1 ej e3
    |some i=>
     rw[ei]at e
     dsimp only at e
     cases o with
     |none=>cases e
     |some s=>
      cases eb:benv[i]? with
      |none=>rw[eb]at e;cases e
      |some w=>
       cases w with
       |none=>rw[eb]at e;cases e
       |some s'=>
        rw[eb]at e
        dsimp only at e
        unfold CK at e
        split at e
        ·split at e
         ·rename_i h1 h2
          cases e
          rcases h2 with q|q
          ·rw[q]at e3;cases e3
          ·rw[q]at e3;cases e3
         ·cases e
        ·split at e
         ·split at e
          ·rename_i h1
           exact L.oa j a s e1 ej h1
          ·cases e
         ·rename_i h1
          cases e
          exact absurd e3 h1
  ·rw[NZ]at e
   cases ej:env[j]? with
   |none=>rw[ej]at e;cases e
   |some o=>
    rw[ej]at e
    have e:=aau e
    show ∃v,σ[j]?=some (some v)/\Ei M Z F' H' v t (match js.findIdx? (λq=>q==some j)with
     |none=>fp j
     |some i=>match env[j]?,benv[i]? with
      |some (some s),some (some s')=>if (CK s s').isSome=true then fb i else []
      |_,_=>[])
    cases ei:js.findIdx? (λq=>q==some j)with
    |none=>
     rw[ei]at e
     dsimp only at e
     subst e
     obtain⟨v,hv,ok⟩:=L.at' j t ej
     refine⟨v,hv,ok.mono Kb.gr λc hc=>?_⟩
     have IY:=L.al j c hc
     obtain⟨o,ho⟩:=dH IY.1
     rw[ho]
     refine keep c o ho λhS=>?_
     obtain⟨i,j',s,e1,e2,e3⟩:=eY hS
     have:j≠j':=λz=>by
      subst z
      rw[afY]at ei
      have:=ei (some j) (abh e1)
      simp at this
     exact L.dj j j' c this hc e3
    |some i=>
     rw[ei]at e
     dsimp only at e ⊢
     have Sk:=LL j i ei
     cases o with
     |none=>cases e
     |some s=>
      rw[ej]
      cases eb:benv[i]? with
      |none=>rw[eb]at e;cases e
      |some w=>
       cases w with
       |none=>rw[eb]at e;cases e
       |some s'=>
        rw[eb]at e
        dsimp only at e ⊢
        rw[e,if_pos (Option.isSome_some)]
        obtain⟨v0,G3,PX⟩:=L.at' j s ej
        obtain⟨v,hv,ok⟩:=Lb.at' i s' eb
        rw[hσ i j Sk,ph Sk G3]at hv
        cases hv
        refine⟨v0,G3,?_⟩
        unfold CK at e
        rcases ok with ⟨k,e1,r⟩|⟨k,a,e1,e2,h0,r⟩|⟨k,a,e1,h0,r⟩|⟨k,a,e1,e2,h0,r⟩
        ·rw[if_neg (by rw[k];decide),if_neg (by rw[k];decide)]at e
         cases e
         exact .inl ⟨k,e1,r⟩
        ·rw[if_neg (by rw[k];decide),if_neg (by rw[k];decide)]at e
         cases e
         exact .inr (.inl ⟨k,a,e1,e2,K.h0 h0,r⟩)
        ·rw[if_neg (by rcases k with k|k<;>(rw[k];decide))]at e
         have e:s'=t:=by
          split at e
          ·split at e
           ·exact aau e
           ·cases e
          ·exact aau e
         subst e
         refine .inr (.inr (.inl ⟨k,a,e1,λc hc=>(Sv i _ eb c hc).1,r⟩))
        ·rw[if_pos k]at e
         split at e
         ·rename_i hk
          cases e
          rcases PX with ⟨k0,_⟩|⟨k0,a0,f1,f2,f3,_⟩|⟨k0,_⟩|⟨k0,a0,f1,f2,f3,_⟩
          ·rw[k0]at hk;rcases hk with z|z<;>cases z
          ·rw[e1]at f1;cases f1
           exact .inr (.inl ⟨k0,a,e1,e2,f3,r⟩)
          ·rcases k0 with k0|k0<;>(rw[k0]at hk;rcases hk with z|z<;>cases z)
          ·rw[e1]at f1;cases f1
           exact .inr (.inr (.inr ⟨k0,a,e1,e2,f3,r⟩))
         ·cases e
  ·have h:a∈(match js.findIdx? (λq=>q==some j)with
     |none=>fp j
     |some i=>match env[j]?,benv[i]? with
      |some (some s),some (some s')=>if (CK s s').isSome=true then fb i else []
      |_,_=>[]):=h
   split at h
   ·rename_i ei
    have h0:=L.al j a h
    obtain⟨o,ho⟩:=dH h0.1
    constructor
    ·intro z
     have:=Kb.pr a (by show H a≠none;exact h0.1)
     exact this z
    ·cases ef:F' a with
     |none=>rfl
     |some o=>
      rcases Kb.nw a (by rw[ef];simp)with q|q
      ·exact absurd h0.2 q
      ·exact absurd q h0.1
   ·split at h
    ·split at h
     ·exact Lb.al _ a h
     ·simp at h
    ·simp at h
  ·have h:a∈(match js.findIdx? (λq=>q==some j)with
     |none=>fp j
     |some i=>match env[j]?,benv[i]? with
      |some (some s),some (some s')=>if (CK s s').isSome=true then fb i else []
      |_,_=>[]):=h
   have h2:a∈(match js.findIdx? (λq=>q==some j2)with
     |none=>fp j2
     |some i=>match env[j2]?,benv[i]? with
      |some (some s),some (some s')=>if (CK s s').isSome=true then fb i else []
      |_,_=>[]):=h2
   have Na:∀{j1 i:Nat} {s':Sl},js.findIdx? (λq=>q==some j1)=none->benv[i]?=some (some s')->a∈fp j1->a∈fb i->False:=λ{j1 i s'} e1 e2 m1 m2=>by
    obtain⟨v,_,ok⟩:=Lb.at' i s' e2
    rcases ok.wr a m2 with q|q
    ·obtain⟨i',j',s,q1,q2,q3⟩:=eY q
     have:j1≠j':=λz=>by
      subst z
      rw[afY]at e1
      have:=e1 (some j1) (abh q1)
      simp at this
     exact L.dj j1 j' a this m1 q3
    ·exact(L.al j1 a m1).1 q
   split at h
   ·rename_i ei
    split at h2
    ·exact L.dj j j2 a Mf h h2
    ·split at h2
     ·rename_i eb
      split at h2
      ·exact Na ei eb h h2
      ·simp at h2
     ·simp at h2
   ·rename_i i ei
    split at h
    ·rename_i eb
     split at h
     ·split at h2
      ·rename_i Ml
       exact Na Ml eb h2 h
      ·rename_i i2 Ml
       split at h2
       ·split at h2
        ·have:i≠i2:=λz=>by
          subst z
          have q1:=LL j i ei
          have q2:=LL j2 i Ml
          rw[q1]at q2
          cases q2
          exact Mf rfl
         exact Lb.dj i i2 a this h h2
        ·simp at h2
       ·simp at h2
     ·simp at h
    ·simp at h
 refine⟨HB,S,⟨Kb.sF,λb o h1 h2=>keep b o (K.sG b o h1 h2) λhS=>?_,λb h=>Kb.pr b (K.pr b h),aj K.gr Kb.gr,λa h=>?_,by unfold AU;rw[List.length_mapIdx];exact K.len,HB,S⟩,λj a h=>?_⟩
 ·rcases(Lj b hS).1 with q|q
  ·exact h2 q
  ·rw[q]at h1;cases h1
 ·rcases Kb.nw a h with q|q
  ·exact K.nw a q
  ·exact .inr (K.h0 q)
 ·have h:a∈(match js.findIdx? (λq=>q==some j)with
    |none=>fp j
    |some i=>match env[j]?,benv[i]? with
     |some (some s),some (some s')=>if (CK s s').isSome=true then fb i else []
     |_,_=>[]):=h
  split at h
  ·exact .inl ⟨j,h⟩
  ·split at h
   ·rename_i eb
    split at h
    ·exact(Sv _ _ eb a h).2
    ·simp at h
   ·simp at h
def IM(M:Md)(f:WE):TE:=λσ H Q=>∃(Z:Zn) (F:Hp) (env:En) (P:PV->En->Prop),zW M Z F σ H env/\f env P/\∀x dO v F' H',P x dO->eQ F F'->zW M Z F' σ H' dO->Rep M.K F' v x->Q v H'
def KR(M:Md)(f:WT):TT:=λσ H Q=>∃(Z:Zn) (F:Hp) (env:En) (P:Bool->En->Prop),zW M Z F σ H env/\f env P/\∀b dO F' H',P b dO->eQ F F'->zW M Z F' σ H' dO->Q b H'
theorem Am.pe(h:Am ob X e f):PE X e (IM (md ob X) f):=by
 obtain⟨t,ht,k⟩:=h.ex
 rintro pins s σ H Q I ⟨Z,F,env,P,K,hf,kk⟩
 exact ht pins s σ H Q I (k Z F σ H env P Q K hf kk)
structure Mn(ob:BG)(X:Cx)(ifs:List Expr)(f:WT):Prop where
 ex:PF X ifs (KR (md ob X) f)
def Ds:WT:=λenv P=>P true env
theorem bq:Mn ob X [] Ds:=⟨by
 rintro pins s σ H Q I ⟨Z,F,env,P,K,hf,kk⟩
 exact yi pins s σ H Q I (kk true env F H hf aq K)⟩
theorem cx(h:GR ob X c t):Mn ob X [c] t:=⟨by
 obtain⟨w,hw,k⟩:=h.ex
 rintro pins s σ H Q I ⟨Z,F,env,P,K,hf,kk⟩
 exact sd hw pins s σ H Q I (k Z F σ H env P Q K hf kk)⟩
inductive Ki where
 |nm (i:Nat)|tp (l:List Nat)
def Eu:List Nat->HC
 |[]=>LG
 |i::l=>FH (CI i) (Eu l)
def FT(K:aah):Ki->TG
 |.nm i=>CI i
 |.tp l=>LD K l.length (Eu l)
def Ge:List Nat->List PV->En->En
 |i::l,x::xs,env=>Ge l xs (env.set i (some ⟨0,x⟩))
 |_,_,env=>env
def Fn:Ki->WG
 |.nm i=>λx env P=>P (env.set i (some ⟨0,x⟩))
 |.tp l=>λx env P=>match x with
  |.tup xs=>xs.length=l.length/\P (Ge l xs env)
  |_=>False
def CM(js:List (Option Nat)):Ki->Bool
 |.nm i=>decide (js[i]?=some none)
 |.tp l=>l.all λi=>decide (js[i]?=some none)
theorem sR:∀{l:List Nat},(l.all λi=>decide (js[i]?=some none))=true->Ob js (Eu l)
 |[],_=>y6
 |i::l,h=>by
  rw[ae3,aaT]at h
  refine xn (mw (of_decide_eq_true h.1)) (sR h.2) ju ?_
  have mono:∀(l:List Nat),∀x σ H (Q Q':L2.St->Hp->Prop),(∀a b,Q a b->Q' a b)->Eu l x σ H Q->Eu l x σ H Q':=by
   intro l
   induction l with
   |nil=>exact λx σ H Q Q' h q=>⟨q.1,h _ _ q.2⟩
   |cons i l ih=>exact my ju ih
  exact mono l
theorem dq{T:Ki}(h:CM js T=true):CL js (FT K T):=by
 cases T with
 |nm i=>exact mw (of_decide_eq_true h)
 |tp l=>exact yZ (sR h)
theorem wc{l:List Nat}:∀{σ:L2.St} {env:En} {vs:List V} {xs:List PV} {Q:L2.St->Hp->Prop},zW M Z F σ H env->zL M.K F vs xs->xs.length=l.length->(∀σ',zW M Z F σ' H (Ge l xs env)->Q σ' H)->Eu l vs σ H Q:=by
 induction l with
 |nil=>
  intro σ env vs xs Q K r hl k
  cases r with
  |nil=>exact⟨rfl,k σ K⟩
  |cons _ _=>simp at hl
 |cons i l ih=>
  intro σ env vs xs Q K r hl k
  cases r with
  |nil=>simp at hl
  |cons r1 r2=>exact⟨_,_,rfl,ih (K.put r1) r2 (by simpa using hl) k⟩
theorem rK{T:Ki}{v:V}{x:PV}{P:En->Prop}{Q:L2.St->Hp->Prop}(K:zW M Z F σ H env)(r:Rep M.K F v x)(hf:Fn T x env P)(k:∀dO σ',P dO->zW M Z F σ' H dO->Q σ' H):FT M.K T v σ H Q:=by
 cases T with
 |nm i=>exact k _ _ hf (K.put r)
 |tp l=>
  cases r with
  |tup h1 h2=>
   have hf:_/\_:=hf
   exact⟨_,_,rfl,aw K.sF h1,by rw[h2.len];exact hf.1,wc K h2 hf.1 λσ' K'=>k _ σ' hf.2 K'⟩
  |_=>exact(show False from hf).elim
def Ci(g:WG)(c:WT)(f:WE)(js:List (Option Nat))(P:PV->En->Prop):List PV->En->List PV->Prop
 |[],env,acc=>P (.lst acc) env
 |x::xs,env,acc=>g x (EC js env) λb1=>c b1 λok b2=>if ok=true then f b2 λy b3=>acc.length<=100000/\Ci g c f js P xs (AU js env b3) (acc++[y])else Ci g c f js P xs (AU js env b2) acc
def BQ(fi:WA)(T:Ki)(c:WT)(f:WE)(js:List (Option Nat)):WE:=λenv P=>fi env λxs e=>Ci (Fn T) c f js P xs e []
variable{elt iter kx vx:Expr}{ifs:List Expr}{scope:Scope}{fi:WA}{T:Ki}{c:WT}{fk:WE}{N:List Str}
theorem zW.GX{l:Addr}{o:HO}(K:zW M Z F σ H env)(L:Slots M Z F σ H env fp)(hF:F l=none)(h0:Z.H₀ l=none)(hl:∀i,l∉fp i):zW M Z F σ (upd H l o) env/\Slots M Z F σ (upd H l o) env fp:=by
 have S:Slots M Z F σ (upd H l o) env fp:=by
  refine⟨λi s e=>?_,λi a h=>?_,L.dj,L.oa⟩
  ·obtain⟨v,h1,h2⟩:=L.at' i s e
   exact⟨v,h1,h2.mono aq λc hc=>ak λz:c=l=>hl i (by rw[<- z];exact hc)⟩
  ·have:=L.al i a h
   refine⟨?_,this.2⟩
   rw[ak (λz:a=l=>hl i (by rw[<- z];exact h))];exact this.1
 refine⟨⟨λa u e=>?_,λb u h1 h2=>?_,λb h=>?_,K.gr,K.nw,K.len,fp,S⟩,S⟩
 ·rw[ak (aA e hF)];exact K.sF a u e
 ·rw[ak (aA h1 h0)];exact K.sG b u h1 h2
 ·by_cases q:b=l
  ·subst q;rw[ao];simp
  ·rw[ak q];exact K.pr b h
theorem ql{P:PV->En->Prop}{Q:VK}{xs:List PV}{J:It}(hj:FA js=true)(hT:CM js T=true)(K:zW (md ob X) Z F σ H env)(I1:Fj (md ob X) J F xs)(hf:Ci (Fn T) c f js P xs env [])
  (kk:∀x dO v F' H',P x dO->eQ F F'->(∀xs,x≠.set xs)->zW (md ob X) Z F' (σ++[some v]) H' (dO++[some ⟨1,x⟩])->Q v H') (l:Addr) (hl:H l=none) :
  ∃W:Nat->Nat->List V->Hp->Prop,(∃m,W 0 m [] (upd H l (.lst [])))/\∀i m ys H2,W i m ys H2 ->
  (J.stop i H2/\Q (.ref l) H2)\/(J.go i H2/\∀x H3,J.yld i H2 x H3->FT X.K T x (AE js σ) H3 λσ4 H4=>KR (md ob X) c σ4 H4 λb H5=>
   if b=true then IM (md ob X) f σ4 H5 λy H6=>H6 l=some (.lst ys)/\ys.length<sizeLine/\∃m',m'<m/\W (i+1) m' (ys++[y]) (upd H6 l (.lst (ys++[y])))else ∃m',m'<m/\W (i+1) m' ys H5):=by
 refine⟨λi m ys H'=>m=xs.length - i/\H' l=some (.lst ys)/\∃F' dO DR fp,eQ F F'/\zW (md ob X) Z F' σ H' dO/\Slots (md ob X) Z F' σ H' dO fp/\F' l=none/\(∀i,l∉fp i)/\zL X.K F' ys DR/\Ci (Fn T) c f js P (xs.drop i) dO DR,?_,?_⟩
 ·obtain⟨fp,L⟩:=K.sl
  have hF:F l=none:=eQ.none_of K.sF hl
  have hn:∀i,l∉fp i:=λi h=>(L.al i l h).1 hl
  obtain⟨K1,L1⟩:=K.GX (o:=.lst []) L hF (K.h0 hl) hn
  exact⟨_,rfl,ao,F,env,[],fp,aq,K1,L1,hF,hn,.nil,hf⟩
 rintro i m ys H2 ⟨rfl,G6,F',dO,DR,fp,s,K',L',NO,hn,ry,hg⟩
 have h0:Z.H₀ l=none:=K.h0 hl
 by_cases AV:i<xs.length
 ·rw[acR AV]at hg
  obtain⟨h1,h2⟩:=I1.go Z i σ dO F' H2 xs[i] s K' (by simp[AV])
  refine .inr ⟨h1,λv H3 y=>?_⟩
  obtain⟨F2,s2,K2,r2,sH,nw⟩:=h2 v H3 y
  have N9:Slots (md ob X) Z F2 σ H3 dO fp:=L'.move s2 (λ_ c o _ e=>sH c o e) nw
  have QV:F2 l=none:=by
   cases e:F2 l with
   |none=>rfl
   |some o=>
    rcases nw l (by rw[e];simp)with q|q
    ·exact absurd NO q
    ·rw[G6]at q;cases q
  have Ls:H3 l=some (.lst ys):=sH _ _ G6
  have Kb:=pz hj K2 N9
  have hσ4:∀{σ4:L2.St},(∀(k j:Nat),js[k]?=some (some j)->σ4[k]?=(AE js σ)[k]?)->True:=λ_=>trivial
  have Ol:=dq (K:=X.K) hT v (AE js σ) H3 _ (rK (M:=md ob X) (Q:=λσ4 H4=>H4=H3/\∃b1,zW (md ob X) (Zb js dO fp F2 H3) F2 σ4 H3 b1/\c b1 λok b2=>if ok=true then f b2 λy b3=>DR.length<=100000/\Ci (Fn T) c f js P (xs.drop (i+1)) (AU js dO b3) (DR++[y])else Ci (Fn T) c f js P (xs.drop (i+1)) (AU js dO b2) DR) Kb r2 hg λe4 σ4 p4 K4=>⟨rfl,e4,K4,p4⟩)
  have mono:∀(Q1 Q2:L2.St->Hp->Prop),(∀a b,Q1 a b->Q2 a b)->FT X.K T v (AE js σ) H3 Q1->FT X.K T v (AE js σ) H3 Q2:=by
   have Ia:∀(l:List Nat),∀x σ H (Q Q':L2.St->Hp->Prop),(∀a b,Q a b->Q' a b)->Eu l x σ H Q->Eu l x σ H Q':=by
    intro l
    induction l with
    |nil=>exact λx σ H Q Q' h q=>⟨q.1,h _ _ q.2⟩
    |cons i l ih=>exact my ju ih
   intro Q1 Q2 hq q
   cases T with
   |nm i=>exact hq _ _ q
   |tp l=>
    obtain⟨a,xs,e1,e2,e3,e4⟩:=q
    exact⟨a,xs,e1,e2,e3,Ia l _ _ _ _ _ hq e4⟩
  refine mono _ _ ?_ Ol
  rintro σ4 H4 ⟨⟨rfl,b1,K4,p4⟩,hlen,A6⟩
  refine⟨_,F2,b1,_,K4,p4,λb b2 F5 H5 p5 s5 K5=>?_⟩
  have again:∀{F6 H6:Hp} {b3:En} {ys':List V} {FZ:List PV},eQ F2 F6->zW (md ob X) (Zb js dO fp F2 H4) F6 σ4 H6 b3->Ci (Fn T) c f js P (xs.drop (i+1)) (AU js dO b3) FZ->zL X.K F6 ys' FZ ->
    H6 l=some (.lst ys)/\(∃m',m'<xs.length - i/\m'=xs.length - (i+1)/\(upd H6 l (.lst ys')) l=some (.lst ys')/\∃F' dO DR fp,eQ F F'/\zW (md ob X) Z F' σ (upd H6 l (.lst ys')) dO/\Slots (md ob X) Z F' σ (upd H6 l (.lst ys')) dO fp/\F' l=none/\(∀i,l∉fp i)/\zL X.K F' ys' DR/\Ci (Fn T) c f js P (xs.drop (i+1)) dO DR):=λ{F6 H6 b3 ys' FZ} s6 K6 p6 r6=>by
   obtain⟨HB,L6,Ri,D7⟩:=nk hj K2 N9 K6 A6
   have Lr:H6 l=some (.lst ys):=K6.sG l _ Ls λz=>by
    obtain⟨_,j,_,_,_,hm⟩:=eY z
    exact hn j hm
   have NN:F6 l=none:=by
    cases e:F6 l with
    |none=>rfl
    |some o=>
     rcases K6.nw l (by rw[e];simp)with q|q
     ·exact absurd QV q
     ·exact absurd q (by show H4 l≠none;rw[Ls];simp)
   have Jy:∀i,l∉HB i:=λi h=>by
    rcases D7 i l h with ⟨i',q⟩|q
    ·exact hn i' q
    ·rw[Ls]at q;cases q
   obtain⟨K7,L7⟩:=Ri.GX (o:=.lst ys') L6 NN h0 Jy
   exact⟨Lr,_,by omega,rfl,ao,F6,_,_,HB,aj s (aj s2 s6),K7,L7,NN,Jy,r6,p6⟩
  cases b with
  |false=>
   refine D6 ?_
   obtain⟨Qx,m',h1,h2,h3,F',dO,DR,fp,q1,q2,q3,q4⟩:=again (ys':=ys) s5 K5 p5 ((ry.mono s2).mono s5)
   have e:upd H5 l (.lst ys)=H5:=by
    funext a
    by_cases z:a=l
    ·subst z;rw[ao,Qx]
    ·rw[ak z]
   rw[e]at h3 q2 q3
   exact⟨m',h1,h2,h3,F',dO,DR,fp,q1,q2,q3,q4⟩
  |true=>
   refine Ey ⟨_,F5,b2,_,K5,p5,λy b3 v6 F6 H6 p6 s6 K6 r6=>?_⟩
   obtain⟨Lr,q⟩:=again (ys':=ys++[v6]) (aj s5 s6) K6 p6.2 ((((ry.mono s2).mono s5).mono s6).app (.cons r6 .nil))
   refine⟨Lr,?_,q⟩
   have:=p6.1
   rw[ry.len,aaz];omega
 ·rw[aeh (by omega)]at hg
  refine .inl ⟨I1.stop Z i σ dO F' H2 s K' (by omega),kk _ dO _ F' H2 hg s (λ_=>by simp) ?_⟩
  refine K'.slots (by simp[K'.len]) (L'.push (l:=[l]) (by simp) K'.len (.inr (.inl ⟨rfl,l,rfl,rfl,h0,ys,G6,ry⟩)) (λa ha=>?_) λj a ha=>?_)
  ·simp at ha;subst ha
   exact⟨by rw[G6];simp,NO⟩
  ·simp at ha;subst ha
   exact hn j
theorem bj(hi:Jc ob X tg iter fi)(hg:∀C s₀ H₀ ex pn,PG (zV X scope N C s₀ H₀ ex pn) tg (FT X.K T))(ht:∀C s₀ H₀ ex pn,Mn ob (zV X scope N C s₀ H₀ ex pn) ifs c)(he:∀C s₀ H₀ ex pn,Am ob (zV X scope N C s₀ H₀ ex pn) elt f)
  (hj:FA js=true:=by rfl) (hT:CM js T=true:=by rfl)
  (hc:X.calm=true:=by rfl) (hx:X.xe=(λ_ _=>False):=by rfl) (DM:DT X.env scope=true:=by rfl) (A6:Ce X.N scope N js=true:=by rfl) (Au:scope.kind=.function:=by rfl) (hs:∀x,abo iter X.env x=pure x:=by intro _;rfl) :
  GS ob X (.ListComp elt [⟨tg,iter,ifs,0⟩] scope pos) (BQ fi T c f js):=by
 obtain⟨wi,Jt,k⟩:=hi.ex
 refine⟨_,vG (wi:=wi) (g:=FT X.K T) (tc:=KR (md ob X) c) (te:=IM (md ob X) f) (js:=js) Jt hg (λC s₀ H₀ ex pn=>(ht C s₀ H₀ ex pn).ex) (λC s₀ H₀ ex pn=>(he C s₀ H₀ ex pn).pe) (dq hT) hc hx DM A6 Au hs,λZ F σ H env P Q K hf kk=>?_⟩
 refine k Z F σ H env _ _ K hf λxs e1 J F1 H1 p s1 K1 I1 l hl=>?_
 exact ql hj hT K1 I1 p (λx e2 v F2 H2 p2 s2 FV K2=>kk x e2 v F2 H2 p2 (aj s1 s2) FV K2) l hl
def Dl(g:WG)(c:WT)(fk f:WE)(js:List (Option Nat))(P:PV->En->Prop):List PV->En->List (Key×PV)->Prop
 |[],env,acc=>P (.Av acc) env
 |x::xs,env,acc=>g x (EC js env) λb1=>c b1 λok b2=>if ok=true then fk b2 λkk b3=>f b3 λy b4=>acc.length<=100000/\opt (D5 kk) λkey=>Dl g c fk f js P xs (AU js env b4) (B6 acc key y)else Dl g c fk f js P xs (AU js env b2) acc
def JF(fi:WA)(T:Ki)(c:WT)(fk f:WE)(js:List (Option Nat)):WE:=λenv P=>fi env λxs e=>Dl (Fn T) c fk f js P xs e []
theorem qA{P:PV->En->Prop}{Q:VK}{xs:List PV}{J:It}(hj:FA js=true)(hT:CM js T=true)(K:zW (md ob X) Z F σ H env)(I1:Fj (md ob X) J F xs)(hf:Dl (Fn T) c fk f js P xs env [])
  (kk:∀x dO v F' H',P x dO->eQ F F'->(∀xs,x≠.set xs)->zW (md ob X) Z F' (σ++[some v]) H' (dO++[some ⟨1,x⟩])->Q v H') (l:Addr) (hl:H l=none) :
  ∃W:Nat->Nat->List (Key×V)->Hp->Prop,(∃m,W 0 m [] (upd H l (.dK [])))/\∀i m ys H2,W i m ys H2 ->
  (J.stop i H2/\Q (.ref l) H2)\/(J.go i H2/\∀x H3,J.yld i H2 x H3->FT X.K T x (AE js σ) H3 λσ4 H4=>KR (md ob X) c σ4 H4 λb H5=>
   if b=true then IM (md ob X) fk σ4 H5 λkk H6=>IM (md ob X) f σ4 H6 λy H7=>∃key,kk=kV key/\H7 l=some (.dK ys)/\ys.length<sizeLine/\∃m',m'<m/\W (i+1) m' (putK ys key y) (upd H7 l (.dK (putK ys key y)))else ∃m',m'<m/\W (i+1) m' ys H5):=by
 refine⟨λi m ys H'=>m=xs.length - i/\H' l=some (.dK ys)/\∃F' dO DR fp,eQ F F'/\zW (md ob X) Z F' σ H' dO/\Slots (md ob X) Z F' σ H' dO fp/\F' l=none/\(∀i,l∉fp i)/\zK X.K F' ys DR/\Dl (Fn T) c fk f js P (xs.drop i) dO DR,?_,?_⟩
 ·obtain⟨fp,L⟩:=K.sl
  have hF:F l=none:=eQ.none_of K.sF hl
  have hn:∀i,l∉fp i:=λi h=>(L.al i l h).1 hl
  obtain⟨K1,L1⟩:=K.GX (o:=.dK []) L hF (K.h0 hl) hn
  exact⟨_,rfl,ao,F,env,[],fp,aq,K1,L1,hF,hn,.nil,hf⟩
 rintro i m ys H2 ⟨rfl,G6,F',dO,DR,fp,s,K',L',NO,hn,ry,hg⟩
 have h0:Z.H₀ l=none:=K.h0 hl
 by_cases AV:i<xs.length
 ·rw[acR AV]at hg
  obtain⟨h1,h2⟩:=I1.go Z i σ dO F' H2 xs[i] s K' (by simp[AV])
  refine .inr ⟨h1,λv H3 y=>?_⟩
  obtain⟨F2,s2,K2,r2,sH,nw⟩:=h2 v H3 y
  have N9:Slots (md ob X) Z F2 σ H3 dO fp:=L'.move s2 (λ_ c o _ e=>sH c o e) nw
  have QV:F2 l=none:=by
   cases e:F2 l with
   |none=>rfl
   |some o=>
    rcases nw l (by rw[e];simp)with q|q
    ·exact absurd NO q
    ·rw[G6]at q;cases q
  have Ls:H3 l=some (.dK ys):=sH _ _ G6
  have Kb:=pz hj K2 N9
  have hσ4:∀{σ4:L2.St},(∀(k j:Nat),js[k]?=some (some j)->σ4[k]?=(AE js σ)[k]?)->True:=λ_=>trivial
  have Ol:=dq (K:=X.K) hT v (AE js σ) H3 _ (rK (M:=md ob X) (Q:=λσ4 H4=>H4=H3/\∃b1,zW (md ob X) (Zb js dO fp F2 H3) F2 σ4 H3 b1/\c b1 λok b2=>if ok=true then fk b2 λkk b3=>f b3 λy b4=>DR.length<=100000/\opt (D5 kk) λkey=>Dl (Fn T) c fk f js P (xs.drop (i+1)) (AU js dO b4) (B6 DR key y)else Dl (Fn T) c fk f js P (xs.drop (i+1)) (AU js dO b2) DR) Kb r2 hg λe4 σ4 p4 K4=>⟨rfl,e4,K4,p4⟩)
  have mono:∀(Q1 Q2:L2.St->Hp->Prop),(∀a b,Q1 a b->Q2 a b)->FT X.K T v (AE js σ) H3 Q1->FT X.K T v (AE js σ) H3 Q2:=by
   have Ia:∀(l:List Nat),∀x σ H (Q Q':L2.St->Hp->Prop),(∀a b,Q a b->Q' a b)->Eu l x σ H Q->Eu l x σ H Q':=by
    intro l
    induction l with
    |nil=>exact λx σ H Q Q' h q=>⟨q.1,h _ _ q.2⟩
    |cons i l ih=>exact my ju ih
   intro Q1 Q2 hq q
   cases T with
   |nm i=>exact hq _ _ q
   |tp l=>
    obtain⟨a,xs,e1,e2,e3,e4⟩:=q
    exact⟨a,xs,e1,e2,e3,Ia l _ _ _ _ _ hq e4⟩
  refine mono _ _ ?_ Ol
  rintro σ4 H4 ⟨⟨rfl,b1,K4,p4⟩,hlen,A6⟩
  refine⟨_,F2,b1,_,K4,p4,λb b2 F5 H5 p5 s5 K5=>?_⟩
  have again:∀{F6 H6:Hp} {b3:En} {ys':List (Key×V)} {FZ:List (Key×PV)},eQ F2 F6->zW (md ob X) (Zb js dO fp F2 H4) F6 σ4 H6 b3->Dl (Fn T) c fk f js P (xs.drop (i+1)) (AU js dO b3) FZ->zK X.K F6 ys' FZ ->
    H6 l=some (.dK ys)/\(∃m',m'<xs.length - i/\m'=xs.length - (i+1)/\(upd H6 l (.dK ys')) l=some (.dK ys')/\∃F' dO DR fp,eQ F F'/\zW (md ob X) Z F' σ (upd H6 l (.dK ys')) dO/\Slots (md ob X) Z F' σ (upd H6 l (.dK ys')) dO fp/\F' l=none/\(∀i,l∉fp i)/\zK X.K F' ys' DR/\Dl (Fn T) c fk f js P (xs.drop (i+1)) dO DR):=λ{F6 H6 b3 ys' FZ} s6 K6 p6 r6=>by
   obtain⟨HB,L6,Ri,D7⟩:=nk hj K2 N9 K6 A6
   have Lr:H6 l=some (.dK ys):=K6.sG l _ Ls λz=>by
    obtain⟨_,j,_,_,_,hm⟩:=eY z
    exact hn j hm
   have NN:F6 l=none:=by
    cases e:F6 l with
    |none=>rfl
    |some o=>
     rcases K6.nw l (by rw[e];simp)with q|q
     ·exact absurd QV q
     ·exact absurd q (by show H4 l≠none;rw[Ls];simp)
   have Jy:∀i,l∉HB i:=λi h=>by
    rcases D7 i l h with ⟨i',q⟩|q
    ·exact hn i' q
    ·rw[Ls]at q;cases q
   obtain⟨K7,L7⟩:=Ri.GX (o:=.dK ys') L6 NN h0 Jy
   exact⟨Lr,_,by omega,rfl,ao,F6,_,_,HB,aj s (aj s2 s6),K7,L7,NN,Jy,r6,p6⟩
  cases b with
  |false=>
   refine D6 ?_
   obtain⟨Qx,m',h1,h2,h3,F',dO,DR,fp,q1,q2,q3,q4⟩:=again (ys':=ys) s5 K5 p5 ((ry.mono s2).mono s5)
   have e:upd H5 l (.dK ys)=H5:=by
    funext a
    by_cases z:a=l
    ·subst z;rw[ao,Qx]
    ·rw[ak z]
   rw[e]at h3 q2 q3
   exact⟨m',h1,h2,h3,F',dO,DR,fp,q1,q2,q3,q4⟩
  |true=>
   refine Ey ⟨_,F5,b2,_,K5,p5,λkx b3 v6 F6 H6 p6 s6 K6 r6=>⟨_,F6,b3,_,K6,p6,λy b4 v7 F7 H7 p7 s7 K7 r7=>?_⟩⟩
   obtain⟨p7,key,FE,p8⟩:=p7
   have RG:=aj s5 (aj s6 s7)
   obtain⟨Lr,q⟩:=again (ys':=putK ys key v7) RG K7 p8 (((ry.mono s2).mono RG).put r7)
   refine⟨key,mq FE r6,Lr,?_,q⟩
   rw[ry.len,aaz];omega
 ·rw[aeh (by omega)]at hg
  refine .inl ⟨I1.stop Z i σ dO F' H2 s K' (by omega),kk _ dO _ F' H2 hg s (λ_=>by simp) ?_⟩
  refine K'.slots (by simp[K'.len]) (L'.push (l:=[l]) (by simp) K'.len (.inr (.inl ⟨rfl,l,rfl,rfl,h0,ys,G6,ry⟩)) (λa ha=>?_) λj a ha=>?_)
  ·simp at ha;subst ha
   exact⟨by rw[G6];simp,NO⟩
  ·simp at ha;subst ha
   exact hn j
theorem vO(hi:Jc ob X tg iter fi)(hg:∀C s₀ H₀ ex pn,PG (zV X scope N C s₀ H₀ ex pn) tg (FT X.K T))(ht:∀C s₀ H₀ ex pn,Mn ob (zV X scope N C s₀ H₀ ex pn) ifs c)(hk:∀C s₀ H₀ ex pn,Am ob (zV X scope N C s₀ H₀ ex pn) kx fk)(he:∀C s₀ H₀ ex pn,Am ob (zV X scope N C s₀ H₀ ex pn) vx f)
  (hj:FA js=true:=by rfl) (hT:CM js T=true:=by rfl)
  (hc:X.calm=true:=by rfl) (hx:X.xe=(λ_ _=>False):=by rfl) (DM:DT X.env scope=true:=by rfl) (A6:Ce X.N scope N js=true:=by rfl) (Au:scope.kind=.function:=by rfl) (hs:∀x,abo iter X.env x=pure x:=by intro _;rfl) :
  GS ob X (.DictComp kx vx [⟨tg,iter,ifs,0⟩] scope pos) (JF fi T c fk f js):=by
 obtain⟨wi,Jt,k⟩:=hi.ex
 refine⟨_,zr (wi:=wi) (g:=FT X.K T) (tc:=KR (md ob X) c) (tk:=IM (md ob X) fk) (te:=IM (md ob X) f) (js:=js) Jt hg (λC s₀ H₀ ex pn=>(ht C s₀ H₀ ex pn).ex) (λC s₀ H₀ ex pn=>(hk C s₀ H₀ ex pn).pe) (λC s₀ H₀ ex pn=>(he C s₀ H₀ ex pn).pe) (dq hT) hc hx DM A6 Au hs,λZ F σ H env P Q K hf kk=>?_⟩
 refine k Z F σ H env _ _ K hf λxs e1 J F1 H1 p s1 K1 I1 l hl=>?_
 exact qA hj hT K1 I1 p (λx e2 v F2 H2 p2 s2 FV K2=>kk x e2 v F2 H2 p2 (aj s1 s2) FV K2) l hl
variable{B5:Pos}
theorem vN(i:Nat){y:Str}(hN:X.N.Nodup)(hy:X.N[i]?=some y)(hl:X.env.scope.names.lookup y=some .local)(hi:Jc ob X tg iter fi)(hg:∀C s₀ H₀ ex pn,PG (zV X scope N C s₀ H₀ ex pn) tg (FT X.K T))(ht:∀C s₀ H₀ ex pn,Mn ob (zV X scope N C s₀ H₀ ex pn) ifs c)(hk:∀C s₀ H₀ ex pn,Am ob (zV X scope N C s₀ H₀ ex pn) kx fk)(he:∀C s₀ H₀ ex pn,Am ob (zV X scope N C s₀ H₀ ex pn) vx f)
  (hj:FA js=true:=by rfl) (hT:CM js T=true:=by rfl)
  (Lm:acP (.DictComp kx vx [⟨tg,iter,ifs,0⟩] scope pos) (some (.Name y py)) B5.line X.env=pure true:=by rfl)
  (hc:X.calm=true:=by rfl) (hx:X.xe=(λ_ _=>False):=by rfl) (DM:DT X.env scope=true:=by rfl) (A6:Ce X.N scope N js=true:=by rfl) (Au:scope.kind=.function:=by rfl) (hs:∀x,abo iter X.env x=pure x:=by intro _;rfl) :
  FY ob X (.Assign [.Name y py] (.DictComp kx vx [⟨tg,iter,ifs,0⟩] scope pos) B5) (Bw i (JF fi T c fk f js)):=by
 obtain⟨wi,Jt,k⟩:=hi.ex
 refine⟨_,zp (i:=i) (wi:=wi) (g:=FT X.K T) (tc:=KR (md ob X) c) (tk:=IM (md ob X) fk) (te:=IM (md ob X) f) (js:=js) hN hy hl Jt hg (λC s₀ H₀ ex pn=>(ht C s₀ H₀ ex pn).ex) (λC s₀ H₀ ex pn=>(hk C s₀ H₀ ex pn).pe) (λC s₀ H₀ ex pn=>(he C s₀ H₀ ex pn).pe) (dq hT) Lm hc hx DM A6 Au hs,λZ F σ H env P D K hf L=>?_⟩
 refine k Z F σ H env _ _ K hf λxs e1 J F1 H1 p s1 K1 I1 l hl=>?_
 exact qA (P:=λx e=>P.nx (e.set i (some ⟨1,x⟩))) (Q:=λv H'=>D.nx (σ.set i (some v)) H') hj hT K1 I1 p (λx e2 v F2 H2 p2 s2 FV K2=>L.nx _ _ F2 H2 p2 (aj s1 s2) K2.take) l hl
abbrev LM:=List PV->List PV->Option (PV×List PV)
def J9(m:LM)(i:Nat)(fa:WA):WE:=λenv P=>(match env[i]? with|some (some ⟨1,.lst _⟩)=>True|some (some ⟨3,.lst _⟩)=>True|_=>False)/\fa env λxs e=>match e[i]? with
 |some (some ⟨1,.lst ys⟩)=>opt (m ys xs) λr=>P r.1 (e.set i (some ⟨1,.lst r.2⟩))
 |some (some ⟨3,.lst ys⟩)=>opt (m ys xs) λr=>P r.1 (e.set i (some ⟨3,.lst r.2⟩))
 |_=>False
def Rh(K:aah)(r:V->List V->Hp->VK->Prop)(m:LM):Prop :=
 ∀(F H:Hp) (l:Addr) (ys vs:List V) (ps xs:List PV) (z:PV) (MU:List PV) (Q:VK),eQ F H->H l=some (.lst ys)->zL K F ys ps->zL K F vs xs->m ps xs=some (z,MU) ->
  (∀v ys',Rep K F v z->zL K F ys' MU->Q v (upd H l (.lst ys')))->r (.ref l) vs H Q
variable{c:Expr}{apos Bl:Pos}{name:Str}{r:V->List V->Hp->VK->Prop}{m:LM}
theorem yG{t:TA}{i:Nat}(hq:Rh X.K r m)(k:∀(Z:Zn) (F:Hp) (σ:L2.St) (H:Hp) (env:En) (P:List PV->En->Prop) (Q:List V->Hp->Prop),zW (md ob X) Z F σ H env->fa env P->(∀xs dO vs F' H',P xs dO->xs.length=es.length->eQ F F'->zW (md ob X) Z F' σ H' dO->zL X.K F' vs xs->Q vs H')->t σ H Q):
  ∀(Z:Zn) (F:Hp) (σ:L2.St) (H:Hp) (env:En) (P:PV->En->Prop) (Q:VK),zW (md ob X) Z F σ H env->J9 m i fa env P->(∀x dO v F' H',P x dO->eQ F F'->zW (md ob X) Z F' σ H' dO->Rep X.K F' v x->Q v H')->RA X.K "list" r (AR i) t σ H Q:=by
 intro Z F σ H env P Q K hf kk
 obtain⟨h0,hf⟩:=hf
 obtain⟨a,hσ,SO,ha⟩:∃a,σ[i]?=some (some (.ref a))/\∃vs,H a=some (.lst vs):=by
  split at h0
  ·rename_i e
   obtain⟨a,h1,vs,h2,_⟩:=K.ownAt (.inl rfl) e
   exact⟨a,h1,vs,h2⟩
  ·rename_i e
   obtain⟨a,h1,vs,h2,_⟩:=K.ownAt (.inr rfl) e
   exact⟨a,h1,vs,h2⟩
  ·exact h0.elim
 refine⟨_,hσ,.inl ⟨rfl,SO,.inl (.inl ha)⟩,?_⟩
 refine k Z F σ H env _ _ K hf λxs e1 vs F1 H1 p _ s1 K1 r1=>?_
 have fin:∀(kd:Nat) (ys:List PV),kd=1\/kd=3->e1[i]?=some (some ⟨kd,.lst ys⟩)->opt (m ys xs) (λr=>P r.1 (e1.set i (some ⟨kd,.lst r.2⟩)))->r (.ref a) vs H1 Q:=λkd ys hk ei ⟨⟨z,ys'⟩,hm,p⟩=>by
  obtain⟨a',h1,ws,h2,h3⟩:=K1.ownAt hk ei
  rw[hσ]at h1;cases h1
  refine hq F1 H1 a ws vs ys xs z ys' Q K1.sF h2 h3 r1 hm λv us rv ru=>?_
  exact kk z _ v F1 _ p s1 (K1.write (o:=.lst us) hk ei hσ ⟨us,ao,ru⟩) rv
 split at p
 ·rename_i ei;exact fin _ _ (.inl rfl) ei p
 ·rename_i ei;exact fin _ _ (.inr rfl) ei p
 ·exact p.elim
theorem lD(i:Nat)(slot:Slot "list" name Np)(Ju:typeOf (.builtin Np)=pure (.type "method_descriptor"))(hm:Sx X Np r)(hq:Rh X.K r m)(ho:PE X (.Name x p) (AR i))(ha:FQ ob X (e::es) fa)
  (Bz:acr (.Name x p) name X.env (eval (.Name x p) X.env)=eval (.Name x p) X.env:=by rfl)
  (Lw:((backTo Bl (aam (e::es) X.env)).all (λx=>!x.1) && (backToKw Bl (aeO [] X.env)).all (λx=>x.1.isSome)
   && decide ((e::es).length+([]:List afi).length+(if ([]:List afi).isEmpty then 0 else 1)<30))=true:=by rfl)
  (By:(apos.endLine==Bl.line)=true:=by rfl) (hs:aam (e::es) X.env=(false,eval e X.env)::aam es X.env:=by rfl) (Gr:(backTo Bl (aam es X.env)).any (·.1)=false:=by rfl) :
  Am ob X (.Call (.Attribute (.Name x p) name apos) (e::es) [] Bl) (J9 m i fa):=by
 obtain⟨t,ht,k⟩:=ha.ex
 exact⟨_,vH PySem.F.plainAttrs_list slot Ju hm ho ht Bz Lw By hs Gr,yG hq k⟩
def cj:LM:=λys xs=>match xs with
 |[x]=>if ys.length<=100000 then some (.rW,ys++[x])else none
 |_=>none
theorem dF:Rh X.K qc cj:=by
 intro F H l ys vs ps xs z MU Q sF hl ry rx hm k
 unfold cj at hm
 split at hm
 ·split at hm
  ·cases hm
   cases rx with
   |cons r1 r2=>
    cases r2
    refine⟨l,ys,_,rfl,rfl,hl,?_,k _ _ .rW (ry.app (.cons r1 .nil))⟩
    rw[ry.len,aaz];omega
  ·cases hm
 ·cases hm
def Dt:PV->PV->PV->Option PV
 |.lst xs,.int i,v=>(IQ xs.length i).map λj=>.lst (xs.set j v)
 |.Av kvs,y,v=>if kvs.length<=100000 then (D5 y).map λk=>.Av (B6 kvs k v)else none
 |_,_,_=>none
def EU(i:Nat)(fv fk:WE):WS:=λP env=>fv env λv e1=>(e1[i]?).join.isSome=true/\fk e1 λy e2=>match e2[i]? with
 |some (some ⟨1,x⟩)=>opt (Dt x y v) λz=>P.nx (e2.set i (some ⟨1,z⟩))
 |some (some ⟨3,x⟩)=>opt (Dt x y v) λz=>P.nx (e2.set i (some ⟨3,z⟩))
 |_=>False
variable{ke:Expr}
def JW:IF:=λo i v H Q=>∃a H',o=.ref a/\LZ H a i v H'/\Q H'
theorem ua(hu:X.A.units+1<cLine):FP X JW:=by
 intro pins s σ H o i v ov iv u Q I ro ri rv h
 obtain⟨a,H',rfl,g,q⟩:=h
 cases ro
 exact tJ hu I g ri rv λs4 I4=>⟨H',I4,q⟩
theorem FP.or{t u:IF}(h:FP X t)(h':FP X u):FP X (λo i v H Q=>t o i v H Q\/u o i v H Q):=by
 intro pins s σ H o i v ov iv w Q I ro ri rv q
 rcases q with q|q
 ·exact h pins s σ H o i v ov iv w Q I ro ri rv q
 ·exact h' pins s σ H o i v ov iv w Q I ro ri rv q
theorem lC(i:Nat)(hu:X.A.units+1<cLine)(hv:Am ob X e f)(ho:PE X (.Name x p) (AR i))(hk:Am ob X ke fk)
  (hs:ad0 [.Subscript (.Name x p) ke pos] e B5.line X.env=pure false:=by rfl) (hw:ad1 [.Subscript (.Name x p) ke pos] e X.env=pure none:=by rfl)
  (h1:(acy [.Subscript (.Name x p) ke pos] X.env).map (·.2)=[assign (.Subscript (.Name x p) ke pos) X.env]:=by rfl)
  (ha:∀v,assign (.Subscript (.Name x p) ke pos) X.env v=(do
   let ov <- ad3 [v] (eval (.Name x p) X.env)
   let iv <- ad3 [v,ov] (eval ke X.env)
   standAt pos
   ad3 [v,ov,iv] (setItem ov iv v)
   release [v,ov,iv] []):=by intro _;rfl):FY ob X (.Assign [.Subscript (.Name x p) ke pos] e B5) (EU i f fk):=by
 obtain⟨t,ht,k⟩:=hv.ex
 obtain⟨t2,Ik,k2⟩:=hk.ex
 refine⟨_,kY ht (og ho Ik (FP.or jY (ua hu)) ha) hs hw h1,λZ F σ H env P D K hf L=>k Z F σ H env _ _ K hf λv e1 v' F1 H1 p s1 K1 r1=>?_⟩
 obtain⟨h0,p⟩:=p
 obtain⟨w,hw⟩:∃v,σ[i]?=some (some v):=by
  cases e:e1[i]? with
  |none=>rw[e]at h0;cases h0
  |some w=>
   cases w with
   |none=>rw[e]at h0;cases h0
   |some s=>
    obtain⟨fp,L⟩:=K1.sl
    obtain⟨v,hv,_⟩:=L.at' i s e
    exact⟨v,hv⟩
 refine⟨w,hw,k2 Z F1 σ H1 e1 _ _ K1 p λy e2 y' F2 H2 p2 s2 K2 r2=>?_⟩
 have fin:∀(kd:Nat) (x:PV),kd=1\/kd=3->e2[i]?=some (some ⟨kd,x⟩)->opt (Dt x y v) (λz=>P.nx (e2.set i (some ⟨kd,z⟩)))->(G1 w y' v' H2 λH3=>D.nx σ H3)\/JW w y' v' H2 λH3=>D.nx σ H3:=λkd x hk ei ⟨z,hz,p⟩=>by
  obtain⟨a,h1,hx⟩:=K2.ownAt hk ei
  rw[hw]at h1;cases h1
  have RI:=r1.mono s2
  unfold Dt at hz
  split at hz
  ·rw[aaD]at hz
   obtain⟨j,hj,rfl⟩:=hz
   obtain⟨vs,h2,h3⟩:=hx
   cases r2
   exact .inl ⟨a,vs,_,j,rfl,rfl,h2,by rw[h3.len];exact hj,L.nx _ _ F2 _ p (aj s1 s2) (K2.write (o:=.lst (vs.set j v')) hk ei hw ⟨_,ao,h3.Pz j RI⟩)⟩
  ·split at hz
   ·rw[aaD]at hz
    obtain⟨j,hj,rfl⟩:=hz
    obtain⟨vs,h2,h3⟩:=hx
    have hy:=mq hj r2
    subst hy
    exact .inr ⟨a,_,rfl,Tt h2 (by rw[h3.len,aaz];omega),L.nx _ _ F2 _ p (aj s1 s2) (K2.write (o:=.dK (putK vs j v')) hk ei hw ⟨_,ao,h3.put RI⟩)⟩
   ·cases hz
  ·cases hz
 split at p2
 ·rename_i ei;exact fin _ _ (.inl rfl) ei p2
 ·rename_i ei;exact fin _ _ (.inr rfl) ei p2
 ·exact p2.elim
abbrev Fd:=List PV->(PV->Prop)->Prop
def Gc(M:Md)(n:Nat)(D:Fd):Sp:=λvs H Q _=>∃(F:Hp) (xs:List PV) (P:PV->Prop),eQ F H/\zL M.K F vs xs/\xs.length=n/\D xs P /\
 ∀r v F' H',P r->eQ H H'->eQ F F'->eQ F' H'->(∀a,F' a≠none->F a≠none\/H a=none)->Rep M.K F' v r->Q v H'
def AX(n:Nat)(xs:List PV):En:=xs.map (λx=>some ⟨0,x⟩)++aaK (n - xs.length) none
def LP(P:PV->Prop):Wd:={nx:=λ_=>P .rW,rt:=λx _=>P x}
def run(n:Nat)(u:WS):Fd:=λxs P=>u (LP P) (AX n xs)
abbrev C4:=PV->List PV->(PV->PV->Prop)->Prop
def IK(M:Md)(n:Nat)(D:C4):Sp:=λvs H Q _=>∃(F:Hp) (a:Addr) (l:List Addr) (c:PV) (ws:List V) (xs:List PV) (P:PV->PV->Prop),vs=.ref a::ws/\eQ F H/\zL M.K F ws xs/\xs.length+1=n /\
 M.ob.P F H a l c/\(∀b∈l,H b≠none/\F b=none)/\D c xs P /\
 ∀r c' v F' H' l',P r c'->(∀b o,H b=some o->b∉l->H' b=some o)->(∀b,H b≠none->H' b≠none)->eQ F F'->eQ F' H'->(∀a,F' a≠none->F a≠none\/H a=none)->M.ob.P F' H' a l' c'->(∀b∈l',H' b≠none/\F' b=none)->(∀b∈l',b∈l\/H b=none)->Rep M.K F' v r->Q v H'
def MY(P:PV->Prop)(e:En):Prop:=match e[(0:Nat)]? with
 |some (some ⟨2,c⟩)=>P c
 |_=>False
def IC(P:PV->PV->Prop):Wd:={nx:=λe=>MY (P .rW) e,rt:=λx e=>MY (P x) e}
def DX(n:Nat)(u:WS):C4:=λc xs P=>u (IC P) (some ⟨2,c⟩::AX (n - 1) xs)
theorem ir{vs:List V}(h:vs.length<=N.length):(start N vs).length=N.length:=by
 unfold L2.start
 rw[aat,aad,aca];omega
theorem gP{xs:List PV}(h:xs.length<=n):(AX n xs).length=n:=by
 unfold AX
 rw[aat,aad,aca];omega
theorem gQ{xs:List PV}{i:Nat}{s:Sl}(h:(AX n xs)[i]?=some (some s)):∃x,xs[i]?=some x/\s=⟨0,x⟩:=by
 unfold AX at h
 rcases aaZ i xs.length with q|q
 ·rw[aaC (by simpa using q),aal,aab q]at h
  exact⟨xs[i],by simp[q],(aau (aau h)).symm⟩
 ·rw[adE (by simpa using q),List.getElem?_replicate]at h
  split at h<;>cases h
theorem dA{vs:List V}{i:Nat}{v:V}(h:vs[i]?=some v):(start N vs)[i]?=some (some v):=by
 unfold L2.start
 have q:i<vs.length:=by
  rcases aaZ i vs.length with q|q
  ·exact q
  ·rw[aan q]at h;cases h
 rw[aaC (by simpa using q),aal,h];rfl
theorem rL{vs:List V}{xs:List PV}(sF:eQ F H)(r:zL M.K F vs xs)(hl:xs.length<=N.length):zW M ⟨H,F,[],λ_=>none,λ_ h=>by simp at h⟩ F (start N vs) H (AX N.length xs):=by
 have FX:vs.length<=N.length:=by rw[r.len];exact hl
 refine⟨sF,λb o h _=>h,λb h=>h,aq,λa h=>.inl h,by rw[gP hl,ir FX],λ_=>[],λi s h=>?_,λi a h=>by simp at h,λi j a _ h=>by simp at h,λi a s h=>by cases h⟩
 obtain⟨x,hx,rfl⟩:=gQ h
 obtain⟨v,hv,rv⟩:=r.get hx
 exact⟨v,dA hv,.inl ⟨rfl,rfl,rv⟩⟩
variable{l:List Addr}
theorem qN{xs:List PV}{a:Addr}{c:PV}(sF:eQ F H)(r:zL M.K F ws xs)(hl:xs.length+1<=N.length)(ho:M.ob.P F H a l c)(hb:∀b∈l,H b≠none/\F b=none):
  zW M ⟨H,F,l,λi=>if i=0 then some a else none,λb h=>(hb b h).1⟩ F (start N (.ref a::ws)) H (some ⟨2,c⟩::AX (N.length - 1) xs):=by
 have FX:ws.length+1<=N.length:=by rw[r.len];exact hl
 refine⟨sF,λb o h _=>h,λb h=>h,aq,λa h=>.inl h,?_,λi=>if i=0 then l else [],λi s h=>?_,λi b h=>?_,λi j b DH h z=>?_,λi b s h _ _=>?_⟩
 ·rw[abA,gP (by omega),ir (by simpa using FX)];omega
 ·cases i with
  |zero=>
   have h:s=⟨2,c⟩:=by simpa using h.symm
   subst h
   exact⟨.ref a,dA rfl,.inr (.inr (.inl ⟨.inl rfl,a,rfl,λc hc=>.inl hc,ho⟩))⟩
  |succ i=>
   have h:(AX (N.length - 1) xs)[i]?=some (some s):=by simpa using h
   obtain⟨x,hx,rfl⟩:=gQ h
   obtain⟨v,hv,rv⟩:=r.get hx
   exact⟨v,dA (by simpa using hv),.inl ⟨rfl,rfl,rv⟩⟩
 ·split at h
  ·exact hb b h
  ·simp at h
 ·split at h
  ·split at z
   ·rename_i h1 h2;exact DH (h1.trans h2.symm)
   ·simp at z
  ·simp at h
 ·dsimp only at h
  split at h
  ·rename_i e;subst e;cases h;exact dA rfl
  ·cases h
variable{P:aaI}{w:World}{mg:Str->Option Value}{base:Heap}
variable{qual:Str}{fd:abR}{ps:List Str}
theorem bi{f:Addr}{k:Nat}(F:Hu K x qual st f fd)(S:aB N ps (au st))(hn:ps.length<=N.length)
  (hb:∀(Ao:Value) (A:Around) (outer:List Env) (s:Shared) (H:Hp) (E:XK),AB k (A.deeper (envOfC qual (au st) s.heap.objs.size f Ao))->Ej ob (EB Bn P w K mg base N qual (au st) f Ao A outer s H E).Jq (bR st) u) :
  Ae P w K mg base Bn (k+1) f fd ps (Gc ⟨P,w,K,ob⟩ ps.length (run N.length u)):=by
 refine F.ok S (λvs H Q E h=>?_) (λAo A outer s H vs Q E hr h=>?_)
 ·obtain⟨F,xs,P,_,r,hl,_⟩:=h
  rw[r.len];exact hl
 ·obtain⟨F,xs,P',sF,r,hl,hD,kk⟩:=h
  obtain⟨t,ht,kt⟩:=(hb Ao A outer s H E hr).ex
  refine⟨t,ht,kt ⟨H,F,[],λ_=>none,λ_ h=>by simp at h⟩ F (start N vs) H (AX N.length xs) (LP P') _ (rL (M:=⟨P,w,K,ob⟩) sF r (by omega)) hD ⟨λenv σ F' H' p s1 K1=>?_,λx env v σ F' H' p s1 K1 rv=>?_,λ_ _ _ _ p=>p.elim,λ_ _ _ _ p=>p.elim,λ_ _ _ _ _ _ p=>p.elim,λ_ _ _ _ _ _ _ p=>p.elim⟩⟩
  ·exact kk .rW .rW F' H' p (λb o h=>K1.sG b o h (by simp)) s1 K1.sF K1.nw .rW
  ·exact kk x v F' H' p (λb o h=>K1.sG b o h (by simp)) s1 K1.sF K1.nw rv
theorem cV{f:Addr}{k:Nat}(F:Hu K x qual st f fd)(S:aB N ps (au st))(hn:ps.length<=N.length)
  (hb:∀(Ao:Value) (A:Around) (outer:List Env) (s:Shared) (H:Hp) (E:XK),AB k (A.deeper (envOfC qual (au st) s.heap.objs.size f Ao))->Ej ob (EB Bn P w K mg base N qual (au st) f Ao A outer s H E).Jq (bR st) u) :
  Ae P w K mg base Bn (k+1) f fd ps (IK ⟨P,w,K,ob⟩ ps.length (DX N.length u)):=by
 refine F.ok S (λvs H Q E h=>?_) (λAo A outer s H vs Q E hr h=>?_)
 ·obtain⟨F,a,l,c,ws,xs,P,rfl,_,r,hl,_⟩:=h
  rw[abA,r.len];exact hl
 ·obtain⟨F,a,l,c,ws,xs,P',rfl,sF,r,hl,ho,Hm,hD,kk⟩:=h
  obtain⟨t,ht,kt⟩:=(hb Ao A outer s H E hr).ex
  have fin:∀(x:PV) (env:En) (v:V) (σ:L2.St) (F' H':Hp),MY (P' x) env->eQ F F'->zW ⟨P,w,K,ob⟩ ⟨H,F,l,λi=>if i=0 then some a else none,λb h=>(Hm b h).1⟩ F' σ H' env->Rep K F' v x->Q v H':=λx env v σ F' H' p s1 K1 rv=>by
   unfold MY at p
   split at p
   ·rename_i c' e
    obtain⟨fp,L⟩:=K1.sl
    obtain⟨v0,G3,ok⟩:=L.at' 0 _ e
    have hσ:=L.oa 0 a _ rfl e rfl
    rw[hσ]at G3;cases G3
    rcases ok with ⟨k0,_⟩|⟨k0,_⟩|⟨_,a',e',h1,h2⟩|⟨k0,_⟩
    ·cases k0
    ·cases k0
    ·cases e'
     exact kk x _ v F' H' (fp 0) p (λb o h1 h2=>K1.sG b o h1 h2) (λb h=>K1.pr b h) s1 K1.sF K1.nw h2 (λb hb=>L.al 0 b hb) (λb hb=>h1 b hb) rv
    ·cases k0
   ·exact p.elim
  refine⟨t,ht,kt ⟨H,F,l,λi=>if i=0 then some a else none,λb h=>(Hm b h).1⟩ F (start N (.ref a::ws)) H (some ⟨2,c⟩::AX (N.length - 1) xs) (IC P') _ (qN (M:=⟨P,w,K,ob⟩) sF r (by omega) ho Hm) hD ⟨λenv σ F' H' p s1 K1=>?_,λx env v σ F' H' p s1 K1 rv=>?_,λ_ _ _ _ p=>p.elim,λ_ _ _ _ p=>p.elim,λ_ _ _ _ _ _ p=>p.elim,λ_ _ _ _ _ _ _ p=>p.elim⟩⟩
  ·exact fin .rW env .rW σ F' H' p s1 K1 .rW
  ·exact fin x env v σ F' H' p s1 K1 rv
def Ak(D:Fd)(fa:WA):WE:=λenv P=>fa env λxs e=>D xs λr=>P r e
def tO(D:C4)(i:Nat)(fa:WA):WE:=λenv P=>(env[i]?).join.isSome=true/\fa env λxs e=>match e[i]? with
 |some (some ⟨2,c⟩)=>D c xs λr c'=>P r (e.set i (some ⟨2,c'⟩))
 |some (some ⟨4,c⟩)=>D c xs λr c'=>P r (e.set i (some ⟨4,c'⟩))
 |_=>False
variable{k:Nat}{CJ:Addr}{D:Fd}{DO:C4}{p1:Pos}
theorem qt(F:Ae X.prog X.w X.K X.mg X.base Bn k CJ fd ps (Gc (md ob X) n D))(hr:AB k X.A)(hm:X.mg x=some (.ref CJ))(hk:abM X.K (.ref CJ)=true)(hb:Binds X.K fd ps [])(ha:FQ ob X (e::es) fa)(hn:es.length+1=n:=by rfl)(hg:Gl X x:=by rfl)
  (C1:(x==("__debug__" : Str))=false:=by decide) (he:aam (e::es) X.env=(false,eval e X.env)::aam es X.env:=by rfl) (A5:(backTo pos (aam es X.env)).any (·.1)=false:=by rfl) :
  Am ob X (.Call (.Name x p) (e::es) [] pos) (Ak D fa):=by
 obtain⟨t,ht,kt⟩:=ha.ex
 refine⟨_,jh (E:=E0) F hr hg hm hk hb .nil Fv ht C1 he A5,λZ F σ H env P Q K hf kk=>kt Z F σ H env _ _ K hf λxs e1 vs F1 H1 p hl s1 K1 r1=>?_⟩
 rw[aby]
 refine⟨F1,xs,λr=>P r e1,K1.sF,r1,by rw[hl];exact hn,p,λr v F' H' pr sH sF Jk nw rv=>?_⟩
 exact kk r e1 v F' H' pr (aj s1 sF) (K1.move sF Jk sH nw) rv
theorem zW.Ld{i kd:Nat}{a:Addr}{c c':PV}{l':List Addr}(hk:kd=2\/kd=4)(K:zW M Z F σ H env)(L:Slots M Z F σ H env fp)(hi:env[i]?=some (some ⟨kd,c⟩))(hv:σ[i]?=some (some (.ref a)))
  (kp:∀b o,H b=some o->b∉fp i->H' b=some o) (pr:∀b,H b≠none->H' b≠none) (sF:eQ F F') (Jk:eQ F' H') (nw:∀a,F' a≠none->F a≠none\/H a=none) (ho:M.ob.P F' H' a l' c') (hl:∀b∈l',H' b≠none/\F' b=none) (hn:∀b∈l',b∈fp i\/H b=none) :
  zW M Z F' σ H' (env.set i (some ⟨kd,c'⟩))/\Slots M Z F' σ H' (env.set i (some ⟨kd,c'⟩)) (λj=>if j=i then l' else fp j):=by
 obtain⟨v0,G3,PX⟩:=L.at' i _ hi
 have wr:=PX.wr
 have SI:∀b∈l',b∈Z.S\/Z.H₀ b=none:=λb hb=>by
  rcases hn b hb with q|q
  ·exact wr b q
  ·exact .inr (K.h0 q)
 have AV:i<env.length:=by
  rcases aaZ i env.length with q|q
  ·exact q
  ·rw[aan q]at hi;cases hi
 suffices S:Slots M Z F' σ H' (env.set i (some ⟨kd,c'⟩)) (λj=>if j=i then l' else fp j)from ⟨⟨Jk,λb o h1 h2=>kp b o (K.sG b o h1 h2) λz=>(wr b z).elim h2 λq=>(by rw[q]at h1;cases h1),λb h=>pr b (K.pr b h),aj K.gr sF,λa h=>(nw a h).elim (K.nw a) λq=>.inr (K.h0 q),by simp[K.len],_,S⟩,S⟩
 refine⟨λj s e=>?_,λj b h=>?_,λj j2 b Mf h z=>?_,λj b s e1 e2 e3=>?_⟩
 ·by_cases q:j=i
  ·subst q
   rw[abI]at e
   simp only[if_true,AV]at e
   cases e
   exact⟨_,hv,by rw[if_pos rfl];exact .inr (.inr (.inl ⟨hk,a,rfl,SI,ho⟩))⟩
  ·rw[aaE (abG q)]at e
   obtain⟨v,h1,h2⟩:=L.at' j s e
   have h3:=h2.mono (H':=H') sF λc hc=>by
    obtain⟨o,ho⟩:=dH (L.al j c hc).1
    rw[ho]
    exact kp c o ho (L.dj j i c q hc)
   exact⟨v,h1,by rw[if_neg q];exact h3⟩
 ·by_cases q:j=i
  ·rw[if_pos q]at h;exact hl b h
  ·rw[if_neg q]at h
   have:=L.al j b h
   refine⟨pr b this.1,?_⟩
   cases e:F' b with
   |none=>rfl
   |some o=>
    rcases nw b (by rw[e];simp)with y|y
    ·exact absurd this.2 y
    ·exact absurd y this.1
 ·have Na:∀j,j≠i->b∈l'->b∈fp j->False:=λj hj m1 m2=>by
   rcases hn b m1 with y|y
   ·exact L.dj j i b hj m2 y
   ·exact(L.al j b m2).1 y
  by_cases q:j=i
  ·rw[if_pos q]at h
   rw[if_neg (λy=>Mf (q.trans y.symm))]at z
   exact Na j2 (λy=>Mf (q.trans y.symm)) h z
  ·rw[if_neg q]at h
   by_cases q2:j2=i
   ·rw[if_pos q2]at z;exact Na j q z h
   ·rw[if_neg q2]at z;exact L.dj j j2 b Mf h z
 ·by_cases q:j=i
  ·subst q
   rw[abI]at e2
   simp only[if_true,AV]at e2
   cases e2
   exact L.oa j b _ e1 hi e3
  ·rw[aaE (abG q)]at e2
   exact L.oa j b s e1 e2 e3
theorem vg(i:Nat){y:Str}(F:Ae X.prog X.w X.K X.mg X.base Bn k CJ fd ps (IK (md ob X) n DO))(hr:AB k X.A)(hm:X.mg x=some (.ref CJ))(hk:abM X.K (.ref CJ)=true)(hb:Binds X.K fd ps [])(ho:PE X (.Name y p1) (AR i))(ha:FQ ob X es fa)(hn:es.length+1=n:=by rfl)(hg:Gl X x:=by rfl)
  (C1:(x==("__debug__" : Str))=false:=by decide) (he:aam (.Name y p1::es) X.env=(false,eval (.Name y p1) X.env)::aam es X.env:=by rfl) (A5:(backTo pos (aam es X.env)).any (·.1)=false:=by rfl) :
  Am ob X (.Call (.Name x p) (.Name y p1::es) [] pos) (tO DO i fa):=by
 obtain⟨t,ht,kt⟩:=ha.ex
 refine⟨_,jh (E:=E0) F hr hg hm hk hb .nil Fv (bu ho ht he) C1 he A5,λZ F σ H env P Q K hf kk=>?_⟩
 obtain⟨h0,hf⟩:=hf
 obtain⟨w,hw⟩:∃v,σ[i]?=some (some v):=by
  cases e:env[i]? with
  |none=>rw[e]at h0;cases h0
  |some w=>
   cases w with
   |none=>rw[e]at h0;cases h0
   |some s=>
    obtain⟨fp,L⟩:=K.sl
    obtain⟨v,hv,_⟩:=L.at' i s e
    exact⟨v,hv⟩
 refine⟨w,hw,kt Z F σ H env _ _ K hf λxs e1 vs F1 H1 p hl s1 K1 r1=>?_⟩
 show IK (md ob X) n DO ((w::vs)++[]) H1 Q E0
 rw[aby]
 have fin:∀(kd:Nat) (c:PV),kd=2\/kd=4->e1[i]?=some (some ⟨kd,c⟩)->DO c xs (λr c'=>P r (e1.set i (some ⟨kd,c'⟩)))->IK (md ob X) n DO (w::vs) H1 Q E0:=λkd c Jz ei p=>by
  obtain⟨fp,L⟩:=K1.sl
  obtain⟨v0,G3,ok⟩:=L.at' i _ ei
  rw[hw]at G3;cases G3
  rcases ok with ⟨k0,_⟩|⟨k0,_⟩|⟨_,a,rfl,_,ho⟩|⟨k0,_⟩
  ·rcases Jz with rfl|rfl<;>cases k0
  ·rcases Jz with rfl|rfl<;>cases k0
  ·refine⟨F1,a,fp i,c,vs,xs,_,rfl,K1.sF,r1,by rw[hl];exact hn,ho,λb hb=>L.al i b hb,p,λr c' v F' H' l' pr kp pre sF Jk nw DN FX NA rv=>?_⟩
   exact kk r _ v F' H' pr (aj s1 sF) (K1.Ld Jz L ei hw kp pre sF Jk nw DN FX NA).1 rv
  ·rcases Jz with rfl|rfl<;>cases k0
 split at p
 ·rename_i ei;exact fin _ _ (.inl rfl) ei p
 ·rename_i ei;exact fin _ _ (.inr rfl) ei p
 ·exact p.elim
theorem aU{D':Fd}(F:Ae P w K mg base Bn k CJ fd ps (Gc ⟨P,w,K,ob⟩ n D))(h:∀xs P,D' xs P->D xs P):Ae P w K mg base Bn k CJ fd ps (Gc ⟨P,w,K,ob⟩ n D') :=
 F.imp λvs H Q E ⟨F,xs,P,a,b,c,d,e⟩=>⟨F,xs,P,a,b,c,h _ _ d,e⟩
theorem ck{D D':C4}(F:Ae P w K mg base Bn k CJ fd ps (IK ⟨P,w,K,ob⟩ n D))(h:∀c xs P,D' c xs P->D c xs P):Ae P w K mg base Bn k CJ fd ps (IK ⟨P,w,K,ob⟩ n D') :=
 F.imp λvs H Q E q=>by
  obtain⟨F,a,l,c,ws,xs,P,a1,a2,a3,a4,a5,a6,a7,a8⟩:=q
  exact⟨F,a,l,c,ws,xs,P,a1,a2,a3,a4,a5,a6,h _ _ _ a7,a8⟩
theorem Mb(r:AB k A):A.units+1<cLine:=by have:=r.un;omega
theorem Bj(r:AB k A):A.units<cLine:=by have:=r.un;omega
theorem A8(r:AB k A):A.units+60<cLine:=by have:=r.un;omega
theorem Cj(r:AB k A):A.units+62<cLine:=by have:=r.un;omega
def Kq:PV->Option String
 |.rW=>some "NoneType"
 |.bl _=>some "bool"
 |.int _=>some "int"
 |.str _=>some "str"
 |.tup _=>some "tuple"
 |.lst _=>some "list"
 |.Av _=>some "dict"
 |_=>none
def Hj(T c:String):Bool:=T==c || (T == "bool" && c == "int")
def Ih(c:String)(x:PV):Option PV:=(Kq x).map λT=>.bl (Hj T c)
def Cy(c:String)(a:WE):WE:=NT (Ih c) a
theorem yJ{x:PV}{T:String}(h:Kq x=some T)(c:String)(hc:c = "str" \/ c = "tuple" \/ c = "int" \/ c = "bool" \/ c = "list" \/ c = "dict"):aeH K (.type T) (.type c)=some (Hj T c):=by
 cases x<;>cases h<;>rcases hc with rfl|rfl|rfl|rfl|rfl|rfl<;>rfl
def JZ(K:aah)(cl:String):List V->Hp->VK->Prop:=λxs H Q=>MP K xs H Q\/∃p vs,xs=[.ref p,.ty cl]/\AW K H p vs/\aeH K (.type "tuple") (.type cl)=some (Hj "tuple" cl)/\Q (.bl (Hj "tuple" cl)) H
theorem ze{cl:String}:zZ X (.builtin "isinstance") (JZ X.K cl):=by
 refine zZ.or vC ?_
 intro pins s σ H xs us Q I r h
 obtain⟨p,vs,rfl,hp,hk,q⟩:=h
 cases r with
 |cons r1 r2=>
  cases r2 with
  |cons r2 r3=>
   cases r3
   cases r2
   cases r1
   obtain⟨iD,_,⟨o,h1,h2,_⟩,_⟩:=I.tuple hp
   exact abw PySem.W.kitx_tuple I.Ex ⟨o,h1,h2⟩ hk (λz=>nomatch z) λtk=>⟨.bl _,H,I.tok tk,rfl,q⟩
theorem bI(cl:String){T:Str}(hc:cl = "str" \/ cl = "tuple" \/ cl = "int" \/ cl = "bool" \/ cl = "list" \/ cl = "dict")(hm:X.mg "isinstance" = none)(hT:X.mg T=none)(hb:acm T=some (.type cl))(ha:DQ ob X a f)(hg:Gl X "isinstance" :=by rfl)(Um:Gl X T:=by rfl)(hn:T ≠ "__name__" :=by decide)(C1:(T==("__debug__" : Str))=false:=by decide)
  (he:aam [a,.Name T p1] X.env=(false,eval a X.env)::aam [.Name T p1] X.env:=by rfl) (QG:aam [.Name T p1] X.env=(false,eval (.Name T p1) X.env)::aam [] X.env:=by rfl) (A5:(backTo pos (aam [.Name T p1] X.env)).any (·.1)=false:=by rfl) :
  Am ob X (.Call (.Name "isinstance" p) [a,.Name T p1] [] pos) (Cy cl f):=by
 obtain⟨t,ht,k⟩:=ha.ex
 refine⟨_,bE (ze (cl:=cl)) hg hm boot_isinstance (bu ht (bu (wJ (v:=.ty cl) Um hT hb rfl hn C1) bN QG) he) (by decide) (by decide) he A5,λZ F σ H env P Q K hf kk=>k Z F σ H env _ _ K hf λx e1 v F1 H1 p s1 K1 r1=>?_⟩
 obtain⟨z,hz,p⟩:=p
 unfold Ih at hz
 rw[aaD]at hz
 obtain⟨T',OO,rfl⟩:=hz
 have fin:∀w,Rep X.K F1 w (.bl (Hj T' cl))->Q w H1:=λw r=>kk _ e1 _ F1 H1 p s1 K1 r
 have q:=fin _ (.bl _)
 have kt:=yJ (K:=X.K) OO cl hc
 show JZ X.K cl [v,.ty cl] H1 Q
 cases x<;>cases OO
 ·rw[r1.rW];exact .inl ⟨_,_,_,_,rfl,.rW,kt,q⟩
 ·rw[r1.bl];exact .inl ⟨_,_,_,_,rfl,.bl _,kt,q⟩
 ·rw[r1.int];exact .inl ⟨_,_,_,_,rfl,.int _,kt,q⟩
 ·rw[r1.str];exact .inl ⟨_,_,_,_,rfl,.str _,kt,q⟩
 ·obtain⟨q',vs,rfl,h1,h2⟩:=r1.tup K1.sF
  exact .inr ⟨q',vs,rfl,h1,kt,q⟩
 ·obtain⟨q',vs,rfl,h1,h2⟩:=r1.lst K1.sF
  exact .inl ⟨_,_,_,_,rfl,.lst h1,kt,q⟩
 ·obtain⟨q',vs,rfl,h1,h2⟩:=r1.Av K1.sF
  exact .inl ⟨_,_,_,_,rfl,.dK h1,kt,q⟩
def Dj(o o':PV->PV->Option PV)(fa fb fc:WE):WE:=λenv P=>fa env λx e1=>fb e1 λy e2=>opt (o x y) λz=>opt (ED z) λk=>if k=true then fc e2 λw e3=>opt (o' y w) λz'=>P z' e3 else P (.bl false) e2
theorem xv(hm:∃t,X.mg x=some (.int i t))(hg:Gl X x:=by rfl)(hd:(x==("__debug__" : Str))=false:=by decide):Am ob X (.Name x pos) (eC (.int i)):=by
 obtain⟨t,hm⟩:=hm
 exact fj (wI (v:=.int i) hg hm ⟨t,rfl⟩ hd) λ_=>.int i
variable{o':PV->PV->Option PV}{tb:TE}
theorem nj{o:PV->PV->Option PV}{r:R2}{ta tc:TE}(hq:Dr ob X r o)(Ln:Dr ob X r' o')
  (ka:∀(Z:Zn) (F:Hp) (σ:L2.St) (H:Hp) (env:En) (P:PV->En->Prop) (Q:VK),zW (md ob X) Z F σ H env->f env P->(∀x dO v F' H',P x dO->eQ F F'->zW (md ob X) Z F' σ H' dO->Rep X.K F' v x->Q v H')->ta σ H Q)
  (kb:∀(Z:Zn) (F:Hp) (σ:L2.St) (H:Hp) (env:En) (P:PV->En->Prop) (Q:VK),zW (md ob X) Z F σ H env->g env P->(∀x dO v F' H',P x dO->eQ F F'->zW (md ob X) Z F' σ H' dO->Rep X.K F' v x->Q v H')->tb σ H Q)
  (kc:∀(Z:Zn) (F:Hp) (σ:L2.St) (H:Hp) (env:En) (P:PV->En->Prop) (Q:VK),zW (md ob X) Z F σ H env->h env P->(∀x dO v F' H',P x dO->eQ F F'->zW (md ob X) Z F' σ H' dO->Rep X.K F' v x->Q v H')->tc σ H Q) :
  ∀(Z:Zn) (F:Hp) (σ:L2.St) (H:Hp) (env:En) (P:PV->En->Prop) (Q:VK),zW (md ob X) Z F σ H env->Dj o o' f g h env P->(∀x dO v F' H',P x dO->eQ F F'->zW (md ob X) Z F' σ H' dO->Rep X.K F' v x->Q v H')->Ga r r' ta tb tc σ H Q:=by
 intro Z F σ H env P Q K hf kk
 refine ka Z F σ H env _ _ K hf λx e1 v F1 H1 p s1 K1 r1=>kb Z F1 σ H1 e1 _ _ K1 p λy e2 u F2 H2 p2 s2 K2 r2=>?_
 obtain⟨z,hz,k,hk,p2⟩:=p2
 refine hq Z F2 σ H2 e2 v u x y z _ K2 (.inl (r1.mono s2)) (.inl r2) hz λv' F3 H3 s3 K3 r3=>?_
 obtain⟨rfl,rfl⟩:=mN r3 hk
 refine⟨k,rfl,?_⟩
 cases k with
 |true=>
  refine Ey (kc Z F3 σ H3 e2 _ _ K3 p2 λw e4 w' F4 H4 p4 s4 K4 r4=>?_)
  obtain⟨z',Tz,p4⟩:=p4
  exact Ln Z F4 σ H4 e4 u w' y w z' Q K4 (.inl ((r2.mono s3).mono s4)) (.inl r4) Tz λv5 F5 H5 s5 K5 r5=>kk z' e4 v5 F5 H5 p4 (aj s1 (aj s2 (aj s3 (aj s4 s5)))) K5 r5
 |false=>exact D6 (kk _ e2 _ F3 H3 p2 (aj s1 (aj s2 s3)) K3 (.bl _))
theorem vd{Gk:CmpOp}{o:PV->PV->Option PV}{r:R2}(ho:AK X (aaV op) r)(hq:Dr ob X r o)(DN:AK X (aaV Gk) r')(Ln:Dr ob X r' o')(ha:Am ob X a f)(hb:Am ob X b g)(hc:Am ob X c h)
  (hm:lastMarks [op,Gk] [b,c]=false:=by with_unfolding_all rfl):Am ob X (.Compare a [op,Gk] [b,c] pos) (Dj o o' f g h):=by
 obtain⟨ta,ha,ka⟩:=ha.ex
 obtain⟨tb,hb,kb⟩:=hb.ex
 obtain⟨tc,hc,kc⟩:=hc.ex
 exact⟨_,uy ho DN ha hb hc hm,nj hq Ln ka kb kc⟩
theorem vh{Gk:CmpOp}{o:PV->PV->Option PV}{r:R2}(ho:AK X (aaV op) r)(hq:Dr ob X r o)(DN:AK X (aaV Gk) r')(Ln:Dr ob X r' o')(ha:Am ob X a f)(hb:Am ob X b g)(hc:Am ob X c h)
  (hm:lastMarks [op,Gk] [b,c]=false:=by with_unfolding_all rfl):GR ob X (.Compare a [op,Gk] [b,c] pos) (zO (Dj o o' f g h)):=by
 obtain⟨ta,ha,ka⟩:=ha.ex
 obtain⟨tb,hb,kb⟩:=hb.ex
 obtain⟨tc,hc,kc⟩:=hc.ex
 refine⟨_,ug ho DN ha hb hc hm,λZ F σ H env P Q K hf k=>nj hq Ln ka kb kc Z F σ H env _ _ K hf λx e1 v F1 H1 p s1 K1 r1=>?_⟩
 obtain⟨z,hz,p⟩:=p
 cases x<;>try (cases hz)
 cases r1
 exact⟨_,rfl,k _ e1 F1 H1 p s1 K1⟩
variable{c:WT}
theorem zW.Mw{v:V}{x:PV}{i:Nat}(K:zW M Z F (σ++[some v]) H (env++[some ⟨1,x⟩]))(hx:∀xs,x≠.set xs):∃F',eQ F F'/\zW M Z F' (σ.set i (some v)) H (env.set i (some ⟨0,x⟩)):=by
 obtain⟨F',s,K',r⟩:=K.G7 hx
 exact⟨F',s,K'.put r⟩
theorem s0(i:Nat){y:Str}(hN:X.N.Nodup)(hy:X.N[i]?=some y)(hk:X.env.scope.names.lookup y=some .local)(hi:Jc ob X tg iter fi)(hg:∀C s₀ H₀ ex pn,PG (zV X scope N C s₀ H₀ ex pn) tg (FT X.K T))(ht:∀C s₀ H₀ ex pn,Mn ob (zV X scope N C s₀ H₀ ex pn) ifs c)(he:∀C s₀ H₀ ex pn,Am ob (zV X scope N C s₀ H₀ ex pn) elt f)
  (hj:FA js=true:=by rfl) (hT:CM js T=true:=by rfl)
  (Lm:acP (.ListComp elt [⟨tg,iter,ifs,0⟩] scope pos) (some (.Name y py)) B5.line X.env=pure true:=by rfl)
  (hc:X.calm=true:=by rfl) (hx:X.xe=(λ_ _=>False):=by rfl) (DM:DT X.env scope=true:=by rfl) (A6:Ce X.N scope N js=true:=by rfl) (Au:scope.kind=.function:=by rfl) (hs:∀x,abo iter X.env x=pure x:=by intro _;rfl) :
  FY ob X (.Assign [.Name y py] (.ListComp elt [⟨tg,iter,ifs,0⟩] scope pos) B5) (Ad i (BQ fi T c f js)):=by
 obtain⟨wi,Jt,k⟩:=hi.ex
 refine⟨_,zo (i:=i) (wi:=wi) (g:=FT X.K T) (tc:=KR (md ob X) c) (te:=IM (md ob X) f) (js:=js) hN hy hk Jt hg (λC s₀ H₀ ex pn=>(ht C s₀ H₀ ex pn).ex) (λC s₀ H₀ ex pn=>(he C s₀ H₀ ex pn).pe) (dq hT) Lm hc hx DM A6 Au hs,λZ F σ H env P D K hf L=>?_⟩
 refine k Z F σ H env _ _ K hf λxs e1 J F1 H1 p s1 K1 I1 l hl=>?_
 refine ql (P:=λx e=>P.nx (e.set i (some ⟨0,x⟩))) (Q:=λv H'=>D.nx (σ.set i (some v)) H') hj hT K1 I1 p (λx e2 v F2 H2 p2 s2 FV K2=>?_) l hl
 obtain⟨F3,s3,K3⟩:=K2.Mw (i:=i) FV
 exact L.nx _ _ F3 H2 p2 (aj s1 (aj s2 s3)) K3
variable{c:Expr}
end Q
namespace L2
open PySem PySem.Spec PyProof.Rows PySem.W
def BJ(P:Addr)(ps:Array Value):HO:=.ext λh=>h.get? P=some (tabObj ps)
def BL(c:Addr)(lq:Str):HO:=.ext λh=>h.CodeRec (.ref c) lq
variable{P:aaI}{w:World}{H:Hp}{h:Heap}{a:Addr}
theorem nY{ps:Array Value}(e:h.get? a=some (tabObj ps)):Af P w H h a (BJ a ps):=⟨e,⟨_,e⟩,λh1 h2 x k=>k _ x⟩
end L2
namespace Pre
open PySem L2
structure Fh(H:Hp)(a b:Addr):Prop where
 st:∃(ns:List Int) (z:Int),H a=some (.lst [.ref b,.int z])/\H b=some (.lst (ns.map V.int))/\(∀n∈ns,0<=n)/\0<=z/\z<2305843009213693951
def FR(a b:Addr)(H H':Hp):Prop:=∀c o,H c=some o->c≠a->c≠b->H' c=some o
theorem FR.refl(a b:Addr)(H:Hp):FR a b H H:=λ_ _ h _ _=>h
variable{H:Hp}{a b:Addr}
theorem Fh.ne(s:Fh H a b):a≠b:=by
 obtain⟨ns,z,h1,h2,_⟩:=s.st
 refine vL h1 h2 λe=>?_
 injection e with e
 cases ns with
 |nil=>cases e
 |cons n r=>injection e with e _;cases e
variable{o:HO}
theorem Fh.grow{p:Addr}(s:Fh H a b)(hp:H p=none):Fh (upd H p o) a b:=by
 obtain⟨ns,z,h1,h2,h3⟩:=s.st
 exact⟨ns,z,by rw[ak (aA h1 hp)];exact h1,by rw[ak (aA h2 hp)];exact h2,h3⟩
variable{H':Hp}
theorem FR.grow{p:Addr}(x:FR a b H H')(hp:H' p=none):FR a b H (upd H' p o):=λc u h h1 h2=>by
 have q:=x c u h h1 h2
 rw[ak (aA q hp)];exact q
theorem FR.KI(x:FR a b H H'):FR a b H (upd H' a o):=λc u h h1 h2=>by rw[ak h1];exact x c u h h1 h2
theorem FR.Ji(x:FR a b H H'):FR a b H (upd H' b o):=λc u h h1 h2=>by rw[ak h2];exact x c u h h1 h2
theorem Fh.Ji{ns:List Int}(s:Fh H a b)(hn:∀n∈ns,0<=n):Fh (upd H b (.lst (ns.map V.int))) a b:=by
 have Bu:=s.ne
 obtain⟨_,z,h1,h2,_,h3⟩:=s.st
 exact⟨ns,z,by rw[ak Bu];exact h1,ao,hn,h3⟩
theorem Fh.KI{z:Int}(s:Fh H a b)(h0:0<=z)(h1:z<2305843009213693951):Fh (upd H a (.lst [.ref b,.int z])) a b:=by
 have Bu:=s.ne
 obtain⟨ns,_,_,h2,h3,_⟩:=s.st
 exact⟨ns,z,ao,by rw[ak Bu.symm];exact h2,h3,h0,h1⟩
def stK(b:Addr)(left seed many:Int):List (Key×V):=[(.inr (aax "cells"),.ref b),(.inr (aax "left"),.int left),(.inr (aax "seed"),.int seed),(.inr (aax "many"),.int many)]
structure Vo(H:Hp)(a b:Addr)(f:Nat):Prop where
 st:∃(ns:List Int) (left seed many:Int),H a=some (.dK (stK b left seed many))/\H b=some (.lst (ns.map V.int))/\0<=left/\0<=seed/\seed<2305843009213693951/\0<=many/\many+f<=1152921504606846976
def jf(K:aah):Sp:=λvs H Q _=>∃(s:Addr) (ns:List Int),vs=[.ref s]/\Bs K H s (ns.map V.int)/\ns.length<=63/\∀(a b:Addr) (H':Hp),H a=none->H b=none->Fh H' a b->eQ H H'->Q (.ref a) H'
def HK:Sp:=λvs H Q _=>∃(a b:Addr) (m:Int),vs=[.ref a,.int m]/\Fh H a b/\0<m/\m<1073741824/\∀(r:Int) (H':Hp),0<=r->r<m->Fh H' a b->FR a b H H'->Q (.int r) H'
end Pre
namespace Q
open PySem L2 PyProof.Rows
def Oe(K:aah)(F H:Hp)(a:Addr)(l:List Addr)(x:PV):Prop:=∃ks:List (Key×Addr×List PV),x=.Av (ks.map λt=>(t.1,.lst t.2.2))/\l=a::ks.map (·.2.1)/\H a=some (.dK (ks.map λt=>(t.1,.ref t.2.1))) /\
 (ks.map (·.2.1)).Nodup/\∀t∈ks,∃vs,H t.2.1=some (.lst vs)/\zL K F vs t.2.2
def CG(lq:Str)(ln co:Nat)(P:Addr):PV:=.tup [.str lq,.int ln,.int co,.int (P:Nat)]
def TabAt(H:Hp)(a:Addr)(l:List Addr)(x:PV):Prop:=∃(lq:Str) (ln co:Nat) (ps:Array Value),x=CG lq ln co a/\H a=some (BJ a ps)/\PySem.TriplesOk ps.toList /\
 ((l=[a]/\act ⟨ln,co,0,0⟩ ps.toList=none)\/∃c',c'≠a/\l=[a,c']/\act ⟨ln,co,0,0⟩ ps.toList=some (.ref c')/\H c'=some (BL c' lq))
def N4(H:Hp)(a:Addr)(l:List Addr)(x:PV):Prop:=(x=.rW/\∃b,l=[a,b]/\Pre.Fh H a b)\/∃(f:Nat) (b:Addr),x=.int f/\l=[a,b]/\Pre.Vo H a b f
def EX(K:aah):BG where
 P:=λF H a l x=>N4 H a l x\/Oe K F H a l x\/TabAt H a l x
 mono:=λF F' H H' a l x h s e=>by
  rcases h with (⟨h0,b,rfl,ns,z,h1,h2,h3⟩|⟨f,b,h0,rfl,ns,q1,q2,q3,h1,h2,h3⟩)|⟨ks,rfl,rfl,h1,h2,h3⟩|⟨lq,ln,co,ps,rfl,h1,h2,h3⟩
  ·exact .inl (.inl ⟨h0,b,rfl,ns,z,(e a (by simp)).trans h1,(e b (by simp)).trans h2,h3⟩)
  ·exact .inl (.inr ⟨f,b,h0,rfl,ns,q1,q2,q3,(e a (by simp)).trans h1,(e b (by simp)).trans h2,h3⟩)
  ·refine .inr (.inl ⟨ks,rfl,rfl,(e a (by simp)).trans h1,h2,λt ht=>?_⟩)
   obtain⟨vs,q1,q2⟩:=h3 t ht
   exact⟨vs,(e _ (aaw _ (abH (f:=λt=>t.2.1) ht))).trans q1,q2.mono s⟩
  ·refine .inr (.inr ⟨lq,ln,co,ps,rfl,?_,h2,?_⟩)
   ·rcases h3 with ⟨rfl,_⟩|⟨c',_,rfl,_⟩
    ·exact(e a (by simp)).trans h1
    ·exact(e a (by simp)).trans h1
   ·rcases h3 with ⟨rfl,h4⟩|⟨c',h4,rfl,h5,h6⟩
    ·exact .inl ⟨rfl,h4⟩
    ·exact .inr ⟨c',h4,rfl,h5,(e c' (by simp)).trans h6⟩
def aE:C4:=λc xs P=>c=.rW/\∃m:Int,xs=[.int m]/\0<m/\m<1073741824/\∀r:Int,0<=r->r<m->P (.int r) .rW
variable{H:Hp}{a b:Addr}
theorem pY(s:Pre.Fh H a b):H a≠none/\H b≠none:=by
 obtain⟨ns,z,h1,h2,_⟩:=s.st
 exact⟨by rw[h1];simp,by rw[h2];simp⟩
variable{P:aaI}{w:World}{K:aah}{mg:Str->Option Value}{base:Heap}{k:Nat}{CJ:Addr}{fd:abR}{ps:List Str}
theorem uK(F:Ae P w K mg base Bn k CJ fd ps Pre.HK):Ae P w K mg base Bn k CJ fd ps (IK ⟨P,w,K,EX K⟩ 2 aE):=by
 refine F.imp λvs H Q E h=>?_
 obtain⟨F,a,l,c,ws,xs,P',rfl,sF,r,hl,ho,hb,⟨rfl,m,rfl,m0,m1,hP⟩,kk⟩:=h
 obtain⟨b,rfl,S⟩:∃b,l=[a,b]/\Pre.Fh H a b:=by
  rcases ho with (⟨_,h⟩|⟨_,_,h,_⟩)|⟨ks,h,_⟩|⟨_,_,_,_,h,_⟩
  ·exact h
  ·cases h
  ·cases h
  ·cases h
 cases r with
 |cons r1 r2=>
  cases r2
  cases r1
  refine⟨a,b,m,rfl,S,m0,m1,λr H' r0 r1 S' hB=>?_⟩
  have two:=pY S'
  have keep:∀c o,H c=some o->c∉[a,b]->H' c=some o:=λc o h hn=>by
   simp at hn
   exact hB c o h hn.1 hn.2
  refine kk (.int r) .rW (.int r) F H' [a,b] (hP r r0 r1) keep (λc h=>?_) aq (λc o h=>?_) (λc h=>.inl h) (.inl (.inl ⟨rfl,b,rfl,S'⟩)) (λc hc=>?_) (λc hc=>.inl hc) (.int r)
  ·by_cases q:c∈[a,b]
   ·simp at q
    rcases q with rfl|rfl
    ·exact two.1
    ·exact two.2
   ·obtain⟨o,ho⟩:=dH h
    rw[keep c o ho q];simp
  ·refine keep c o (sF c o h) λq=>?_
   have:=(hb c q).2
   rw[h]at this;cases this
  ·refine⟨?_,(hb c hc).2⟩
   simp at hc
   rcases hc with rfl|rfl
   ·exact two.1
   ·exact two.2
def BO(i j:Nat):WS:=λP env=>match env[j]? with
 |some (some ⟨0,x⟩)=>(∃ns:List Int,(x=.BH ns\/x=.lst (ns.map .int))/\ns.length<=63)/\P.nx (env.set i (some ⟨4,.rW⟩))
 |_=>False
variable{F:Hp}{ns:List Int}{vs:List V}
theorem n8(h:zL K F vs (ns.map PV.int)):vs=ns.map V.int:=by
 induction ns generalizing vs with
 |nil=>cases h;rfl
 |cons n ns ih=>cases h with
  |cons a r=>cases a;exact congrArg (List.cons _) (ih r)
variable{X:Cx}{x y:Str}{p p1 pos pos':Pos}
theorem u6(i j:Nat)(hN:X.N.Nodup)(hi:X.N[i]?=some y)(hx:Loc X.env.scope y)(F:Ae X.prog X.w X.K X.mg X.base Bn k CJ fd ps (Pre.jf X.K))(hr:AB k X.A)(hm:X.mg "_law_begin" = some (.ref CJ))(hk:abM X.K (.ref CJ)=true)(hb:Binds X.K fd ps [])(ho:PE X (.Name x p1) (AR j))
  (hg:Gl X "_law_begin" :=by rfl) (he:aam [.Name x p1] X.env=(false,eval (.Name x p1) X.env)::aam [] X.env:=by rfl) (A5:(backTo pos (aam [] X.env)).any (·.1)=false:=by rfl)
  {B5:Pos} (hs:acP (.Call (.Name "_law_begin" p) [.Name x p1] [] pos) (some (.Name y pos')) B5.line X.env=pure false:=by rfl) (hf:X.fn y=true\/X.env.scope.names.lookup y=some .local:=by first|exact .inl rfl|exact .inr rfl|assumption) :
  FY (EX X.K) X (.Assign [.Name y pos'] (.Call (.Name "_law_begin" p) [.Name x p1] [] pos) B5) (BO i j):=by
 refine⟨_,eS hN hi hx (jh (E:=E0) F hr hg hm hk hb .nil Fv (bu ho bN he) (by decide) he A5) hs hf,λZ F σ H env P D K hf L=>?_⟩
 unfold BO at hf
 split at hf
 ·rename_i v ej
  obtain⟨⟨ns,hv,hn⟩,hp⟩:=hf
  obtain⟨w,hw,r⟩:=K.val ej
  obtain⟨s,rfl,hs⟩:∃s,w=.ref s/\Bs X.K H s (ns.map V.int):=by
   rcases hv with rfl|rfl
   ·cases r with
    |BH h=>exact⟨_,rfl,er K.sF h.sq⟩
   ·cases r with
    |lst h1 h2=>
     have:=n8 h2
     subst this
     exact⟨_,rfl,.inl (.inl (K.sF _ _ h1))⟩
  refine⟨_,hw,s,ns,rfl,hs,hn,λa b H' ha hb S sH=>?_⟩
  have UD:F a=none:=eQ.none_of K.sF ha
  have UC:F b=none:=eQ.none_of K.sF hb
  have K1:zW (md (EX X.K) X) Z F σ H' env:=K.move aq (aj K.sF sH) sH λ_ h=>.inl h
  obtain⟨fp,L0⟩:=K.sl
  have L1:Slots (md (EX X.K) X) Z F σ H' env fp:=L0.move aq (λ_ c o _ e=>sH c o e) λ_ h=>.inl h
  have two:=pY S
  refine L.nx _ _ F H' hp aq ?_
  rcases aaZ i env.length with AV|IU
  case inr=>
   rw[abP IU,abP (by have:=K.len;omega)]
   exact K1
  refine K1.slots (by simp[K.len]) (L1.put (l:=[a,b]) (by simp) (by have:=K.len;omega) (.inr (.inr (.inl ⟨.inr rfl,a,rfl,λc hc=>.inr ?_,   .inl (.inl ⟨rfl,b,rfl,S⟩)⟩))) (λc hc=>?_) λj c _ hc hj=>?_)
  ·simp at hc
   rcases hc with rfl|rfl
   ·exact K.h0 ha
   ·exact K.h0 hb
  ·simp at hc
   rcases hc with rfl|rfl
   ·exact⟨two.1,UD⟩
   ·exact⟨two.2,UC⟩
  ·have:=(L0.al j c hj).1
   simp at hc
   rcases hc with rfl|rfl
   ·exact this ha
   ·exact this hb
 ·exact hf.elim
variable{M:Md}{Z:Zn}{σ:L2.St}{env:En}{p:Addr}{o:HO}
def EI:List (Key×PV)->List (Key×PV):=λkvs=>kvs.foldl (λacc kv=>B6 acc kv.1 kv.2) []
def Sm:List (WE×WE)->List (Key×PV)->WE
 |[],acc=>λenv P=>P (.Av (EI acc)) env
 |(fk,fv)::r,acc=>λenv P=>fk env λy e1=>fv e1 λv e2=>opt (D5 y) λk=>Sm r (acc++[(k,v)]) e2 P
inductive II (ob:BG) (X:Cx):List (Option Expr)->List Expr->List (WE×WE)->Prop where
 |nil:II ob X [] [] []
 |cons {k v:Expr} {ks:List (Option Expr)} {vs:List Expr} {fk fv:WE} {l:List (WE×WE)}:Am ob X k fk->Am ob X v fv->II ob X ks vs l->II ob X (some k::ks) (v::vs) ((fk,fv)::l)
theorem sA{more:List (Key×V)}{mx:List (Key×PV)}{acc:List (Key×V)}{ax:List (Key×PV)}(h:zK K F more mx)(h2:zK K F acc ax):zK K F (Ic acc more) (mx.foldl (λacc kv=>B6 acc kv.1 kv.2) ax):=by
 induction h using zK.ind generalizing acc ax with
 |nil=>exact h2
 |cons a _ ih=>exact ih (h2.put a)
variable{ob:BG}
theorem II.run{keys:List (Option Expr)}{values:List Expr}{l:List (WE×WE)}(h:II ob X keys values l):∃JQ,OW X pos keys values JQ/\∀(Z:Zn) (F:Hp) (σ:L2.St) (H:Hp) (env:En) (P:PV->En->Prop) (acc:List (Key×PV)) (va:List (Key×V)) (Q:List (V×V)->Hp->Prop),zW (md ob X) Z F σ H env->zK X.K F va acc->Sm l acc env P ->
  (∀kvs vs dO F' H',P (.Av (EI kvs)) dO->eQ F F'->zW (md ob X) Z F' σ H' dO->zK X.K F' (va++vs) kvs->vs.length=keys.length->Q (vs.map λkv=>(kV kv.1,kv.2)) H')->F9 JQ σ H Q:=by
 induction h with
 |nil=>exact⟨[],wG,λZ F σ H env P acc va Q K ra hf kk=>kk acc [] env F H hf aq K (by rw[aby];exact ra) rfl⟩
 |cons hk hv _ ih=>
  obtain⟨tk,OI,kk⟩:=hk.ex
  obtain⟨tv,TH,kv⟩:=hv.ex
  obtain⟨JQ,TJ,kr⟩:=ih
  refine⟨_,ui OI TH TJ,λZ F σ H env P acc va Q K ra hf fin=>?_⟩
  refine kk Z F σ H env _ _ K hf λy e1 y' F1 H1 p1 s1 K1 r1=>kv Z F1 σ H1 e1 _ _ K1 p1 λv e2 v' F2 H2 p2 s2 K2 r2=>?_
  obtain⟨k,hk,p2⟩:=p2
  have hy:=mq hk (r1.mono s2)
  subst hy
  refine kr Z F2 σ H2 e2 P _ (va++[(k,v')]) _ K2 ((ra.mono (aj s1 s2)).app (.cons r2 .nil)) p2 λkvs vs e3 F3 H3 p3 s3 K3 r3 hl=>?_
  exact fin kvs ((k,v')::vs) e3 F3 H3 p3 (aj s1 (aj s2 s3)) K3 (by simpa using r3) (by simp[hl])
theorem xw:GS ob X (.Dict [] [] pos) (eC (.Av [])) :=
 ⟨_,ux,λZ F σ H env P Q K hf kk p hp=>kk _ env _ F _ hf aq (λ_=>by simp) (K.own hp ⟨[],ao,.nil⟩)⟩
variable{e:Expr}{f:WE}{p apos Bl B5:Pos}
variable{F' H':Hp}{dO:En}
variable{α β:Type}
theorem ky{f:α->Option β}{l:List α}{m:List β}(h:l.mapM f=some m)(i:Nat)(b:β)(hb:m[i]?=some b):∃a,l[i]?=some a/\f a=some b:=by
 obtain⟨hl,h2⟩:=bx h
 have hi:i<l.length:=by
  rw[<- hl]
  rcases aaZ i m.length with q|q
  ·exact q
  ·rw[aan q]at hb;cases hb
 obtain⟨b',e1,e2⟩:=h2 i l[i] (by simp[hi])
 rw[hb]at e1;cases e1
 exact⟨l[i],by simp[hi],e2⟩
variable{iter:Expr}{scope:Scope}{p2 p3:Pos}{fi:WA}{t:Str}
def Fg(ss ts:List Str):Prop:=ts.Perm ss/\ts.Pairwise λa b=>¬ Ai b a
def Cu:Key->Option Str
 |.inr s=>some s
 |.inl _=>none
def BC(fa:WA):WE:=λenv P=>fa env λxs e=>match xs with
 |[.lst ys]=>∃ss,ys.mapM Bo=some ss/\ss.length<64/\∀ts,Fg ss ts->P (.lst (ts.map .str)) e
 |[.Av kvs]=>∃ss,(kvs.map (·.1)).mapM Cu=some ss/\ss.length<64/\∀ts,Fg ss ts->P (.lst (ts.map .str)) e
 |_=>False
theorem cK:∀(ss:List Str),zL K F (ss.map V.str) (ss.map PV.str)
 |[]=>.nil
 |s::ss=>.cons (.str s) (cK ss)
theorem g6:∀{ks:List Key} {ss:List Str},ks.mapM Cu=some ss->ks=ss.map aao
 |[],ss,h=>by simp at h;subst h;rfl
 |k::ks,ss,h=>by
  rw[aa8]at h
  cases ea:Cu k with
  |none=>rw[ea]at h;cases h
  |some a=>
   rw[ea]at h
   cases el:ks.mapM Cu with
   |none=>rw[el]at h;cases h
   |some bs=>
    rw[el]at h
    have h:some (a::bs)=some ss:=h
    cases h
    rw[g6 el,aap]
    cases k<;>cases ea
    rfl
variable{a b c:Expr}{es:List Expr}{g h:WE}{fa:WA}
theorem e9(hc:X.calm=true)(hg:Gl X "sorted")(hm:X.mg "sorted" = none)(ha:Ek ob X (e::es) fa)
  (he:aam (e::es) X.env=(false,eval e X.env)::aam es X.env:=by rfl) (A5:(backTo pos (aam es X.env)).any (·.1)=false:=by rfl):GS ob X (.Call (.Name "sorted" p) (e::es) [] pos) (BC fa):=by
 obtain⟨t,ht,k⟩:=ha.ex
 refine⟨_,bE (zZ.or re (rj hc)) hg hm adg ht (by decide) (by decide) he A5,λZ F σ H env P Q K hf kk=>k Z F σ H env _ _ K hf λxs e1 vs F1 H1 p s1 K1 r1=>?_⟩
 split at p
 ·obtain⟨ss,hs,hl,p⟩:=p
  obtain⟨v,rfl,r⟩:=r1.one
  obtain⟨q,vs,rfl,h1,h2⟩:=r.lst K1.sF
  have:=cF gb hs h2
  subst this
  exact .inl ⟨q,ss,rfl,.inl (.inl h1),hl,λl ts hn hp hw=>kk _ e1 _ F1 _ (p ts ⟨hp,hw⟩) s1 (λ_=>by simp) (K1.own hn ⟨_,ao,cK ts⟩)⟩
 ·obtain⟨ss,hs,hl,p⟩:=p
  obtain⟨v,rfl,r⟩:=r1.one
  obtain⟨q,vs,rfl,h1,h2⟩:=r.Av K1.sF
  refine .inr ⟨q,vs,ss,rfl,h1,by rw[h2.keys];exact g6 hs,hl,λl ts hn hp hw=>kk _ e1 _ F1 _ (p ts ⟨hp,hw⟩) s1 (λ_=>by simp) (K1.own hn ⟨_,ao,cK ts⟩)⟩
 ·exact p.elim
def D1:PV->Option (Key×PV)
 |.tup [.str s,v]=>some (.inr s,v)
 |_=>none
def Dk:List PV->Option PV
 |[.lst xs]=>if xs.length<=1000 then (xs.mapM D1).map λkvs=>.Av (EI kvs)else none
 |_=>none
def HX(K:aah):List V->Hp->VK->Prop:=λxs H Q=>∃(l:Addr) (ys:List V) (Bx:List (Str×V)),xs=[.ref l]/\H l=some (.lst ys)/\ys.length=Bx.length/\Bx.length<=1000 /\
  (∀j (hj:j<Bx.length),∃p,ys[j]?=some (.ref p)/\AW K H p [.str Bx[j].1,Bx[j].2])/\∀d,H d=none->Q (.ref d) (upd H d (.dK (Bx.foldl (λkvs kv=>putK kvs (aao kv.1:Key) kv.2) [])))
theorem mI(hc:X.calm=true):zZ X (.type "dict") (HX X.K):=by
 intro pins s σ H xs us Q I r h
 obtain⟨l,ys,Bx,rfl,hl,hlen,hsz,hp,q⟩:=h
 obtain⟨u,rfl,ru⟩:=r.one
 cases ru
 obtain⟨z,iD,n,rv,g⟩:=I.zY l _ hl
 have each:∀j,∃vv:Value,∀hj:j<Bx.length,∃(p:Addr) (t:Tok),iD[j]?=some (.ref p)/\s.heap.IsTuple p #[.str Bx[j].1 t,vv]/\RelV Bx[j].2 vv:=λj=>by
  by_cases hj:j<Bx.length
  ·obtain⟨p,ey,hP⟩:=hp j hj
   obtain⟨v1,e1,r1⟩:=rv.get ey
   cases r1
   obtain⟨Vs,IL,g2,_⟩:=I.tuple hP
   cases IL with
   |cons ra rr=>
    cases rr with
    |cons rb rr=>
     cases rr
     obtain⟨t,rfl⟩:=ra
     exact⟨_,λ_=>⟨p,t,e1,g2,rb⟩⟩
  ·exact⟨.none,λh=>absurd h hj⟩
 obtain⟨vf,hv⟩:=Classical.skolem.mp each
 have RY:iD.length=Bx.length:=by rw[<- hlen];exact rv.length.symm
 refine lI (knd:=aN X.prog X.w) (items:=iD.toArray) (n:=n) (λj=>(aao ((Bx[j]?.getD (aeZ,V.rW)).1):Key)) vf (by simp;omega) (I.ok.hd hc) g (λj hj=>?_) λh' tk D kk=>?_
 ·have DP:j<Bx.length:=by simp at hj;omega
  obtain⟨p,t,e1,g2,_⟩:=hv j DP
  refine⟨p,.str Bx[j].1 t,by simpa using e1,g2,?_⟩
  rw[aab DP,acU]
  exact jM _ _ _ _
 ·have hk:=qo Bx vf (λj hj=>(hv j hj).choose_spec.choose_spec.2.2) Bx.length (aak _)
  rw[acu]at hk
  have ez:iD.toArray.size=Bx.length:=by simp;exact RY
  rw[ez]at D
  refine⟨.ref s.heap.objs.size,_,I.laid (a:=s.heap.objs.size) (t':=tk) (o:=.dK (Bx.foldl (λkvs kv=>putK kvs (aao kv.1:Key) kv.2) [])) kk (aak _) ⟨?_,beq_eq_false_iff_ne.mpr (abG (aaq I.Ra)),_,hk,D⟩,rfl,q _ (I.zY.fresh (aak _))⟩
  refine aa2 (g8 Bx []) ?_
  rw[aaz,adB]
  omega
theorem oh:∀{xs:List PV} {vs:List V} {kvs:List (Key×PV)},xs.mapM D1=some kvs->zL K F vs xs->∃Bx:List (Str×V),Bx.length=vs.length/\(∀j (hj:j<Bx.length),∃p,vs[j]?=some (.ref p)/\AW K F p [.str Bx[j].1,Bx[j].2])/\zK K F (Bx.map λq=>(aao q.1,q.2)) kvs
 |[],vs,kvs,h,r=>by simp at h;subst h;cases r;exact⟨[],rfl,λj hj=>by simp at hj,.nil⟩
 |x::xs,vs,kvs,h,r=>by
  rw[aa8]at h
  cases ea:D1 x with
  |none=>rw[ea]at h;cases h
  |some a=>
   rw[ea]at h
   cases el:xs.mapM D1 with
   |none=>rw[el]at h;cases h
   |some bs=>
    rw[el]at h
    have h:some (a::bs)=some kvs:=h
    cases h
    cases r with
    |cons r1 r2=>
     obtain⟨Bx,q1,q2,q3⟩:=oh el r2
     unfold D1 at ea
     split at ea
     ·cases ea
      cases r1 with
      |tup h1 h2=>
       cases h2 with
       |cons h2 h3=>
        cases h3 with
        |cons h3 h4=>
         cases h4
         cases h2
         refine⟨(_,_)::Bx,by simp[q1],λj hj=>?_,.cons h3 q3⟩
         cases j with
         |zero=>exact⟨_,rfl,h1⟩
         |succ j=>simpa using q2 j (by simpa using hj)
     ·cases ea
theorem ii:∀(Bx:List (Str×V)) (acc:List (Key×V)),Bx.foldl (λkvs kv=>putK kvs (aao kv.1:Key) kv.2) acc=Ic acc (Bx.map λq=>(aao q.1,q.2))
 |[],acc=>rfl
 |q::Bx,acc=>by
  rw[abC,ii Bx]
  rfl
theorem mK:El ob X (HX X.K) Dk:=by
 intro Z F σ H env vs xs z Q K rv hz k
 unfold Dk at hz
 split at hz
 ·split at hz
  ·rename_i hlen
   rw[aaD]at hz
   obtain⟨kvs,hk,rfl⟩:=hz
   obtain⟨v,rfl,r⟩:=rv.one
   obtain⟨q,vs,rfl,h1,h2⟩:=r.lst K.sF
   obtain⟨Bx,q1,q2,q3⟩:=oh hk h2
   refine⟨q,vs,Bx,rfl,h1,q1.symm,by rw[q1,h2.len];exact hlen,λj hj=>?_,λd hd=>?_⟩
   ·obtain⟨p,e1,e2⟩:=q2 j hj
    exact⟨p,e1,aw K.sF e2⟩
   ·refine k _ _ (λ_=>by simp) (K.own hd ⟨_,ao,?_⟩)
    rw[ii]
    exact sA q3 .nil
  ·cases hz
 ·cases hz
def Fu:PV->Option PV
 |.tup xs=>some (.tup xs.reverse)
 |_=>none
theorem tu{st:Expr}(he:Am ob X e f)(Im:PE X st (Po (rU λi=>.int (-i)) (tC (.int 1)))):Am ob X (.Subscript e (.Slice none none (some st) p2) pos) (NT Fu f):=by
 obtain⟨t,ht,k⟩:=he.ex
 refine⟨_,ym ht Im,λZ F σ H env P Q K hf kk=>k Z F σ H env _ _ K hf λx e1 v F1 H1 p s1 K1 r1=>?_⟩
 obtain⟨z,hz,p⟩:=p
 refine⟨1,rfl,rfl,?_⟩
 unfold Fu at hz
 split at hz
 ·cases hz
  obtain⟨q,vs,rfl,h1,h2⟩:=(r1.vw (M:=md ob X) (H:=H1)).tup K1.sF
  refine⟨q,vs,rfl,h1,λl hl=>?_⟩
  have hF:F1 l=none:=eQ.none_of K1.sF hl
  exact kk _ e1 _ _ _ p (aj s1 (az hF)) (K1.lay hl) (.tup (.inl (.inl ao)) (h2.rev.mono (az hF)))
 ·cases hz
theorem vF{j}:PE X (.UnaryOp .USub (.Constant (.int 1) j p1) p2) (Po (rU λi=>.int (-i)) (tC (.int 1))):=zq xU aJ
end Q
namespace L2
open PySem PySem.Spec PyProof.Rows
variable{prog:aaI}{w:World}{A:Around}{E:Value->Shared->Prop}{s:Shared}
structure Vn(h:Heap)(z u o i1 i2 t1 t2:Addr)(n:Nat):Prop where
 zz:IsZip h z u o .none
 uu:IsPair h u (.ref i1) (.ref i2)
 oo:∃a b,IsPair h o a b
 a1:h.IsListIter i1 t1 n
 a2:h.IsListIter i2 t2 n
variable{X:Cx}
end L2
namespace Q
open PySem L2
variable{ob:BG}{X:Cx}{a b:Expr}{fa:WA}{pos p:Pos}
def Tv(a:WA):WA:=λenv P=>a env λxs e=>match xs with
 |[.tup xs,.tup ys]=>P (DA xs ys) e
 |[.lst xs,.lst ys]=>P (DA xs ys) e
 |_=>False
variable{α:Type}
theorem dl{z:α}{P:α->Prop}:opt (some z) P=P z:=propext Fx
theorem uF{P:α->Prop}:opt none P=False:=propext ⟨λ⟨_,e,_⟩=>(nomatch e),λh=>h.elim⟩
theorem ac{o:Option α}{z:α}{P:α->Prop}(h:o=some z)(k:P z):opt o P:=⟨z,h,k⟩
theorem cO(xs:List α)(n:Nat):Br xs none (some (n:Int))=xs.take n:=by
 unfold Br
 rw[HT.DU,HT.EV,afZ,Nat.sub_zero]
 by_cases h:n<=xs.length
 ·rw[Nat.min_eq_left h]
 ·rw[Nat.min_eq_right (by omega),acu,aeg (by omega)]
theorem dN(xs:List α)(n:Nat):Br xs (some (n:Int)) none=xs.drop n:=by
 unfold Br
 rw[HT.DU,HT.EV]
 by_cases h:n<=xs.length
 ·rw[Nat.min_eq_left h,aeg (by simp)]
 ·rw[Nat.min_eq_right (by omega),List.drop_length,List.drop_of_length_le (by omega)]
  simp
variable{g:WG}{f:WE}{js:List (Option Nat)}{P:PV->En->Prop}{env:En}
theorem bH{c:WT}(G:PV->Option PV):∀{xs acc:List PV},(∀x∈xs,∀R:Option PV->En->Prop,R (G x) env ->
   g x (EC js env) λb1=>c b1 λok b2=>if ok=true then f b2 λy b3=>R (some y) (AU js env b3)else R none (AU js env b2))->acc.length+xs.length<=100000->P (.lst (acc++xs.filterMap G)) env->Ci g c f js P xs env acc
 |[],acc,_,_,k=>by simpa[Ci]using k
 |x::xs,acc,h,hl,k=>by
  have FX:acc.length+xs.length+1<=100000:=by simpa[adr]using hl
  have hm:∀{a b:Prop},(a->b)->a->b:=λh=>h
  have:=h x (by simp) (λo e=>(match o with|some y=>acc.length<=100000/\Ci g c f js P xs e (acc++[y])|none=>Ci g c f js P xs e acc)) (by
   cases e:G x with
   |none=>
    refine bH G (λy hy=>h y (by simp[hy])) (by omega) ?_
    simpa[abm,e]using k
   |some y=>
    refine⟨by omega,bH G (λy hy=>h y (by simp[hy])) (by simp;omega) ?_⟩
    simpa[abm,e]using k)
  exact this
theorem be(G:PV->PV):∀{xs acc:List PV},(∀x∈xs,∀R:PV->En->Prop,R (G x) env->g x (EC js env) λb1=>f b1 λy b3=>R y (AU js env b3))->acc.length+xs.length<=100000->P (.lst (acc++xs.map G)) env->Ci g Ds f js P xs env acc
 |[],acc,_,_,k=>by simpa[Ci]using k
 |x::xs,acc,h,hl,k=>by
  have FX:acc.length+xs.length+1<=100000:=by simpa[adr]using hl
  simp only[Ci,Ds,if_true]
  exact h x (by simp) (λy e=>acc.length<=100000/\Ci g Ds f js P xs e (acc++[y])) ⟨by omega,be G (λy hy=>h y (by simp[hy])) (by simp;omega) (by simpa using k)⟩
theorem bO{b:WS}{P:Wd}(I:Nat->En->Prop):∀{xs:List PV} {i:Nat} {env:En},I i env->(∀(j:Nat) (x:PV) (e:En) (N:En->Prop),xs[j]?=some x->I (i+j) e->(∀e',I (i+j+1) e'->N e')->g x e λe1=>b {P with nx:=N,ct:=N,bk:=P.nx} e1)->(∀e,I (i+xs.length) e->P.nx e)->Dw g b P xs env
 |[],i,env,h0,_,hd=>hd env (by simpa using h0)
 |x::xs,i,env,h0,hs,hd=>hs 0 x env (Dw g b P xs) rfl h0 λe' h'=>bO I (i:=i+1) h' (λj y e N hj hI k=>hs (j+1) y e N (by simpa using hj) (by rwa [adr,aes 1 j]at hI) λe' h=>k e' (by rwa [adr i 1 j,aes 1 j])) λe h=>hd e (by rwa [abA,aes xs.length 1,<- adr])
theorem qG:∀(bs:List Bool),(bs.map PV.bl).mapM ED=some bs
 |[]=>rfl
 |b::bs=>by
  rw[aap,aa8,qG bs];rfl
theorem fK(bs:List Bool):Dx [.lst (bs.map .bl)]=some (.bl (bs.all id)):=by
 show ((bs.map PV.bl).mapM ED).map _=_
 rw[qG];rfl
theorem ne_int(i j:Int):B7 (.int i) (.int j)=some (.bl (!decide (i=j))):=by
 show some (PV.bl (!decide (V.int i=V.int j)))=_
 congr 3
 simp
theorem ah{a b:WS}{P:Wd}(h:∀N:En->Prop,N=b P->a {P with nx:=N} env):oF a b P env:=h _ rfl
theorem cM{it:WA}{b:WS}{P:Wd}(h:∀(G:WG) (B:WS),G=g->B=b->it env λxs e=>Dw G B P xs e):DV it g b P env:=h _ _ rfl rfl
variable{s:Sl}
theorem yQ:(some (some s):Option (Option Sl)).join.isSome=true:=rfl
variable{x:PV}
theorem Ie{zs:List PV}(h:zs.length<=100000):cj zs [x]=some (.rW,zs++[x]):=if_pos h
variable{k:Nat}{CJ:Addr}{fd:abR}{ps:List Str}{x y:Str}{p1 pos':Pos}
theorem tj(i j:Nat)(hN:X.N.Nodup)(hi:X.N[i]?=some y)(hx:Loc X.env.scope y)(F:Ae X.prog X.w X.K X.mg X.base Bn k CJ fd ps (Pre.jf X.K))(hr:AB k X.A)(hm:X.mg "_law_begin" = some (.ref CJ))(hk:abM X.K (.ref CJ)=true)(hb:Binds X.K fd ps [])(ho:PE X (.Name x p1) (AR j))
  (Lp:ob=EX X.K:=by rfl) (hg:Gl X "_law_begin" :=by rfl) (he:aam [.Name x p1] X.env=(false,eval (.Name x p1) X.env)::aam [] X.env:=by rfl) (A5:(backTo pos (aam [] X.env)).any (·.1)=false:=by rfl)
  {B5:Pos} (hs:acP (.Call (.Name "_law_begin" p) [.Name x p1] [] pos) (some (.Name y pos')) B5.line X.env=pure false:=by rfl) (hf:X.fn y=true\/X.env.scope.names.lookup y=some .local:=by first|exact .inl rfl|exact .inr rfl|assumption) :
  FY ob X (.Assign [.Name y pos'] (.Call (.Name "_law_begin" p) [.Name x p1] [] pos) B5) (BO i j):=by
 subst Lp
 exact u6 i j hN hi hx F hr hm hk hb ho hg he A5 hs hf
end Q
set_option hygiene false in
local macro_rules|`(tactic| lia)=>`(tactic| simp only[Q.run,Q.DX,Q.AX,Q.LP,Q.IC,Q.MY,Q.oF,Q.BN,Q.zX,Q.AF,Q.Ad,Q.Bw,Q.Ct,Q.Fs,Q.Fp,Q.C6,Q.B4,Q.BS,Q.zO,Q.Cy,Q.NT,Q.iN,Q.AJ,Q.eC,Q.eV,Q.An,Q.a1,Q.bY,Q.aS,Q.Dj,Q.Ee,Q.UN,Q.JE,Q.zN,Q.BK,Q.BQ,Q.Ij,Q.iS,Q.Tv,Q.Fb,Q.Bc,Q.AY,Q.Ak,Q.Ih,Q.Kq,Q.Hj,Q.AS,Q.Gp,Q.Ew,Q.Iv,Q.HI,Q.ED,Q.dl,Q.uF,aap,afp,aaK,List.cons_append,aaH,abA,adB,acs,ac9,List.set_cons_zero,List.set_cons_succ,aer,if_true,abY,ab0,aa0,if_false,decide_true,decide_false,ite_true,ite_false,Q.Fn,Q.gT,Q.gN,Q.Ap,Q.CH,Q.Ii,Q.Jh,String.reduceBEq,aeL,Bool.or_false,Bool.false_or,Bool.true_or,Bool.and_true,Bool.true_and,Nat.reduceAdd,Nat.reduceSub,Q.tO,Q.yQ,true_and,Q.J9,Q.M7,Q.Lk,Q.Tw])
namespace Q
open PySem L2 PyProof.Rows
variable{ob:BG}{X:Cx}{iter:Expr}{scope:Scope}{pos p1 p2 p3:Pos}{fi:WA}{x t:Str}
variable{P:aaI}{w:World}{K:aah}{mg:Str->Option Value}{base:Heap}{k:Nat}{CJ:Addr}{fd:abR}{ps:List Str}
end Q
namespace Q
open PySem L2
variable{b:WS}{P:Wd}{env:En}
theorem aH{c:WT}{a:WS}(h:∀(A B:WS),A=a->B=b->c env λk e=>if k=true then A P e else B P e):BN c a b P env:=h _ _ rfl rfl
variable{α:Type}
theorem dh{f:α->Str}{g:α->PV}:∀{l:List α} {a:α},(l.map f).Nodup->a∈l->A4 (l.map λx=>((aao (f x):Key),g x)) (aao (f a))=some (g a)
 |b::l,a,nd,h=>by
  unfold A4
  rw[aap,abx]
  rw[aap,List.nodup_cons]at nd
  rcases List.mem_cons.mp h with rfl|h
  ·simp
  ·have Bu:f b≠f a:=λe=>nd.1 (by rw[e];exact abH h)
   have:decide ((aao (f b):Key)=aao (f a))=false:=by simp[Bu]
   simp only[this]
   exact dh nd.2 h
variable{y:Str}
theorem gX{f:α->Str}{g:α->PV}{l:List α}{v:PV}(h:y∉l.map f):B6 (l.map λx=>((aao (f x):Key),g x)) (aao y) v=(l.map λx=>((aao (f x):Key),g x))++[(aao y,v)]:=by
 unfold B6
 rw[if_neg]
 rw[afq]
 intro z
 rw[adq]at z
 obtain⟨x,hx,e⟩:=z
 simp at e
 exact h (by rw[<- e];exact abH hx)
variable{ps:List Str}
theorem ue{g:Str->PV}{v:PV}(h:y∈ps):B6 (ps.map λx=>((aao x:Key),g x)) (aao y) v=ps.map λx=>((aao x:Key),if x=y then v else g x):=by
 unfold B6
 rw[if_pos]
 ·rw[aaA]
  refine aaP λx hx=>?_
  show (if (aao x:Key)=aao y then ((aao x:Key),v)else (aao x,g x))=(aao x,if x=y then v else g x)
  by_cases e:x=y
  ·simp[e]
  ·simp[e]
 ·rw[afq,adq]
  exact⟨y,h,by simp⟩
variable{ys:List Str}{x:Str}
theorem w8:(ys.map PV.str).mapM (λy=>AN 60 y (.str x))=some (ys.map λy=>y==x):=by
 induction ys with
 |nil=>rfl
 |cons y ys ih=>
  rw[aap,aa8,ih]
  rfl
theorem jt:IS (.str x) (.tup (ys.map .str))=some (decide (x∈ys)):=by
 show ((ys.map PV.str).mapM (λy=>AN 60 y (.str x))).map (λks=>ks.any id)=_
 rw[w8]
 show some ((ys.map λy=>y==x).any id)=_
 congr 1
 rw[afq,abt,adq]
 simp
theorem uT:IS (.str x) (.lst (ys.map .str))=some (decide (x∈ys)):=jt
theorem fG:C0 (.str x) (.tup (ys.map .str))=some (.bl (decide (x∈ys))):=by
 show (IS _ _).map _=_
 rw[jt];rfl
end Q
namespace L2
open PySem PySem.Spec PyProof.Rows
variable{X:Cx}
def KW(K:aah):List V->Hp->VK->Prop:=λxs H Q=>∃(p:Addr) (ss:List Str),xs=[.ref p]/\AW K H p (ss.map V.str)/\ss.length<64 /\
 ∀(l:Addr) (Cr:List Str),H l=none->Cr.Perm ss->Cr.Pairwise (λa b=>¬ Ai b a)->Q (.ref l) (upd H l (.lst (Cr.map V.str)))
theorem rd:zZ X (.builtin "sorted") (KW X.K):=by
 intro pins s σ H xs us Q I r h
 obtain⟨p,ss,rfl,hq,Ck,k⟩:=h
 obtain⟨u,rfl,ru⟩:=r.one
 cases ru
 obtain⟨iD,rv,⟨o,g1,g2,n0,g3⟩,hz⟩:=I.tuple hq
 have hS:=gL rv
 have hl:=rv.length
 rw[aad]at hl
 refine kU (ae4 p (.inr rfl) g1 g2 g3 (λh1 kk=>?_) (by rw[aag,aaz];omega))
 refine⟨ss,h1,s.toks,rfl,by simpa using hS,by simp;omega,λh2 out Cr n k2 e2 o1 o2 o3=>?_⟩
 have I1:Inv X pins σ H {s with heap:=h1,toks:=s.toks}:=I.kept kk
 refine⟨.ref h1.objs.size,_,I1.laid (t':=s.toks) (a:=h1.objs.size) (o:=.lst (Cr.map V.str)) (λb o q=>k2 b o q) (aak _) ?_,rfl,k _ Cr (I1.zY.fresh (aak _)) o2 (dy o3)⟩
 exact⟨by rw[aad,o2.length_eq,aaz];omega,out,n,cH o1,e2⟩
end L2
namespace Q
open PySem L2 PyProof.Rows
def B8(fa:WA):WE:=λenv P=>fa env λxs e=>match xs with
 |[.tup ys]=>∃ss,ys.mapM Bo=some ss/\ss.length<64/\∀ts,Fg ss ts->P (.lst (ts.map .str)) e
 |_=>False
variable{ob:BG}{X:Cx}{a b c e:Expr}{es:List Expr}{f g h:WE}{fa:WA}{pos p p1:Pos}{x:Str}
theorem g9(hc:X.calm=true)(hg:Gl X "sorted")(hm:X.mg "sorted" = none)(ha:Ek ob X (e::es) fa)
  (he:aam (e::es) X.env=(false,eval e X.env)::aam es X.env:=by rfl) (A5:(backTo pos (aam es X.env)).any (·.1)=false:=by rfl):GS ob X (.Call (.Name "sorted" p) (e::es) [] pos) (B8 fa):=by
 obtain⟨t,ht,k⟩:=ha.ex
 refine⟨_,bE rd hg hm adg ht (by decide) (by decide) he A5,λZ F σ H env P Q K hf kk=>k Z F σ H env _ _ K hf λxs e1 vs F1 H1 p s1 K1 r1=>?_⟩
 split at p
 ·obtain⟨ss,hs,hl,p⟩:=p
  obtain⟨v,rfl,r⟩:=r1.one
  obtain⟨q,vs,rfl,h1,h2⟩:=r.tup K1.sF
  have:=cF gb hs h2
  subst this
  exact⟨q,ss,rfl,h1,hl,λl ts hn hp hw=>kk _ e1 _ F1 _ (p ts ⟨hp,hw⟩) s1 (λ_=>by simp) (K1.own hn ⟨_,ao,cK ts⟩)⟩
 ·exact p.elim
theorem xB{d:Nat}:∀(a b:List Str),AN (d+2) (.tup (a.map .str)) (.tup (b.map .str))=some (decide (a=b)):=by
 intro a b
 have e:((a.map PV.str).zip (b.map PV.str)).mapM (λp=>AN (d+1) p.1 p.2)=some ((a.zip b).map λp=>p.1==p.2):=by
  rw[List.zip_map]
  generalize a.zip b=l
  induction l with
  |nil=>rfl
  |cons p l ih=>rw[aap,aa8,ih];rfl
 show (((a.map PV.str).zip (b.map PV.str)).mapM (λp=>AN (d+1) p.1 p.2)).map (λbs=>bs.all id && (a.map PV.str).length==(b.map PV.str).length)=_
 rw[e,aad,aad]
 show some (((a.zip b).map λp=>p.1==p.2).all id && a.length==b.length)=_
 congr 1
 rw[List.all_map,abt,aaT,decide_eq_true_eq,beq_iff_eq]
 clear e
 constructor
 ·rintro⟨h1,h2⟩
  induction a generalizing b with
  |nil=>cases b with|nil=>rfl|cons _ _=>cases h2
  |cons x a ih=>
   cases b with
   |nil=>cases h2
   |cons y b=>
    rw[ac8,ae3,aaT]at h1
    have UK:x=y:=by simpa using h1.1
    rw[UK,ih b h1.2 (by simpa using h2)]
 ·rintro rfl
  refine⟨?_,rfl⟩
  rw[abW]
  rintro⟨x,y⟩ hm
  have:x=y:=by
   obtain⟨i,hi⟩:=List.getElem?_of_mem hm
   rw[aaX]at hi
   have:=hi.1.symm.trans hi.2
   simpa using this
  simp[this]
def Gy:PV->Option Str
 |.tup (.str s::_)=>some s
 |_=>none
def GH(fa:WA):WE:=λenv P=>fa env λxs e=>match xs with
 |[.lst ys]=>∃nm:List Str,ys.mapM Gy=some nm/\nm.Nodup/\ys.length<64/\∀ix:List Nat,ix.length=ys.length->(∀i∈ix,i<ys.length)->(ix.map λi=>nm.getD i ⟨#[]⟩).Pairwise Ai->P (.lst (ix.map λi=>ys.getD i .rW)) e
 |_=>False
variable{K:aah}{F H:Hp}{v:V}{y:PV}
theorem mz(sF:eQ F H)(r:Rep K F v y)(h:Gy y=some x):∃a t,v=.ref a/\AW K H a (.str x::t):=by
 unfold Gy at h
 split at h
 ·cases h
  cases r with
  |tup h1 h2=>cases h2 with
   |cons r1 r2=>cases r1;exact⟨_,_,rfl,aw sF h1⟩
 ·cases h
variable{vs:List V}{ys:List PV}
theorem dB(r:zL K F vs ys):∀ix:List Nat,(∀i∈ix,i<ys.length)->zL K F (ix.map λi=>vs.getD i .rW) (ix.map λi=>ys.getD i .rW)
 |[],_=>.nil
 |i::ix,h=>by
  refine .cons ?_ (dB r ix λj hj=>h j (aaw _ hj))
  have hi:=h i aay
  obtain⟨v,hv,rv⟩:=r.get (aab hi)
  show Rep K F (vs.getD i .rW) (ys.getD i .rW)
  rw[aae,aae,hv,aab hi]
  exact rv
theorem u8(hg:Gl X "sorted")(hm:X.mg "sorted" = none)(ha:Ek ob X (e::es) fa)
  (he:aam (e::es) X.env=(false,eval e X.env)::aam es X.env:=by rfl) (A5:(backTo pos (aam es X.env)).any (·.1)=false:=by rfl):GS ob X (.Call (.Name "sorted" p) (e::es) [] pos) (GH fa):=by
 obtain⟨t,ht,k⟩:=ha.ex
 refine⟨_,bE rg hg hm adg ht (by decide) (by decide) he A5,λZ F σ H env P Q K hf kk=>k Z F σ H env _ _ K hf λxs e1 vs F1 H1 p s1 K1 r1=>?_⟩
 split at p
 ·obtain⟨nm,hs,nd,hl,p⟩:=p
  obtain⟨v,rfl,r⟩:=r1.one
  obtain⟨q,vs,rfl,h1,h2⟩:=r.lst K1.sF
  have g1:=(bx hs).1
  have hlen:=h2.len
  refine⟨q,vs,nm,rfl,.inl (.inl h1),by omega,⟨by omega,λi v x hv hx=>?_,nd⟩,λl ix hn i1 i2 i3 i4=>?_⟩
  ·obtain⟨y,hy,ry⟩:=h2.Gx hv
   obtain⟨y',e1,e2⟩:=ky hs i x hx
   rw[hy]at e1;cases e1
   exact mz K1.sF ry e2
  ·exact kk _ e1 _ F1 _ (p ix (by omega) (λi hi=>by have:=i3 i hi;omega) i4) s1 (λ_=>by simp) (K1.own hn ⟨_,ao,dB h2 ix λi hi=>by have:=i3 i hi;omega⟩)
 ·exact p.elim
end Q
namespace L2
open PySem PySem.Spec PyProof.Rows
variable{prog:aaI}{w:World}{A:Around}{E:Value->Shared->Prop}{s:Shared}
variable{X:Cx}
end L2
namespace Q
open PySem L2 PyProof.Rows
def neT:PV->PV->Option PV
 |.tup xs,.tup ys=>(AN 60 (.tup xs) (.tup ys)).map λb=>.bl (!b)
 |_,_=>none
def MJ(K:aah):R2:=λv u H Q=>∃F xs ys k,eQ F H/\Rep K F v (.tup xs)/\Rep K F u (.tup ys)/\AN 60 (.tup xs) (.tup ys)=some k/\Q (.bl (!k)) H
variable{ob:BG}{X:Cx}{a b c e:Expr}{es:List Expr}{f g h:WE}{fa:WA}{pos DF p p1 p2:Pos}{x:Str}
theorem yx(hu:X.A.units+60<cLine):AK X (aaV .NotEq) (MJ X.K):=by
 intro pins s σ H x y v u Q I rx ry h
 obtain⟨F,xs,ys,k,sF,r1,r2,e,hq⟩:=h
 cases r1 with
 |tup h1 r1=>
 cases r2 with
 |tup h2 r2=>
 cases rx
 cases ry
 obtain⟨iD,rv,p,_⟩:=I.tuple (aw sF h1)
 obtain⟨Bq,Du,p2,_⟩:=I.tuple (aw sF h2)
 have l1:iD.length=xs.length:=by rw[<- rv.length,r1.len]
 have l2:Bq.length=ys.length:=by rw[<- Du.length,r2.len]
 have e':((xs.zip ys).mapM λp=>AN 59 p.1 p.2).map (λbs=>bs.all id && xs.length==ys.length)=some k:=e
 rw[aaD]at e'
 obtain⟨bs,hb,ek⟩:=e'
 obtain⟨Hm,Hn⟩:=bx hb
 have t:=SeqAt.RcNeAt.tuples (A:=X.A) (e:=λj=>bs.getD j false) p p2 (by omega) (λj j1 j2=>by
  simp only[aag]at j1 j2
  have jx:j<xs.length:=by omega
  have jy:j<ys.length:=by omega
  have hz:(xs.zip ys)[j]?=some (xs[j],ys[j]):=by rw[aaX];exact⟨by simp[jx],by simp[jy]⟩
  obtain⟨b,e1,e2⟩:=Hn j _ hz
  obtain⟨v1,q1,q2⟩:=r1.get (aab jx)
  obtain⟨v2,q3,q4⟩:=r2.get (aab jy)
  obtain⟨u1,q5,q6⟩:=rv.get q1
  obtain⟨u2,q7,q8⟩:=Du.get q3
  have g1:iD.toArray[j]=u1:=by simpa[aab j1]using q5
  have g2:Bq.toArray[j]=u2:=by simpa[aab j2]using q7
  rw[g1,g2,show bs.getD j false=b by simp[ae2,e1]]
  exact(LO I sF (A:=X.A.in1) (d:=59) (by show X.A.units+1+59<cLine;omega) q2 q4 q6 q8 e2).2)
 have e3:((aaM (min iD.toArray.size Bq.toArray.size)).all (λj=>bs.getD j false) && iD.toArray.size==Bq.toArray.size)=k:=by
  have e4:min iD.toArray.size Bq.toArray.size=bs.length:=by rw[Hm,adA,aag,aag,l1,l2]
  rw[e4,ft (λj hj=>by simp[ae2,aab hj]),aag,aag,l1,l2]
  exact ek
 rw[e3]at t
 exact t X.prog X.w X.xe _ ⟨.bl (!k),H,I,rfl,hq⟩
theorem wO:Dr ob X (MJ X.K) neT:=by
 refine bV (P:=λ_ _ _ _=>True) λF H v u x y z sF rx ry hz=>?_
 unfold neT at hz
 split at hz
 ·rw[aaD]at hz
  obtain⟨k,hk,rfl⟩:=hz
  exact⟨_,λ_=>.bl _,λQ q=>⟨F,_,_,k,sF,rx.HH,ry.HH,hk,q⟩⟩
 ·cases hz
theorem wZ(a b:List Str):neT (.tup (a.map .str)) (.tup (b.map .str))=some (.bl (!decide (a=b))):=by
 show (AN 60 (.tup (a.map .str)) (.tup (b.map .str))).map (λb=>PV.bl (!b))=_
 rw[xB (d:=58)];rfl
end Q
namespace L2
open PySem PySem.Spec PyProof.Rows PySem.W
def BF(h:Heap)(a:Addr)(k:Int×Str):Prop:=∃o n t u,h.get? a=some o/\o.cls=.type "tuple" /\ o.data=.seq #[.int k.1 t,.str k.2 u] n
variable{h h':Heap}{a:Addr}{k:Int×Str}
theorem BF.mono(x:BF h a k)(g:∀o,h.get? a=some o->h'.get? a=some o):BF h' a k:=by
 obtain⟨o,n,t,u,e,r⟩:=x
 exact⟨o,n,t,u,g o e,r⟩
def D3(ks:List (Int×Str))(i j:Nat):Bool:=decide ((ks.getD i (0,⟨#[]⟩)).1<(ks.getD j (0,⟨#[]⟩)).1\/((ks.getD i (0,⟨#[]⟩)).1=(ks.getD j (0,⟨#[]⟩)).1/\Ai (ks.getD i (0,⟨#[]⟩)).2 (ks.getD j (0,⟨#[]⟩)).2))
variable{ks:List (Int×Str)}
theorem qj(nd:(ks.map (·.2)).Nodup):Srt.Ord (D3 ks) ks.length:=by
 have inj:∀i j,i<ks.length->j<ks.length->(ks.getD i (0,⟨#[]⟩)).2=(ks.getD j (0,⟨#[]⟩)).2->i=j:=λi j hi hj e=>by
  have a:(ks.map (·.2))[i]'(by simpa using hi)=(ks.map (·.2))[j]'(by simpa using hj):=by
   rw[acv,acv]
   rw[aae,aae,aab hi,aab hj]at e
   exact e
  exact(ab7 nd).mp a
 refine⟨λi _=>?_,λi j k _ _ _ a b=>?_,λi j hi hj ne e=>?_⟩
 ·unfold D3
  rw[decide_eq_false_iff_not]
  rintro(h|⟨_,h⟩)
  ·omega
  ·exact aeJ _ h
 ·have a:=of_decide_eq_true a
  have b:=of_decide_eq_true b
  refine decide_eq_true ?_
  rcases a with a|⟨a1,a2⟩<;>rcases b with b|⟨b1,b2⟩
  ·exact .inl (by omega)
  ·exact .inl (by omega)
  ·exact .inl (by omega)
  ·exact .inr ⟨by omega,List.lt_trans a2 b2⟩
 ·have e:=of_decide_eq_false e
  rw[not_or]at e
  refine decide_eq_true ?_
  rcases Int.lt_trichotomy (ks.getD i (0,⟨#[]⟩)).1 (ks.getD j (0,⟨#[]⟩)).1 with z|z|z
  ·exact absurd z e.1
  ·refine .inr ⟨z.symm,?_⟩
   have e2:¬ Ai (ks.getD i (0,⟨#[]⟩)).2 (ks.getD j (0,⟨#[]⟩)).2:=λh=>e.2 ⟨z,h⟩
   unfold Ai at e2 ⊢
   rcases List.le_iff_lt_or_eq.mp (List.not_lt.mp e2)with q|q
   ·exact q
   ·exfalso
    refine ne (inj i j hi hj ?_)
    generalize (ks.getD i (0,⟨#[]⟩)).2=x at q ⊢
    generalize (ks.getD j (0,⟨#[]⟩)).2=y at q ⊢
    obtain⟨x⟩:=x
    obtain⟨y⟩:=y
    exact congrArg Str.mk (Array.toList_inj.mp q.symm)
  ·exact .inl z
variable{prog:aaI}{w:World}{A:Around}{E:Value->Shared->Prop}{s:Shared}
variable{x:Addr}{Q:Bool->Shared->Prop}
theorem wK{y:Addr}{l:Int×Str}(hx:BF s.heap x k)(hy:BF s.heap y l)(Bu:k.2≠l.2)(h:Q (decide (k.1<l.1\/(k.1=l.1/\Ai k.2 l.2))) s):wpAny (model prog w) A (keyLt' (adt true) (.ref x) (.ref y)) Q E s:=by
 obtain⟨ox,n,t,u,e1,_,e2⟩:=hx
 obtain⟨oy,n',t',u',f1,_,f2⟩:=hy
 refine kat_lt e1 e2 f1 f2 ?_
 refine kat_cons (aft ?_)
 by_cases e:k.1=l.1
 ·rw[show (k.1==l.1)=true by simp[e]]
  refine kat_yes (kat_cons (aec ?_))
  rw[decide_eq_false Bu]
  refine kat_no ?_
  show wpAny _ _ (oneLt' false _ _) _ _ _
  refine kat_one _ _ (lt_str ?_)
  have:decide (k.1<l.1\/(k.1=l.1/\Ai k.2 l.2))=decide (k.2.cps.toList<l.2.cps.toList):=by
   rw[abt,decide_eq_true_eq,decide_eq_true_eq]
   constructor
   ·rintro(z|⟨_,z⟩)
    ·omega
    ·exact z
   ·intro z;exact .inr ⟨e,z⟩
  rw[this]at h
  exact h
 ·rw[show (k.1==l.1)=false by simp[e]]
  refine kat_no ?_
  show wpAny _ _ (oneLt' true _ _) _ _ _
  refine oneLt_int ?_
  have:decide (k.1<l.1\/(k.1=l.1/\Ai k.2 l.2))=decide (k.1<l.1):=by
   rw[abt,decide_eq_true_eq,decide_eq_true_eq]
   exact⟨λz=>z.elim id λq=>absurd q.1 e,.inl⟩
  rw[this]at h
  exact h
variable{kS:Addr}{e1:Nat}{P:PySem.Fin->Shared->Prop}
theorem qp{e n:Nat}{keys:Array Value}{st:SortSt}{out:List Value}(hk:s.heap.get? kS=some (seqObj "list" keys e))(ha:s.heap.get? a=some (seqObj "list" #[] e1))(Bu:kS≠a)(VD:keys.size<=100)
  (ho:(arrOf st).map (·.2)=out.toArray) (hf:failedOf st=none) (hz:out.length<=100)
  (h:∀(h':Heap) (c:Nat),h'.get? a=some (seqObj "list" out.toArray c)->(∀b o,b≠a->b≠kS->s.heap.get? b=some o->h'.get? b=some o)->P (.done (.ret .none)) {s with heap:=h'}) :
  wpAny (model prog w) A (ksk_tail a false e1 (.ref kS) st) P E s:=by
 have s1:=aa1 s.heap kS (aaY λ_=>(#[]:Array Value))
 have Mh:(s.heap.update kS (aaY λ_=>(#[]:Array Value))).get? a=some (seqObj "list" #[] e1):=(s1.2 a Bu.symm).trans ha
 unfold ksk_tail
 dsimp only
 rw[ho]
 refine aaa (acp hk rfl ?_ (by rw[aaz];omega) (abd _))
 refine aaa (afC ?_)
 refine aaa (adv Mh rfl ?_)
 refine aaa (acp Mh rfl ?_ (abd _) (by simp only[aa0,if_false,aag];rw[aaz];omega))
 rw[hf]
 simp only[bne_self_eq_false,aa0,if_false]
 have s2:=aa1 (s.heap.update kS (aaY λ_=>(#[]:Array Value))) a (aaY λ_=>out.toArray)
 exact aaf (h _ _ (ac5 Mh λ_=>out.toArray) λb o h1 h2 g=>(s2.2 b h1).trans ((s1.2 b h2).trans g))
theorem m4:∀ad:List Addr,(∀a∈ad,∃k,BF h a k)->∃fs:List Value,KatTups h (ad.map aar) fs/\fs.length=ad.length/\∀v∈fs,∃c t,v=.int c t
 |[],_=>⟨[],trivial,rfl,λ_ z=>by simp at z⟩
 |a::ad,hp=>by
  obtain⟨fs,h1,h2,h3⟩:=m4 ad λb hb=>hp b (aaw _ hb)
  obtain⟨k,o,n,t,u,e1,e2,e3⟩:=hp a aay
  refine⟨.int k.1 t::fs,⟨⟨a,o,_,n,rfl,e1,e2,e3,rfl⟩,h1⟩,by simp[h2],λv hv=>?_⟩
  rcases List.mem_cons.mp hv with rfl|hv
  ·exact⟨_,_,rfl⟩
  ·exact h3 v hv
variable{ad:List Addr}{vs:List Value}{i:Nat}
theorem mn(hl:ad.length=vs.length)(hi:i<vs.length):ac4 ((ad.map aar).toArray.zip vs.toArray) i=(.ref (ad.getD i 0),vs.getD i aa6):=by
 unfold ac4
 have Dv:i<ad.length:=by omega
 have hz:i<((ad.map aar).toArray.zip vs.toArray).size:=by rw[af2,aag,aag,aad];omega
 rw[Array.getD,dif_pos hz]
 show ((ad.map aar).toArray.zip vs.toArray)[i]=_
 rw[Array.getElem_zip,List.getElem_toArray,List.getElem_toArray,acv,aae,aae,aab Dv,aab hi]
 rfl
theorem yI{e:Nat}(hk:s.heap.get? kS=some (seqObj "list" (ad.map aar).toArray e))(ha:s.heap.get? a=some (seqObj "list" #[] e1))(Bu:kS≠a)
  (l1:ad.length=vs.length) (l2:ks.length=vs.length) (Ck:vs.length<64) (nd:(ks.map (·.2)).Nodup) (hp:∀i,i<vs.length->BF s.heap (ad.getD i 0) (ks.getD i (0,⟨#[]⟩)))
  (h:∀(h':Heap) (c:Nat) (ix:List Nat),ix.length=vs.length->ix.Nodup->(∀i∈ix,i<vs.length)->ix.Pairwise (λi j=>D3 ks i j=true)->h'.get? a=some (seqObj "list" (ix.map λi=>vs.getD i aa6).toArray c)->(∀b o,b≠a->b≠kS->s.heap.get? b=some o->h'.get? b=some o)->P (.done (.ret .none)) {s with heap:=h'}) :
  wpAny (model prog w) A (ksk_end a false vs.toArray e1 (.ref kS) (ad.map aar).toArray) P E s:=by
 have kz:(ad.map aar).toArray.size<=100:=by rw[aag,aad];omega
 unfold ksk_end
 dsimp only
 simp only[aa0,if_false]
 by_cases h2:vs.toArray.size<2
 ·rw[if_pos h2,if_pos h2]
  rw[aag]at h2
  refine aaa (aaf ?_)
  rw[afI]
  refine aaa (aaf ?_)
  dsimp only
  have ei:(aaM vs.length).map (λi=>vs.getD i aa6)=vs:=by
   apply abK
   intro i
   rw[aal]
   by_cases hi:i<vs.length
   ·rw[abJ hi];simp[hi]
   ·rw[aan (by simpa using hi),aan (by omega)];rfl
  refine qp (st:=adQ general' ((ad.map aar).toArray.zip vs.toArray) #[] 7 none) (out:=vs) (n:=0) hk ha Bu kz ?_ rfl (by omega) λh' c g1 g2=>?_
  ·apply Array.toList_inj.mp
   show (((ad.map aar).toArray.zip vs.toArray).map (·.2)).toList=vs
   rw[afy,Array.toList_zip]
   show ((ad.map aar).zip vs).map (·.2)=vs
   exact List.map_snd_zip (by rw[aad];omega)
  ·refine h h' c (aaM vs.length) (by simp) adp (λi hi=>List.mem_range.mp hi) ?_ (by rw[ei];exact g1) g2
   match hv:vs.length,h2 with
   |0,_=>simp
   |1,_=>simp[ady]
 ·rw[if_neg h2,if_neg h2]
  rw[aag]at h2
  obtain⟨fs,f1,f2,f3⟩:=m4 ad λb hb=>by
   obtain⟨i,hi,rfl⟩:=List.mem_iff_getElem.mp hb
   have:=hp i (by omega)
   rw[aae,aab hi]at this
   exact⟨_,this⟩
  refine aaa (kat_kind (T:=.type "int") f1 (by omega) (λv hv=>?_) rfl ?_)
  ·obtain⟨c,t,rfl⟩:=f3 v hv
   exact Looks.of_pure rfl
  have hT:((abD "int") != (abD "tuple"))=true:=by decide
  rw[hT]
  have Qd:((ad.map aar).toArray.zip vs.toArray).size=vs.length:=by rw[af2,aag,aag,aad];omega
  have Q6:adQ (adt true) ((ad.map aar).toArray.zip vs.toArray) #[] 7 none=kas_st (adt true) ((ad.map aar).toArray.zip vs.toArray) (adJ (aaM vs.length)):=by
   have q:=kas_range ((ad.map aar).toArray.zip vs.toArray)
   rw[Qd]at q
   show _=adQ (adt true) ((adJ (aaM vs.length)).map (ac4 _)) #[] 7 none
   rw[q]
  have o:Srt.Ord (D3 ks) vs.length:=l2 ▸ qj nd
  have Gd:∀i j,i<vs.length->j<vs.length->i≠j->(ks.getD i (0,⟨#[]⟩)).2≠(ks.getD j (0,⟨#[]⟩)).2:=λi j hi hj ne q=>by
   have a:(ks.map (·.2))[i]'(by rw[aad];omega)=(ks.map (·.2))[j]'(by rw[aad];omega):=by
    rw[acv,acv]
    rw[aae,aae,aab (by omega),aab (by omega)]at q
    exact q
   exact ne ((ab7 nd).mp a)
  have ask:(kas_sort vs.length).kasWp (kas_cmp prog w A (adt true) ((ad.map aar).toArray.zip vs.toArray)) (λp z=>z=s/\Srt.Pm p vs.length/\Srt.GW (D3 ks) p vs.length) s:=by
   refine Srt.pw_wp (lt:=D3 ks) (n:=vs.length) (Q:=λp=>Srt.Pm p vs.length/\Srt.GW (D3 ks) p vs.length) (J:=λz=>z=s) ?_ (λp z hz q=>⟨hz,q⟩) (kas_sort vs.length) _ rfl (Srt.lL o (by omega) λp a b=>⟨a,b⟩)
   rintro i j C z hi hj ne rfl hC
   show wpAny _ _ (keyLt' (adt true) (ac4 _ i).1 (ac4 _ j).1) _ _ _
   rw[mn l1 hi,mn l1 hj]
   exact wK (hp i hi) (hp j hj) (Gd i j hi hj ne) (hC _ rfl)
  have run:=kas_runs (E:=E) (Q:=λ_ CW z=>∃p:Array Nat,p.size=vs.length/\arrOf CW=p.map (ac4 ((ad.map aar).toArray.zip vs.toArray))/\failedOf CW=none/\z=s/\Srt.Pm p vs.length/\Srt.GW (D3 ks) p vs.length)
   (by omega) Ck (λp' CW z a1 a2 a3 a4=>⟨p',a1,a2,a3,a4⟩) ask
  rw[<- Q6]at run
  refine aaa (aaL run ?_ λ_ _ q=>q)
  rintro⟨⟨⟩,CW⟩ z ⟨p,MT,QO,hf,rfl,Pm,As⟩
  dsimp only
  have AV:∀i∈p.toList,i<vs.length:=λi hi=>by
   obtain⟨j,hj,rfl⟩:=Array.mem_iff_getElem.mp (Array.mem_toList_iff.mp hi)
   have:=Pm.lt j (by rw[<- Pm.sz];exact hj)
   rw[Srt.aZ]at this
   simpa only[abf hj,acU]using this
  refine qp (st:=CW) (out:=p.toList.map λi=>vs.getD i aa6) (n:=0) hk ha Bu kz ?_ hf (by rw[aad,aav,MT];omega) λh' c g1 g2=>h h' c p.toList (by rw[aav,MT]) ?_ AV ?_ g1 g2
  ·apply Array.toList_inj.mp
   rw[QO,Array.map_map,afy]
   exact aaP λi hi=>by show (ac4 _ i).2=_;rw[mn l1 (AV i hi)]
  ·rw[acL,abN]
   intro i j hi hj DH q
   have Dv:i<p.size:=by simpa using hi
   have DP:j<p.size:=by simpa using hj
   have:=Pm.nd i j (by rw[<- Pm.sz];exact Dv) (by rw[<- Pm.sz];exact DP) (by rw[Srt.aZ,Srt.aZ];simpa[Dv,DP]using q)
   omega
  ·rw[abN]
   intro i j hi hj DH
   have Dv:i<p.size:=by simpa using hi
   have DP:j<p.size:=by simpa using hj
   have:=As i j DH (by rw[<- Pm.sz];exact DP)
   rw[Srt.aZ,Srt.aZ]at this
   simpa[Dv,DP]using this
def mP(prog:aaI)(w:World)(A:Around)(s:Shared)(f:Value)(keep:Addr->Prop)(v:Value)(a:Addr):Prop :=
 ∀(h:Heap) (tk:Nat),(∀b o,keep b->s.heap.get? b=some o->h.get? b=some o)->wpAny (model prog w) A (call f [v]) (λr z=>r=.ref a/\∃h' Hx,z={s with heap:=h',toks:=Hx}/\∀b o,h.get? b=some o->h'.get? b=some o) (λ_ _=>False) {s with heap:=h,toks:=tk}
variable{f:Value}
theorem xj(hk:s.heap.get? kS=some (seqObj "list" #[] 0))(ha:s.heap.get? a=some (seqObj "list" #[] e1))(Bu:kS≠a)
  (l1:ad.length=vs.length) (l2:ks.length=vs.length) (Ck:vs.length<64) (nd:(ks.map (·.2)).Nodup) (hp:∀i,i<vs.length->BF s.heap (ad.getD i 0) (ks.getD i (0,⟨#[]⟩))) (TZ:∀i,i<vs.length->ad.getD i 0≠kS)
  (turn:∀i,i<vs.length->mP prog w A s f (λb=>b≠kS) (vs.getD i .none) (ad.getD i 0))
  (h:∀(h':Heap) (tk c:Nat) (ix:List Nat),ix.length=vs.length->ix.Nodup->(∀i∈ix,i<vs.length)->ix.Pairwise (λi j=>D3 ks i j=true)->h'.get? a=some (seqObj "list" (ix.map λi=>vs.getD i aa6).toArray c)->(∀b o,b≠a->b≠kS->s.heap.get? b=some o->h'.get? b=some o)->P (.done (.ret .none)) {s with heap:=h',toks:=tk}) :
  wpAny (model prog w) A (ksk_rest a f false vs.toArray e1 (.ref kS)) P E s:=by
 unfold ksk_rest
 refine aaa (acY ?_)
 rw[List.forIn_toArray]
 refine aaa (ksk_fold (λi z=>∃h' tk e,z={s with heap:=h',toks:=tk}/\(∀b o,b≠kS->s.heap.get? b=some o->h'.get? b=some o)/\h'.get? kS=some (seqObj "list" ((ad.take i).map aar).toArray e)) vs 0 s
  ⟨s.heap,s.toks,0,rfl,λb o _ g=>g,hk⟩ ?_ ?_)
 ·rintro j x z hx ⟨h',tk,e,rfl,g1,g2⟩
  rw[abE]at g2 ⊢
  have hj:j<vs.length:=(List.getElem?_eq_some_iff.mp hx).1
  have ev:vs.getD j .none=x:=by rw[aae,hx];rfl
  have t:=turn j hj h' tk λb o hb g=>g1 b o hb g
  rw[ev]at t
  refine aaa (aeU (aaL t (λv z hz=>?_) λ_ _ q=>q.elim))
  obtain⟨rfl,h2,SV,rfl,g3⟩:=hz
  dsimp only
  have gk:=g3 _ _ g2
  have s1:=aa1 h2 kS (aaY (·.push (.ref (ad.getD j 0))))
  refine aaa (acp gk rfl ?_ (by rw[aag,aad,aa9,aaz];omega) (aa2 (afo (Array.size_push ..)) (by rw[aag,aad,aa9,aaz];omega)))
  have ej:(((ad.take j).map aar).toArray.push (.ref (ad.getD j 0)))=((ad.take (j+1)).map aar).toArray:=by
   have R1:j<ad.length:=by omega
   apply Array.toList_inj.mp
   rw[afj]
   show (ad.take j).map aar++[.ref (ad.getD j 0)]=(ad.take (j+1)).map aar
   rw[acQ,aab R1,aae,aab R1,aaU]
   rfl
  obtain⟨c2,NK⟩:∃c2,(h2.update kS (aaY (·.push (.ref (ad.getD j 0))))).get? kS=some (seqObj "list" (((ad.take j).map aar).toArray.push (.ref (ad.getD j 0))) c2):=⟨_,ac5 gk (·.push (.ref (ad.getD j 0)))⟩
  rw[ej]at NK
  exact aaf ⟨rfl,_,SV,c2,rfl,λb o hb g=>(s1.2 b hb).trans (g3 b o (g1 b o hb g)),NK⟩
 ·rintro z ⟨h',tk,e,rfl,g1,g2⟩
  rw[abE,aeg (by omega)]at g2
  refine aaa (afl g2 rfl ?_)
  refine yI (s:={s with heap:=h',toks:=tk}) g2 (g1 a _ Bu.symm ha) Bu l1 l2 Ck nd (λi hi=>(hp i hi).mono λo q=>g1 _ o (TZ i hi) q) λh2 c ix i1 i2 i3 i4 i5 i6=>h h2 tk c ix i1 i2 i3 i4 i5 λb o b1 b2 g=>i6 b o b1 b2 (g1 b o b2 g)
variable{n:Nat}
theorem xi(ha:s.heap.get? a=some (seqObj "list" vs.toArray n))
  (l1:ad.length=vs.length) (l2:ks.length=vs.length) (Ck:vs.length<64) (nd:(ks.map (·.2)).Nodup) (hp:∀i,i<vs.length->BF s.heap (ad.getD i 0) (ks.getD i (0,⟨#[]⟩))) (T3:∀i,i<vs.length->ad.getD i 0≠a)
  (turn:∀i,i<vs.length->mP prog w A s f (λb=>b≠a) (vs.getD i .none) (ad.getD i 0))
  (h:∀(h':Heap) (tk c:Nat) (ix:List Nat),ix.length=vs.length->ix.Nodup->(∀i∈ix,i<vs.length)->ix.Pairwise (λi j=>D3 ks i j=true)->h'.get? a=some (seqObj "list" (ix.map λi=>vs.getD i aa6).toArray c)->(∀b o,b≠a->s.heap.get? b=some o->h'.get? b=some o)->P (.done (.ret .none)) {s with heap:=h',toks:=tk}) :
  wpAny (model prog w) A (ksk_tree a f false) P E s:=by
 have VI:a<s.heap.objs.size:=aaj ha
 have s1:=aa1 s.heap a (aaY λ_=>(#[]:Array Value))
 have Mh:=ac5 ha λ_=>(#[]:Array Value)
 unfold ksk_tree
 refine aaa (afl ha rfl ?_)
 refine aaa (acp ha rfl ?_ (by rw[aag,aaz];omega) (abd _))
 refine aaa (adv Mh rfl ?_)
 refine aaa (aeE ?_ (by show vs.length<=_;rw[aaz];omega))
 refine aaa (aco ?_ (abd _))
 refine aaN ?_
 generalize hH:((s.heap.update a (aaY λ_=>(#[]:Array Value))).push (seqObj "tuple" vs.toArray 0))=H1
 have kz:H1.objs.size=s.heap.objs.size+1:=by rw[<- hH,size_push',Heap.size_update]
 have old:∀b o,b≠a->s.heap.get? b=some o->(H1.push (seqObj "list" #[] 0)).get? b=some o:=λb o hb g=>by
  rw[<- hH]
  exact aac _ (aac _ ((s1.2 b hb).trans g))
 have lt:∀b o,s.heap.get? b=some o->b≠H1.objs.size:=λb o g=>by
  have:=aaj g
  rw[kz];exact aaq (abi this)
 refine xj (s:={s with heap:=H1.push (seqObj "list" #[] 0)}) (kS:=H1.objs.size) (a:=a) (aai _ rfl) ?_ ?_ l1 l2 Ck nd (λi hi=>?_) (λi hi=>?_) (λi hi=>?_) λh' tk c ix i1 i2 i3 i4 i5 i6=>h h' tk c ix i1 i2 i3 i4 i5 λb o hb g=>i6 b o hb (lt b o g) (old b o hb g)
 ·rw[<- hH]
  exact aac _ (aac _ Mh)
 ·exact(lt a _ ha).symm
 ·exact(hp i hi).mono λo q=>old _ o (T3 i hi) q
 ·obtain⟨o,_,_,_,g,_⟩:=hp i hi
  exact lt _ o g
 ·intro h2 tk g
  exact turn i hi h2 tk λb o hb q=>g b o (lt b o q) (old b o hb q)
variable{l:Addr}{ob:Obj}
theorem sJ{q:Addr}{n0:Nat}{Q:Value->Shared->Prop}(ho:s.heap.get? l=some ob)(hc:ob.cls=.type "tuple")(hd:ob.data=.seq vs.toArray n0)
  (l1:ad.length=vs.length) (l2:ks.length=vs.length) (Ck:vs.length<64) (nd:(ks.map (·.2)).Nodup) (hp:∀i,i<vs.length->BF s.heap (ad.getD i 0) (ks.getD i (0,⟨#[]⟩)))
  (turn:∀i,i<vs.length->mP prog w A.in1.in1 s (.ref q) (λ_=>True) (vs.getD i .none) (ad.getD i 0))
  (h:∀(D:Addr) (h1 h':Heap) (tk c:Nat) (ix:List Nat),(∀b o,s.heap.get? b=some o->h1.get? b=some o)->h1.objs.size<=D->ix.length=vs.length->ix.Nodup->(∀i∈ix,i<vs.length)->ix.Pairwise (λi j=>D3 ks i j=true)->h'.get? D=some (seqObj "list" (ix.map λi=>vs.getD i aa6).toArray c)->(∀b o,s.heap.get? b=some o->h'.get? b=some o)->Q (.ref D) {s with heap:=h',toks:=tk}) :
  wpAny (model prog w) A (call (.builtin "sorted") [.ref l] [(aax "key",.ref q)]) Q E s:=by
 refine call_function_entry_kw aeN ael aeo (ksk_s1 _ _) ?_
 unfold ace.«sorted»
 refine aaa (m:=ae9 "sorted" 1 1 _) (aaf ?_)
 refine aaa (ae4 l (.inr rfl) ho hc hd (λh1 kk=>?_) (by rw[aag,aaz];omega))
 refine aaa (aco ?_ (by show vs.length<=_;rw[aaz];omega))
 have FW:(h1.push (seqObj "list" vs.toArray 0)).get? h1.objs.size=some (seqObj "list" vs.toArray 0):=aai _ rfl
 have old:∀b o,s.heap.get? b=some o->(h1.push (seqObj "list" vs.toArray 0)).get? b=some o:=λb o g=>aac _ (kk b o g)
 have ne:∀b o,s.heap.get? b=some o->b≠h1.objs.size:=λb o g=>aaq (aaj (kk b o g))
 refine aaa (aaN (wpAny_call_entry_kw adi ⟨_,FW,rfl⟩ ac6 ?_ (ksk_l1 _ _)))
 show wpAny (model prog w) A.in1.in1 (ace.«list.sort» ⟨[.ref h1.objs.size],[(aax "key",.ref q)]⟩) _ _ _
 rw[ksk_t1]
 refine xi (s:={s with heap:=h1.push (seqObj "list" vs.toArray 0)}) FW l1 l2 Ck nd (λi hi=>(hp i hi).mono λo g=>old _ o g) (λi hi=>?_) (λi hi h2 tk g=>turn i hi h2 tk λb o _ z=>g b o (ne b o z) (old b o z)) λh' tk c ix i1 i2 i3 i4 i5 i6=>⟨_,rfl,?_⟩
 ·obtain⟨o,_,_,_,g,_⟩:=hp i hi
  exact ne _ o g
 ·exact aaf ⟨_,rfl,h h1.objs.size h1 h' tk c ix kk (aak _) i1 i2 i3 i4 i5 λb o g=>i6 b o (ne b o g) (old b o g)⟩
structure Hd(x d:Str)(params:Arguments)(scope:Scope):Prop where
 kind:scope.kind=.function
 co:scope.isCoroutine=false
 gen:scope.isGenerator=false
 nc:∀y∈scope.names,y.2≠.cell
 lx:scope.names.lookup x=some .local
 ld:scope.names.lookup d=some .free
 ne:(x==d)=false
 dx:(x==("__debug__" : Str))=false
 dd:(d==("__debug__" : Str))=false
 dc:(d==("__classdict__" : Str))=false
 bd:∀(qual:Str) (body:Expr) (cl:List (Str×Addr)) (pm Ao ct v:Value),adj (kla_fn "<lambda>" qual params body scope cl pm Ao ct) ⟨[v],[]⟩=pure [(x,v)]
variable{X:Cx}{pins:List (Addr×Obj)}{σ:St}{H:Hp}{z:Shared}{B:Around}
variable{scope:Scope}{qual:Str}{pm:Value}{t:Tok}{kvs:List (Key×V)}
theorem uQ{q c' cell dd:Addr}{x d nm:Str}{params:Arguments}{p1 p2 p3:Pos}{Ja:Value}(S:Hd x d params scope)(I:Inv X pins σ H z)(Io:B.depth<recursionLimit)
  (ho:z.heap.get? q=some (kla_obj "<lambda>" qual params (.Subscript (.Name d p1) (.Name x p2) p3) scope [(d,cell)] pm c' Ja)) (hcd:z.heap.CodeRec (.ref c') qual) (Lq:z.heap.NoLimit) (Cv:z.heap.IsCell cell (some (.ref dd)))
  (hD:H dd=some (.dK kvs)) (hv:B0 kvs (aao nm)=some (.ref a)) :
  wpAny (model X.prog X.w) B (call (.ref q) [.str nm t]) (λv z'=>v=.ref a/\∃h' Hx,z'={z with heap:=h',toks:=Hx}/\∀b o,z.heap.get? b=some o->h'.get? b=some o) (λ_ _=>False) z:=by
 refine wpAny_call (kla_callFunE Io ho rfl S.co S.gen rfl hcd ?_)
 rw[S.bd]
 refine aaf (aeB S.nc (λy hy=>by rw[List.mem_singleton]at hy;subst hy;exact S.lx) (λh1 J6 TR=>?_) S.kind)
 have kk:∀b o,z.heap.get? b=some o->h1.get? b=some o:=λb o g=>(TR.2 b (aaq (aaj g))).trans (aac _ g)
 refine⟨Lq.keeps kk,kla_codeExpr ?_⟩
 have I1:Inv X pins σ H {z with heap:=h1,toks:=z.toks+1}:=I.kept kk
 obtain⟨z1,z2,vs,rel,dD⟩:=hU I1.zY hD
 obtain⟨u,hu,ru⟩:=Dq.some_of (v:=V.ref a) (o:=aeM vs (aao nm)) (by rw[<- hv];exact rel.val _)
 cases ru
 have LA:h1.IsCell cell (some (.ref dd)):=by
  obtain⟨o,e,r⟩:=Cv
  exact⟨o,kk _ _ e,r⟩
 refine afc ?_
 refine ae6 (wpAny_loadName_free S.kind S.ld (c:=cell) (show adz d [(d,cell)]=some cell by simp) LA ?_ S.dc) S.dd
 refine ae6 (wpAny_loadName_local S.kind S.lx J6 (show adz x [(x,ab9 nm t)]=some (ab9 nm t)by simp) ?_) S.dx
 refine tail_any dD.typeIs PySem.F.slot_dict_getitem.lookup (wpAny_getItem_of (fD (k:=aao nm) (show RelV (.str nm) (.str nm t)from ⟨t,rfl⟩)) dD.mapOf hu ?_) rfl
 exact⟨rfl,h1,_,rfl,kk⟩
def DG(f:Addr)(ob:Obj):HO:=.ext λh=>h.get? f=some ob
theorem sI{P:aaI}(e:h.get? a=some ob):Af P w H h a (DG a ob):=⟨e,⟨_,e⟩,λh1 h2 x k=>k _ x⟩
theorem xI{P:aaI}{lq:Str}(e:h.CodeRec (.ref a) lq):Af P w H h a (BL a lq):=by
 refine⟨e,?_,λh1 h2 x k=>?_⟩
 ·obtain⟨c,oc,vs,tq,hc,Me,r⟩:=e
  cases hc
  exact⟨_,Me⟩
 ·obtain⟨c,oc,vs,tq,hc,Me,r⟩:=x
  cases hc
  exact⟨_,oc,vs,tq,rfl,k _ Me,r⟩
structure He(X:Cx)(lq d:Str)(params:Arguments)(body:Expr)(scope:Scope)(c':Addr)(ob:Obj):Prop where
 ex:∃cell Ja,X.env.cells.lookup d=some cell/\ob=kla_obj "<lambda>" lq params body scope [(d,cell)] ((X.mg "__name__").getD .none) c' Ja
def Kv(X:Cx)(lq d:Str)(Al:Pos)(P:Addr)(params:Arguments)(body:Expr)(scope:Scope):TE:=λ_ H Q=>∃ps:Array Value,H P=some (BJ P ps)/\TriplesOk ps.toList /\
 ((act Al ps.toList=none/\∀c' f ob,H c'=none->H f=none->c'≠f->c'≠P->f≠P->He X lq d params body scope c' ob->Q (.ref f) (upd (upd (upd H P (BJ P (ps++#[rawInt Al.line,rawInt Al.col,.ref c']))) c' (BL c' lq)) f (DG f ob))) \/
  (∃c',act Al ps.toList=some (.ref c')/\H c'=some (BL c' lq)/\∀f ob,H f=none->He X lq d params body scope c' ob->Q (.ref f) (upd H f (DG f ob))))
structure BMain(mg:Str->Option Value)(h:Heap):Prop where
 ex:∃bm o,mg "__builtins__" = some (.ref bm)/\bm≠afb/\h.get? bm=some o/\o.cls=.type "module" /\ o.dict=some afb/\o.data=.plain
structure Hf(d:Str)(params:Arguments)(scope:Scope):Prop where
 df:∀env,defaultsOf params env=([],[])
 cl:∀(env:Env) (cell:Addr),env.cells.lookup d=some cell->closureFor scope env=pure [(d,cell)]
variable{lq d:Str}{Al:Pos}{P c:Addr}{params:Arguments}{body:Expr}
theorem yq(S:Hf d params scope)(hq:X.env.qual ++ "<lambda>" = lq)(EH:X.env.code=.ref c)(hC:abT X.K c P=true)(hB:BMain X.mg X.base)(hd:X.env.kindOf d=some .cell):PE X (.Lambda params body scope Al) (Kv X lq d Al P params body scope):=by
 intro pins s σ H Q I h
 obtain⟨ps,eP,ht,h⟩:=h
 obtain⟨cell,Cv⟩:=I.ok.has d (.inl hd)
 have hP:s.heap.get? P=some (tabObj ps):=(I.zY P _ eP).1
 have hg:s.heap.Ns aaJ X.mg:=I.mod.glob.keeps I.bk
 have C:CodeHd s.heap c P:=PySem.W.codeHd_of_K I.Ex hC
 have Uo:aaJ≠P:=λe=>by
  obtain⟨o,es,ep,g1,g2,_⟩:=hg
  rw[e,hP]at g1;cases g1;cases g2
 have hb:s.heap.BuiltinsAt X.mg P:=by
  obtain⟨bm,o,b1,b2,b3,b4,b5,b6⟩:=hB.ex
  refine⟨bm,o,b1,b2,λe=>?_,λe=>?_,I.bk _ _ b3,b4,b5,b6⟩
  ·obtain⟨o',es,ep,g1,g2,_⟩:=hg
   rw[<- e,I.bk _ _ b3]at g1;cases g1
   rw[b6]at g2;cases g2
  ·have:=I.bk _ _ b3
   rw[e,hP]at this;cases this;cases b4
 refine kla_eval (S.df _) ?_
 rw[hq]
 rcases h with ⟨T7,h⟩|⟨c',hf,Gv,h⟩
 ·refine kla_makeFunction (mg:=X.mg) (S.cl _ _ Cv) I.ok.glob hg EH C hP ht T7 Uo hb λc' Ja h' tk hx IU AV Qp Nv=>?_
  have IY:H c'=none:=I.zY.fresh IU
  have nP:∀b,H b=none->b≠P:=λb n z=>by rw[z,eP]at n;cases n
  have nc:∀b o,s.heap.get? b=some o->b≠c':=λb o g=>aaq (aaG (aaj g) IU)
  have Tn:c'≠P:=λz=>by rw[z,eP]at IY;cases IY
  have un:Un X.fs [] H (upd (upd H P (BJ P (ps++#[rawInt Al.line,rawInt Al.col,.ref c']))) c' (BL c' lq)) s.heap h':=by
   refine⟨λb o q n _ _=>hx b o (nP b n) q,λb o q n _ _=>⟨o.slots,hx b o (nP b n) q⟩,λb o q n _=>?_,λb o q _=>?_,λb xs q=>?_,λb o u q=>?_,λb qs q=>?_⟩
   ·rw[ak (nc b o q),ak (nP b n)];exact n
   ·by_cases z:b=P
    ·subst z;exact⟨_,Nv⟩
    ·exact⟨o,hx b o z q⟩
   ·rw[ak (aA q IY),ak (λz=>by rw[z,eP]at q;cases q)];exact q
   ·rw[ak (aA q IY),ak (λz=>by rw[z,eP]at q;cases q)];exact q
   ·refine⟨#[],?_⟩
    rw[ak (aA q IY),ak (λz=>by rw[z,eP]at q;cases q),q];simp
  have zY:CD X.prog X.w (upd (upd H P (BJ P (ps++#[rawInt Al.line,rawInt Al.col,.ref c']))) c' (BL c' lq)) h':=λb u q=>by
   by_cases z:b=c'
   ·subst z
    rw[ao]at q;cases q
    exact xI Qp
   ·rw[ak z]at q
    by_cases z2:b=P
    ·subst z2
     rw[ao]at q;cases q
     exact nY Nv
    ·rw[ak z2]at q
     refine(I.zY b u q).ET (λe o he g=>hx e o (λy=>?_) g) (λe he=>?_) λe xs he=>?_
     ·subst y
      rcases he with y|y
      ·exact z2 y.symm
      ·rw[eP]at y;cases y
     ·rw[ak (aA he IY),ak (λy=>by rw[y,eP]at he;cases he)];exact he
     ·rw[ak (aA he IY),ak (λy=>by rw[y,eP]at he;cases he)];exact he
  have I1:Inv X pins σ _ {s with heap:=h',toks:=tk}:=I.un un zY
  have R5:=I1.zY.fresh (a:=h'.objs.size) (aak _)
  have fc:h'.objs.size≠c':=abZ AV
  have fP:h'.objs.size≠P:=abZ (aaj Nv)
  have Lx:H h'.objs.size=none:=by rw[ak fc,ak fP]at R5;exact R5
  refine⟨.ref h'.objs.size,_,I1.laid (t':=tk) (a:=h'.objs.size) (o:=DG h'.objs.size (kla_obj "<lambda>" lq params body scope [(d,cell)] ((X.mg "__name__").getD .none) c' Ja)) (λb u g=>aac _ g) (aak _) (sI (aai _ rfl)),rfl,h c' _ _ IY Lx (abG fc) Tn fP ⟨cell,Ja,Cv,rfl⟩⟩
 ·refine kla_makeFunctionHit (mg:=X.mg) (S.cl _ _ Cv) I.ok.glob hg EH C hP ht hf hb λJa h' tk kk hsz=>?_
  exact⟨.ref h'.objs.size,_,I.laid (t':=tk) (a:=h'.objs.size) (o:=DG h'.objs.size (kla_obj "<lambda>" lq params body scope [(d,cell)] ((X.mg "__name__").getD .none) c' Ja)) (λb u g=>aac _ (kk b u g)) hsz (sI (aai _ rfl)),rfl,h _ _ (I.zY.fresh hsz) ⟨cell,Ja,Cv,rfl⟩⟩
structure JK(ks:List (Int×Str))(n:Nat)(ix:List Nat):Prop where
 len:ix.length=n
 nd:ix.Nodup
 lt:∀i∈ix,i<n
 up:ix.Pairwise λi j=>D3 ks i j=true
abbrev k0:Int×Str:=(0,⟨#[]⟩)
def HL(X:Cx)(lq d:Str)(Al:Pos)(P:Addr)(params:Arguments)(body:Expr)(scope:Scope)(i:Nat)(σ:St)(Q:VK):VK:=λv H1=>∃(l:Addr) (ss:List Str) (dd:Addr) (kvs:List (Key×V)) (ad:List Addr) (ks:List (Int×Str)),
 v=.ref l/\AW X.K H1 l (ss.map V.str)/\ss.length<64/\σ[i]?=some (some (.ref dd))/\H1 dd=some (.dK kvs)/\ad.length=ss.length/\ks.length=ss.length/\(ks.map (·.2)).Nodup /\
 (∀j,j<ss.length->B0 kvs (aao (ss.getD j ⟨#[]⟩))=some (.ref (ad.getD j 0))/\AW X.K H1 (ad.getD j 0) [.int (ks.getD j k0).1,.str (ks.getD j k0).2]) /\
 Kv X lq d Al P params body scope σ H1 λ_ H2=>∀D ix,H2 D=none->JK ks ss.length ix->Q (.ref D) (upd H2 D (.lst (ix.map λj=>V.str (ss.getD j ⟨#[]⟩))))
def Ks(X:Cx)(lq d:Str)(Al:Pos)(P:Addr)(params:Arguments)(body:Expr)(scope:Scope)(i:Nat)(te:TE):TE:=λσ H Q=>te σ H (HL X lq d Al P params body scope i σ Q)
variable{K:aah}{xs:List V}
theorem pZ{H2:Hp}{ps:Array Value}(eP:H P=some (BJ P ps))(k:∀b o,H b=some o->b≠P->H2 b=some o)(h:AW K H a xs):AW K H2 a xs:=by
 rcases h with (h|⟨o,h⟩)|h
 ·exact .inl (.inl (k a _ h λz=>by rw[z,eP]at h;cases h))
 ·exact .inl (.inr ⟨o,k a _ h λz=>by rw[z,eP]at h;cases h⟩)
 ·exact .inr h
variable{x:Str}{p p1 p2 p3 Hi pos:Pos}{e:Expr}{te:TE}{k:Nat}
variable{iD:List Value}
theorem wL{m:Int}{s:Str}(rv:zP [.int m,.str s] iD)(t:IsTup h a iD.toArray):BF h a (m,s):=by
 obtain⟨o,g1,g2,n,g3⟩:=t
 cases rv with
 |cons r1 r2=>
  cases r2 with
  |cons r2 r3=>
   cases r3
   obtain⟨t,rfl⟩:=r1
   obtain⟨u,rfl⟩:=r2
   exact⟨o,n,t,u,g1,g2,g3⟩
theorem ul(S:Hd x d params scope)(S2:Hf d params scope)(hr:AB k X.A)(hg:Gl X "sorted")(hm:X.mg "sorted" = none)(hq:X.env.qual ++ "<lambda>" = lq)(EH:X.env.code=.ref c)(hC:abT X.K c P=true)(hB:BMain X.mg X.base)
  (hi:X.N[i]?=some d) (hd:X.env.kindOf d=some .cell) (hv:GN X.env.scope d) (he:PE X e te)
  (hs:aam [e] X.env=(false,eval e X.env)::aam [] X.env:=by rfl)
  (h1:backTo pos (aam [e] X.env)=(false,eval e X.env)::backTo pos (aam [] X.env):=by rfl) (h2:(backTo pos (aam [e] X.env)).any (·.1)=false:=by rfl) :
  PE X (.Call (.Name "sorted" p) [e] [⟨some "key",.Lambda params (.Subscript (.Name d p1) (.Name x p2) p3) scope Al,Hi⟩] pos) (Ks X lq d Al P params (.Subscript (.Name d p1) (.Name x p2) p3) scope i te):=by
 intro pins s σ H Q I h
 refine ac2 (gq I hg hm adg ?_)
 refine callWith_kw (Aw ((bu he bN hs) pos pins s σ H (λvs H1=>match vs with|[v]=>HL X lq d Al P params (.Subscript (.Name d p1) (.Name x p2) p3) scope i σ Q v H1|_=>False) I h) λus s1 ⟨vs,H1,I1,r1,q1⟩=>?_) h1 h2
 dsimp only at q1
 split at q1
 case h_2=>exact q1.elim
 obtain⟨l,ss,dd,kvs,ad,ks,rfl,hl,Ck,hσ,NJ,l1,l2,nd,hk,hL⟩:=q1
 obtain⟨u,rfl,ru⟩:=r1.one
 cases ru
 obtain⟨ps,eP,hL⟩:=hL
 have UU:dd≠P:=λz=>by rw[z,eP]at NJ;cases NJ
 have lam:Kv X lq d Al P params (.Subscript (.Name d p1) (.Name x p2) p3) scope σ H1 λfv H2=>∃f c' ob,fv=.ref f/\H2 f=some (DG f ob)/\He X lq d params (.Subscript (.Name d p1) (.Name x p2) p3) scope c' ob/\H2 c'=some (BL c' lq)/\(∀b o,H1 b=some o->b≠P->H2 b=some o) /\
   ∀D ix,H2 D=none->JK ks ss.length ix->Q (.ref D) (upd H2 D (.lst (ix.map λj=>V.str (ss.getD j ⟨#[]⟩)))):=by
  refine⟨ps,eP,hL.1,?_⟩
  rcases hL.2 with ⟨g1,g2⟩|⟨c',g1,g2,g3⟩
  ·refine .inl ⟨g1,λc' f ob a1 a2 a3 a4 a5 a6=>⟨f,c',ob,rfl,ao,a6,?_,λb o hb hP=>?_,g2 c' f ob a1 a2 a3 a4 a5 a6⟩⟩
   ·rw[ak a3,ao]
   ·rw[ak (aA hb a2),ak (aA hb a1),ak hP];exact hb
  ·refine .inr ⟨c',g1,g2,λf ob a1 a2=>⟨f,c',ob,rfl,ao,a2,?_,λb o hb _=>?_,g3 f ob a1 a2⟩⟩
   ·rw[ak (aA g2 a1)];exact g2
   ·rw[ak (aA hb a1)];exact hb
 refine Aw ((wH (yq S2 hq EH hC hB hd) ye) pos pins s1 σ H1 (λvs H2=>match vs with|[fv]=>∃f c' ob,fv=.ref f/\H2 f=some (DG f ob)/\He X lq d params (.Subscript (.Name d p1) (.Name x p2) p3) scope c' ob/\H2 c'=some (BL c' lq)/\(∀b o,H1 b=some o->b≠P->H2 b=some o) /\
   (∀D ix,H2 D=none->JK ks ss.length ix->Q (.ref D) (upd H2 D (.lst (ix.map λj=>V.str (ss.getD j ⟨#[]⟩)))))|_=>False) I1 lam) λws s2 ⟨zs,H2,I2,rz,q2⟩=>?_
 dsimp only at q2
 split at q2
 case h_2=>exact q2.elim
 obtain⟨f,c',ob,rfl,ef,⟨cell,Ja,Cv,rfl⟩,ec,keep,hQ⟩:=q2
 obtain⟨u,rfl,ru⟩:=rz.one
 cases ru
 show wpAny _ _ (call (.builtin "sorted") [.ref l] [(aax "key",.ref f)]) _ _ _
 obtain⟨iD,rv,⟨o,g1,g2,n0,g3⟩,hz⟩:=I2.tuple (pZ eP keep hl)
 have hlen:iD.length=ss.length:=by have:=rv.length;rw[aad]at this;exact this.symm
 have Tu:∀j,j<ss.length->∃t,iD.getD j aa6=.str (ss.getD j ⟨#[]⟩) t:=λj hj=>by
  obtain⟨u,hu,ru⟩:=rv.get (i:=j) (show (ss.map V.str)[j]?=some (.str (ss.getD j ⟨#[]⟩))by rw[aal,aab hj,aae,aab hj];rfl)
  obtain⟨t,rfl⟩:=ru
  exact⟨t,by rw[aae,hu];rfl⟩
 have cellAt:s2.heap.IsCell cell (some (.ref dd)):=by
  obtain⟨m,_,Qw⟩:=I2.loc
  obtain⟨u,ru,lk⟩:=Qw i d _ hi hσ hv
  cases ru
  rcases lk with ⟨y,_⟩|⟨_,c2,y1,y2⟩
  ·rw[hd]at y;cases y
  ·rw[Cv]at y1;cases y1;exact y2
 have lim:s2.heap.NoLimit:=I2.mod.nolimit.keeps I2.bk
 refine sJ (vs:=iD) (ad:=ad) (ks:=ks) g1 g2 g3 (by omega) (by omega) (by omega) nd (λj hj=>?_) (λj hj h tk kk=>?_) λD VF h' tk cc ix k1 k2 i1 i2 i3 i4 i5 i6=>?_
 ·obtain⟨Bq,IL,Pl,_⟩:=I2.tuple (pZ eP keep (hk j (by omega)).2)
  exact wL IL Pl
 ·obtain⟨t,et⟩:=Tu j (by omega)
  rw[et]
  have Nf:∀b o,s2.heap.get? b=some o->h.get? b=some o:=λb o g=>kk b o trivial g
  have I3:Inv X pins σ H2 {s2 with heap:=h,toks:=tk}:=I2.kept Nf
  refine uQ (z:={s2 with heap:=h,toks:=tk}) S I3 ?_ (Nf _ _ (I2.zY f _ ef).1) ?_ (lim.keeps Nf) ?_ (keep _ _ NJ UU) (hk j (by omega)).1
  ·have:=hr.dp
   show X.A.depth<recursionLimit
   omega
  ·exact(I2.zY c' _ ec).2.2 _ _ (I2.zY c' _ ec).1 λo g=>Nf _ _ g
  ·obtain⟨o,y,r⟩:=cellAt
   exact⟨o,Nf _ _ y,r⟩
 ·have Mi:s2.heap.get? D=none:=by
   cases y:s2.heap.get? D with
   |none=>rfl
   |some o=>exact absurd (aaG (aaj (k1 D o y)) k2) (abl _)
  have J:Inv X pins σ H2 {s2 with heap:=s2.heap,toks:=tk}:=I2.kept λ_ _ g=>g
  obtain⟨m,hm,_⟩:=I2.loc
  have AV:∀y∈ix,y<ss.length:=λy hy=>by have:=i3 y hy;omega
  have pick:=rv.pick ix λy hy=>by rw[aad];exact AV y hy
  have ep:(ix.map λy=>(ss.map V.str).getD y V.rW)=ix.map λj=>V.str (ss.getD j ⟨#[]⟩):=aaP λy hy=>by
   have OH:=AV y hy
   rw[aae,aal,aab OH,aae,aab OH];rfl
  rw[ep]at pick
  refine⟨.ref D,_,J.J5 (xs:=ix.map λj=>V.str (ss.getD j ⟨#[]⟩)) hm (hm.keeps i6) (λb o _ g=>i6 b o g) Mi ⟨?_,ix.map λy=>iD.getD y aa6,cc,pick,i5⟩,rfl,hQ D ix (I2.zY.dead Mi) ⟨by omega,i2,AV,i4⟩⟩
  rw[aad,i1,aaz];omega
end L2
namespace L2
open PySem PySem.Spec PyProof.Rows
variable{P:aaI}{w:World}{K:aah}{mg:Str->Option Value}{base:Heap}
variable{x qual:Str}{st:Stmt}{f:Addr}{fd:abR}{N ps:List Str}{k:Nat}{sp:Sp}
theorem Hu.Tg(F:Hu K x qual st f fd)(S:aB N ps (au st))(len:∀vs H Q E,sp vs H Q E->vs.length=ps.length)
  (FG:∀(Ao:Value),fd.code=Ao->∀(A:Around) (outer:List Env) (s:Shared) (H:Hp) (vs:List V) (Q:VK) (E:XK),AB k (A.deeper (envOfC qual (au st) s.heap.objs.size f Ao))->sp vs H Q E ->
   ∃t,GP (EB Bn P w K mg base N qual (au st) f Ao A outer s H E).Jq (bR st) t/\t {nx:=λ_ H'=>Q .rW H',rt:=Q} (start N vs) H):Ae P w K mg base Bn (k+1) f fd ps sp:=by
 obtain⟨oc,od,kV,doc,pm,an,Ao,ct,Jm,rfl,lk,hcd⟩:=F.ex
 refine vM lk hcd S len λA outer s H vs Q E hr IT=>?_
 obtain⟨t,h,q⟩:=FG Ao rfl A outer s H vs Q E hr IT
 exact⟨t,h.Jq,q⟩
variable{X:Cx}{pins:List (Addr×Obj)}{σ:St}{H:Hp}{s:Shared}{n:Nat}{v:V}
theorem Inv.hide(I:Inv X pins σ H s){nm:Str}(hN:X.N[n]?=some nm)(hv:¬ GN X.env.scope nm):Inv X pins (σ.set n (some v)) H s:=by
 refine⟨I.ok,I.os,I.bare,I.base,?_,I.cell,I.free,I.BY,I.pin,I.zY,by rw[aeu];exact I.len⟩
 obtain⟨m,hn,hl⟩:=I.loc
 refine⟨m,hn,λi x u e1 e2 e3=>?_⟩
 by_cases z:n=i
 ·subst z
  rw[hN]at e1;cases e1
  exact absurd e3 hv
 ·rw[aaE z]at e2
  exact hl i x u e1 e2 e3
end L2
namespace Q
open PySem L2 PyProof.Rows
def HA(n:Nat)(c:PV)(xs:List PV):En:=AX n xs++[some ⟨2,c⟩]
def OA(n:Nat)(P:PV->Prop)(e:En):Prop:=match e[n]? with
 |some (some ⟨2,c⟩)=>P c
 |_=>False
def GG(n:Nat)(P:PV->PV->Prop):Wd:={nx:=λe=>OA n (P .rW) e,rt:=λx e=>OA n (P x) e}
def DC(n:Nat)(u:WS):C4:=λc xs P=>u (GG n P) (HA n c xs)
def spT(M:Md)(n:Nat)(D:C4):Sp:=λvs H Q _=>∃(F:Hp) (a:Addr) (l:List Addr) (c:PV) (xs:List PV) (P:PV->PV->Prop),eQ F H/\zL M.K F vs xs/\xs.length=n /\
 M.ob.P F H a l c/\(∀b∈l,H b≠none/\F b=none)/\D c xs P /\
 ∀r c' v F' H' l',P r c'->(∀b o,H b=some o->b∉l->H' b=some o)->(∀b,H b≠none->H' b≠none)->eQ F F'->eQ F' H'->(∀a,F' a≠none->F a≠none\/H a=none)->M.ob.P F' H' a l' c'->(∀b∈l',H' b≠none/\F' b=none)->(∀b∈l',b∈l\/H b=none)->Rep M.K F' v r->Q v H'
variable{M:Md}{F H:Hp}{N:List Str}{ws:List V}{xs:List PV}{a:Addr}{l:List Addr}{c:PV}{n:Nat}
theorem qM(sF:eQ F H)(r:zL M.K F ws xs)(hN:N.length=n+1)(hl:xs.length<=n)(ho:M.ob.P F H a l c)(hb:∀b∈l,H b≠none/\F b=none):
  zW M ⟨H,F,l,λi=>if i=n then some a else none,λb h=>(hb b h).1⟩ F ((start N ws).set n (some (.ref a))) H (HA n c xs):=by
 have FX:ws.length<=n:=by rw[r.len];exact hl
 have hs:(start N ws).length=n+1:=by rw[ir (by omega),hN]
 have he:(AX n xs).length=n:=gP hl
 refine⟨sF,λb o h _=>h,λb h=>h,aq,λa h=>.inl h,?_,λi=>if i=n then l else [],λi s h=>?_,λi b h=>?_,λi j b DH h z=>?_,λi b s h _ _=>?_⟩
 ·unfold HA
  rw[aat,he,aeu,hs];rfl
 ·rcases Nat.lt_trichotomy i n with z|z|z
  ·unfold HA at h
   rw[aaC (by omega)]at h
   obtain⟨x,hx,rfl⟩:=gQ h
   obtain⟨v,hv,rv⟩:=r.get hx
   refine⟨v,?_,.inl ⟨rfl,if_neg (by omega),rv⟩⟩
   rw[aaE (by omega)]
   exact dA hv
  ·subst z
   unfold HA at h
   rw[adE (by omega),he,Nat.sub_self]at h
   have h:s=⟨2,c⟩:=by simpa using h.symm
   subst h
   refine⟨.ref a,?_,.inr (.inr (.inl ⟨.inl rfl,a,rfl,λc hc=>.inl (by rwa [if_pos rfl]at hc),by rw[if_pos rfl];exact ho⟩))⟩
   rw[ab6 (by omega)]
  ·unfold HA at h
   rw[aan (by rw[aat,he];simp;omega)]at h;cases h
 ·split at h
  ·exact hb b h
  ·simp at h
 ·split at h
  ·split at z
   ·rename_i h1 h2;exact DH (h1.trans h2.symm)
   ·simp at z
  ·simp at h
 ·dsimp only at h
  split at h
  ·rename_i e;subst e;cases h
   rw[ab6 (by omega)]
  ·cases h
variable{P:aaI}{w:World}{K:aah}{mg:Str->Option Value}{base:Heap}{ob:BG}
variable{x qual:Str}{st:Stmt}{f:Addr}{fd:abR}{ps:List Str}{k:Nat}{u:WS}
theorem iX{nm:Str}(F:Hu K x qual st f fd)(S:aB N ps (au st))(hN:N.length=n+1)(hn:ps.length<=n)(Qv:N[n]?=some nm)(hv:¬ GN (au st) nm)
  (hb:∀(Ao:Value),fd.code=Ao->∀(A:Around) (outer:List Env) (s:Shared) (H:Hp) (E:XK),AB k (A.deeper (envOfC qual (au st) s.heap.objs.size f Ao))->Ej ob (EB Bn P w K mg base N qual (au st) f Ao A outer s H E).Jq (bR st) u) :
  Ae P w K mg base Bn (k+1) f fd ps (spT ⟨P,w,K,ob⟩ ps.length (DC n u)):=by
 refine F.Tg S (λvs H Q E h=>?_) (λAo Gu A outer s H vs Q E hr h=>?_)
 ·obtain⟨F,a,l,c,xs,P,_,r,hl,_⟩:=h
  rw[r.len];exact hl
 ·obtain⟨F,a,l,c,xs,P',sF,r,hl,ho,Hm,hD,kk⟩:=h
  obtain⟨t,ht,kt⟩:=(hb Ao Gu A outer s H E hr).ex
  have fin:∀(x:PV) (env:En) (v:V) (σ:L2.St) (F' H':Hp),OA n (P' x) env->eQ F F'->zW ⟨P,w,K,ob⟩ ⟨H,F,l,λi=>if i=n then some a else none,λb h=>(Hm b h).1⟩ F' σ H' env->Rep K F' v x->Q v H':=λx env v σ F' H' p s1 K1 rv=>by
   unfold OA at p
   split at p
   ·rename_i c' e
    obtain⟨fp,L⟩:=K1.sl
    obtain⟨v0,G3,ok⟩:=L.at' n _ e
    have hσ:=L.oa n a _ (if_pos rfl) e rfl
    rw[hσ]at G3;cases G3
    rcases ok with ⟨k0,_⟩|⟨k0,_⟩|⟨_,a',e',h1,h2⟩|⟨k0,_⟩
    ·cases k0
    ·cases k0
    ·cases e'
     exact kk x _ v F' H' (fp n) p (λb o h1 h2=>K1.sG b o h1 h2) (λb h=>K1.pr b h) s1 K1.sF K1.nw h2 (λb hb=>L.al n b hb) (λb hb=>h1 b hb) rv
    ·cases k0
   ·exact p.elim
  refine⟨λD σ H=>t D (σ.set n (some (.ref a))) H,λpins s' σ H' D I q=>ht pins s' _ H' D (I.hide Qv hv) q,kt ⟨H,F,l,λi=>if i=n then some a else none,λb h=>(Hm b h).1⟩ F ((start N vs).set n (some (.ref a))) H (HA n c xs) (GG n P') _ (qM (M:=⟨P,w,K,ob⟩) sF r hN (by omega) ho Hm) hD ⟨λenv σ F' H' p s1 K1=>?_,λx env v σ F' H' p s1 K1 rv=>?_,λ_ _ _ _ p=>p.elim,λ_ _ _ _ p=>p.elim,λ_ _ _ _ _ _ p=>p.elim,λ_ _ _ _ _ _ _ p=>p.elim⟩⟩
  ·exact fin .rW env .rW σ F' H' p s1 K1 .rW
  ·exact fin x env v σ F' H' p s1 K1 rv
variable{CJ:Addr}{D:C4}
theorem jv{D':C4}(F:Ae P w K mg base Bn k CJ fd ps (spT ⟨P,w,K,ob⟩ n D))(h:∀c xs P,D' c xs P->D c xs P):Ae P w K mg base Bn k CJ fd ps (spT ⟨P,w,K,ob⟩ n D') :=
 F.imp λvs H Q E q=>by
  obtain⟨F,a,l,c,xs,P,a1,a2,a3,a4,a5,a6,a7⟩:=q
  exact⟨F,a,l,c,xs,P,a1,a2,a3,a4,a5,h _ _ _ a6,a7⟩
def BD(D:C4)(j:Nat)(fa:WA):WE:=λenv P=>fa env λxs e=>match e[j]? with
 |some (some ⟨2,c⟩)=>D c xs λr c'=>P r (e.set j (some ⟨2,c'⟩))
 |some (some ⟨4,c⟩)=>D c xs λr c'=>P r (e.set j (some ⟨4,c'⟩))
 |_=>False
variable{X:Cx}{DO:C4}{p pos:Pos}{e:Expr}{es:List Expr}{fa:WA}
theorem ve(j:Nat)(F:Ae X.prog X.w X.K X.mg X.base Bn k CJ fd ps (spT (md ob X) n DO))(hr:AB k X.A)(hm:X.mg x=some (.ref CJ))(hk:abM X.K (.ref CJ)=true)(hb:Binds X.K fd ps [])(ha:FQ ob X (e::es) fa)(hn:es.length+1=n:=by rfl)(hg:Gl X x:=by rfl)
  (C1:(x==("__debug__" : Str))=false:=by decide) (he:aam (e::es) X.env=(false,eval e X.env)::aam es X.env:=by rfl) (A5:(backTo pos (aam es X.env)).any (·.1)=false:=by rfl) :
  Am ob X (.Call (.Name x p) (e::es) [] pos) (BD DO j fa):=by
 obtain⟨t,ht,kt⟩:=ha.ex
 refine⟨_,jh (E:=E0) F hr hg hm hk hb .nil Fv ht C1 he A5,λZ F σ H env P Q K hf kk=>?_⟩
 refine kt Z F σ H env _ _ K hf λxs e1 vs F1 H1 p hl s1 K1 r1=>?_
 show spT (md ob X) n DO (vs++[]) H1 Q E0
 rw[aby]
 have fin:∀(kd:Nat) (c:PV),kd=2\/kd=4->e1[j]?=some (some ⟨kd,c⟩)->DO c xs (λr c'=>P r (e1.set j (some ⟨kd,c'⟩)))->spT (md ob X) n DO vs H1 Q E0:=λkd c Jz ei p=>by
  obtain⟨fp,L⟩:=K1.sl
  obtain⟨v0,G3,ok⟩:=L.at' j _ ei
  rcases ok with ⟨k0,_⟩|⟨k0,_⟩|⟨_,a,rfl,_,ho⟩|⟨k0,_⟩
  ·rcases Jz with rfl|rfl<;>cases k0
  ·rcases Jz with rfl|rfl<;>cases k0
  ·refine⟨F1,a,fp j,c,xs,_,K1.sF,r1,by rw[hl];exact hn,ho,λb hb=>L.al j b hb,p,λr c' v F' H' l' pr kp pre sF Jk nw DN FX NA rv=>?_⟩
   exact kk r _ v F' H' pr (aj s1 sF) (K1.Ld Jz L ei G3 kp pre sF Jk nw DN FX NA).1 rv
  ·rcases Jz with rfl|rfl<;>cases k0
 split at p
 ·rename_i ei;exact fin _ _ (.inl rfl) ei p
 ·rename_i ei;exact fin _ _ (.inr rfl) ei p
 ·exact p.elim
end Q
namespace Q
open PySem L2 PyProof.Rows PySem.W
def GJ(j i:Nat)(lq:Str)(ln co:Nat)(T:Addr)(f:WE):WE:=λenv P=>f env λx e=>match x,e[i]?,e[j]? with
 |.tup ys,some (some ⟨0,.Av kvs⟩),some (some ⟨2,c⟩)=>∃(ss:List Str) (ks:List (Int×Str)),c=CG lq ln co T/\ys.mapM Bo=some ss/\ss.length<64/\ks.length=ss.length/\(ks.map (·.2)).Nodup /\
  (∀m,m<ss.length->A4 kvs (aao (ss.getD m ⟨#[]⟩))=some (.tup [.int (ks.getD m k0).1,.str (ks.getD m k0).2]))/\∀ix,JK ks ss.length ix->P (.lst (ix.map λm=>.str (ss.getD m ⟨#[]⟩))) e
 |_,_,_=>False
variable{p:Pos}
theorem jR{q:Pos}(h1:p.line=q.line)(h2:p.col=q.col)(l:List Value):act p l=act q l:=by
 fun_induction act p l with
 |case1 line t col u c rest h=>rw[act,<- h1,<- h2,if_pos h]
 |case2 line t col u c rest h ih=>rw[act,<- h1,<- h2,if_neg h];exact ih
 |case3 l h=> 
  unfold act
  split
  ·rename_i a b c d e f
   exact absurd rfl (h _ _ _ _ _ _)
  ·rfl
variable{α:Type}
theorem t9{l:List α}{j:Nat}{y:α}(h:l[j]?=some y):l.set j y=l:=by
 apply abK
 intro i
 by_cases z:j=i
 ·subst z
  rw[ab6 (List.getElem?_eq_some_iff.mp h).1,h]
 ·rw[aaE z]
variable{a b:Addr}
theorem wf{lq OD:Str}{ln P5 co Q9:Nat}(h:CG lq ln co a=CG OD P5 Q9 b):lq=OD/\ln=P5/\co=Q9/\a=b:=by
 unfold CG at h
 injection h with h
 injection h with h1 h
 injection h with h2 h
 injection h with h3 h
 injection h with h4 _
 injection h1 with h1
 injection h2 with h2
 injection h3 with h3
 injection h4 with h4
 exact⟨h1,by omega,by omega,by exact Int.ofNat.inj h4⟩
variable{X:Cx}{lq d x:Str}{Al p1 p2 p3 Hi pos:Pos}{T c:Addr}{params:Arguments}{scope:Scope}{e:Expr}{f:WE}{i j k:Nat}{ob:BG}
theorem vb(j i:Nat)(S:Hd x d params scope)(S2:Hf d params scope)(hr:AB k X.A)(hg:Gl X "sorted")(hm:X.mg "sorted" = none)(hq:X.env.qual ++ "<lambda>" = lq)(EH:X.env.code=.ref c)(hC:abT X.K c T=true)(hB:BMain X.mg X.base)
  (hi:X.N[i]?=some d) (hd:X.env.kindOf d=some .cell) (hv:GN X.env.scope d) (ha:Am ob X e f) (Lp:ob=EX X.K:=by rfl)
  (hs:aam [e] X.env=(false,eval e X.env)::aam [] X.env:=by rfl)
  (h1:backTo pos (aam [e] X.env)=(false,eval e X.env)::backTo pos (aam [] X.env):=by rfl) (h2:(backTo pos (aam [e] X.env)).any (·.1)=false:=by rfl) :
  GS ob X (.Call (.Name "sorted" p) [e] [⟨some "key",.Lambda params (.Subscript (.Name d p1) (.Name x p2) p3) scope Al,Hi⟩] pos) (GJ j i lq Al.line Al.col T f):=by
 subst Lp
 obtain⟨te,TL,Tq⟩:=ha.ex
 refine⟨_,ul (i:=i) S S2 hr hg hm hq EH hC hB hi hd hv TL hs h1 h2,λZ F σ H env Pp Q K hf kk=>?_⟩
 refine Tq Z F σ H env _ _ K hf λy e1 v F1 H1 p s1 K1 r1=>?_
 split at p
 case h_2=>exact p.elim
 rename_i ys kvs cc ei ej
 obtain⟨ss,ks,rfl,TN,Ck,l2,nd,Qn,p⟩:=p
 cases r1 with
 |tup hl TX=>
 have:=cF gb TN TX
 subst this
 obtain⟨fp,L⟩:=K1.sl
 obtain⟨vr,hσ,Tf⟩:=L.at' i _ ei
 obtain⟨dd,JO,rfl,NJ,rk⟩:∃dd JO,vr=.ref dd/\F1 dd=some (.dK JO)/\zK X.K F1 JO kvs:=by
  rcases Tf with ⟨_,_,r⟩|⟨q,_⟩|⟨q,_⟩|⟨q,_⟩
  ·cases r with
   |Av a b=>exact⟨_,_,rfl,a,b⟩
  ·cases q
  ·rcases q with q|q<;>cases q
  ·cases q
 obtain⟨vt,hσt,Te⟩:=L.at' j _ ej
 obtain⟨rfl,ps,Il,Ik,RT⟩:vt=.ref T/\∃ps:Array Value,H1 T=some (BJ T ps)/\TriplesOk ps.toList/\((fp j=[T]/\act Al ps.toList=none)\/∃c',c'≠T/\fp j=[T,c']/\act Al ps.toList=some (.ref c')/\H1 c'=some (BL c' lq)):=by
  rcases Te with ⟨q,_⟩|⟨q,_⟩|⟨_,a,rfl,_,ho⟩|⟨q,_⟩
  ·cases q
  ·cases q
  ·rcases ho with (⟨q,_⟩|⟨_,_,q,_⟩)|⟨_,q,_⟩|⟨OD,ln,co,ps,q,t1,t2,t3⟩
   ·cases q
   ·cases q
   ·cases q
   ·obtain⟨rfl,e2,e3,rfl⟩:=wf q
    refine⟨rfl,ps,t1,t2,?_⟩
    have ec:∀l,act ⟨ln,co,0,0⟩ l=act Al l:=jR e2.symm e3.symm
    rcases t3 with ⟨g1,g2⟩|⟨c',g1,g2,g3,g4⟩
    ·exact .inl ⟨g1,(ec _).symm.trans g2⟩
    ·exact .inr ⟨c',g1,g2,(ec _).symm.trans g3,g4⟩
  ·cases q
 have QS:T∈fp j:=by
  rcases RT with ⟨q,_⟩|⟨_,_,q,_⟩<;>rw[q]<;>simp
 have Sd:F1 T=none:=(L.al j T QS).2
 have ex:∀m:Nat,∃a:Addr,m<ss.length->B0 JO (aao (ss.getD m ⟨#[]⟩))=some (.ref a)/\AW X.K F1 a [.int (ks.getD m k0).1,.str (ks.getD m k0).2]:=λm=>by
  by_cases hm:m<ss.length
  ·have hv:=Qn m hm
   rcases rk.val (k:=aao (ss.getD m ⟨#[]⟩))with ⟨_,q⟩|⟨v,x,q1,q2,q3⟩
   ·rw[q]at hv;cases hv
   ·rw[hv]at q2;cases q2
    cases q3 with
    |tup g1 g2=>
     cases g2 with
     |cons g2 g3=>cases g3 with
      |cons g3 g4=>cases g4;cases g2;cases g3;exact⟨_,λ_=>⟨q1,g1⟩⟩
  ·exact⟨0,λh=>absurd h hm⟩
 obtain⟨g,R4⟩:=Classical.axiomOfChoice ex
 have Vm:∀m,m<ss.length->((aaM ss.length).map g).getD m 0=g m:=λm hm=>by
  rw[aae,aal,abJ hm];rfl
 refine⟨_,ss,dd,JO,(aaM ss.length).map g,ks,rfl,aw K1.sF hl,Ck,hσ,K1.sF _ _ NJ,by simp,l2,nd,λm hm=>?_,ps,Il,Ik,?_⟩
 ·rw[Vm m hm]
  exact⟨(R4 m hm).1,aw K1.sF (R4 m hm).2⟩
 have MH:∀ix:List Nat,zL X.K F1 (ix.map λm=>V.str (ss.getD m ⟨#[]⟩)) (ix.map λm=>PV.str (ss.getD m ⟨#[]⟩)):=λix=>by
  induction ix with
  |nil=>exact .nil
  |cons a r ih=>exact .cons (.str _) ih
 rcases RT with ⟨Uq,J7⟩|⟨c',Bu,Uq,Nw,Lz⟩
 ·refine .inl ⟨J7,λc' f' ob a1 a2 a3 a4 a5 _ D ix hD ok=>?_⟩
  have old:∀b o,H1 b=some o->b≠T->(upd (upd (upd H1 T (BJ T (ps++#[rawInt Al.line,rawInt Al.col,.ref c']))) c' (BL c' lq)) f' (DG f' ob)) b=some o:=λb o hb QM=>by
   rw[ak (aA hb a2),ak (aA hb a1),ak QM];exact hb
  have eT:(upd (upd (upd H1 T (BJ T (ps++#[rawInt Al.line,rawInt Al.col,.ref c']))) c' (BL c' lq)) f' (DG f' ob)) T=some (BJ T (ps++#[rawInt Al.line,rawInt Al.col,.ref c'])):=by
   rw[ak (abG a5),ak (abG a4),ao]
  have eC:(upd (upd (upd H1 T (BJ T (ps++#[rawInt Al.line,rawInt Al.col,.ref c']))) c' (BL c' lq)) f' (DG f' ob)) c'=some (BL c' lq):=by
   rw[ak a3,ao]
  generalize (upd (upd (upd H1 T (BJ T (ps++#[rawInt Al.line,rawInt Al.col,.ref c']))) c' (BL c' lq)) f' (DG f' ob))=H2 at hD old eT eC ⊢
  have tl:(ps++#[rawInt Al.line,rawInt Al.col,aar c']).toList=ps.toList++[rawInt Al.line,rawInt Al.col,aar c']:=by simp
  have K2:=(K1.Ld (.inl rfl) L ej hσt (l':=[T,c']) (F':=F1) (H':=H2) (c':=CG lq Al.line Al.col T) (λb o hb hn=>old b o hb λz=>hn (z ▸ QS)) (λb hb=>?_) aq (λb o hb=>old b o (K1.sF b o hb) λz=>by rw[z,Sd]at hb;cases hb) (λb hb=>.inl hb)
   (.inr (.inr ⟨lq,Al.line,Al.col,_,rfl,eT,by rw[tl];exact TriplesOk_snoc _ _ _ _ Ik,.inr ⟨c',a4,rfl,by rw[tl];exact(jR (p:=⟨Al.line,Al.col,0,0⟩) (q:=Al) rfl rfl _).trans (codeAmong_snoc _ Ik J7),eC⟩⟩)) (λb hb=>?_) (λb hb=>?_)).1
  ·rw[t9 ej]at K2
   exact kk _ e1 _ F1 _ (p ix ok) s1 (λ_=>by simp) (K2.own hD ⟨_,ao,MH ix⟩)
  ·by_cases z:b=T
   ·rw[z,eT];simp
   ·obtain⟨o,ho⟩:=dH hb
    rw[old b o ho z];simp
  ·rcases List.mem_cons.mp hb with rfl|hb
   ·exact⟨by rw[eT];simp,Sd⟩
   ·rw[List.mem_singleton.mp hb]
    exact⟨by rw[eC];simp,eQ.none_of K1.sF a1⟩
  ·rcases List.mem_cons.mp hb with rfl|hb
   ·exact .inl QS
   ·rw[List.mem_singleton.mp hb];exact .inr a1
 ·refine .inr ⟨c',Nw,Lz,λf' ob a1 _ D ix hD ok=>?_⟩
  have sH:eQ H1 (upd H1 f' (DG f' ob)):=az a1
  have K2:=K1.move aq (aj K1.sF sH) sH λ_ h=>.inl h
  exact kk _ e1 _ F1 _ (p ix ok) s1 (λ_=>by simp) (K2.own hD ⟨_,ao,MH ix⟩)
end Q
namespace L2
open PySem PySem.Spec PyProof.Rows
variable{P:aaI}{w:World}{K:aah}{mg:Str->Option Value}{k:Nat}{a T:Addr}{fd:abR}{x:Str}{sp:Sp}{vs:List Value}
theorem sE{mb:Str->Option Value}{fa c:Addr}{s₁:Shared}{ns:List Int}
  (KX:K.In s₁.heap) (J6:s₁.heap.Ns aaJ mg) (hb:s₁.heap.Ns afb mb) (Uv:∀x:Str,x ≠ "__name__" -> mb x=acm x) (Lq:s₁.heap.NoLimit) (hg:s₁.gens=#[])
  (ha:s₁.heap.get? a=some {cls:=.type "list",data:=.seq vs.toArray}) (hi:IntsAre vs ns) (hl:ns.length<=sizeLine) (hr:AB k afG) (hC:abT K c T=true) (hT:s₁.heap.get? T=some (adM #[])) (hKT:K.lookup T=none) (hB:BMain mg s₁.heap)
  (F:∀base:Heap,K.In base->base.Ns aaJ mg->BMain mg base->Ae P w K mg base Bn k fa fd [x] sp) (NL:∀(s:Shared) (u:Value),BindsTo s fd ⟨[u],[]⟩ [(x,u)])
  (IT:∀H:Hp,Bs K H a (ns.map V.int)->H T=some (BJ T #[])->sp [.ref a] H (λv H'=>v=.bl true/\∃ps,H' T=some (BJ T ps)) λ_ _ _=>False) :
  ad5 (model P w) afG (.call (.ref fa) ⟨[.ref a],[]⟩) (λr s'=>r=.ok (.ret (.bool true))/\OldK s₁.heap s'.heap/\s'.os=s₁.os/\aeS s'.gens) s₁:=by
 have rv:=mS hi
 have P6:=hi.length
 have R7:a≠T:=λz=>by rw[z,hT]at ha;cases ha
 have core:∀H:Hp,(∀b,H b=none\/(∃o xs,H b=some (.CB o (.lst xs)))\/b=T)->Bs K H a (ns.map V.int)->H T=some (BJ T #[])->CD P w H s₁.heap->(∀b,H b≠none->b=a\/b=T)->(H a≠none->K.lookup a=none) ->
   ad5 (model P w) afG (.call (.ref fa) ⟨[.ref a],[]⟩) (λr s'=>r=.ok (.ret (.bool true))/\OldK s₁.heap s'.heap/\s'.os=s₁.os/\aeS s'.gens) s₁:=by
  intro H hO hS QU zY hA hK
  have Fc:∀{b:Addr} {o:Obj},s₁.heap.get? b=some o->H b=none->(EA s₁.heap H).get? b=some o:=λe n=>uV e n
  have plain:∀{b:Addr} {o:Obj},s₁.heap.get? b=some o->o≠{cls:=.type "list",data:=.seq vs.toArray}->o≠adM #[]->H b=none:=λ{b o} e n1 n2=>by
   cases q:H b with
   |none=>rfl
   |some u=>
    rcases hA b (by rw[q];simp)with z|z
    ·rw[z,ha]at e;cases e;exact absurd rfl n1
    ·rw[z,hT]at e;cases e;exact absurd rfl n2
  have M4:∀{b:Addr} {o:Obj} {es:Array DictEntry} {ep:Nat},s₁.heap.get? b=some o->o.data=.dict es ep->H b=none:=λ{b o es ep} e d=>plain e (λz=>by rw[z]at d;cases d) (λz=>by rw[z]at d;cases d)
  have OB:∀{b:Addr} {m:Str->Option Value},s₁.heap.Ns b m->(EA s₁.heap H).Ns b m:=λ{b m} ⟨o,es,ep,e,d,r⟩=>⟨o,es,ep,Fc e (M4 e d),d,r⟩
  have Sb:K.In (EA s₁.heap H):=λb o e=>Fc (KX b o e) (by
   cases q:H b with
   |none=>rfl
   |some u=>
    rcases hA b (by rw[q];simp)with z|z
    ·subst z
     rw[hK (by rw[q];simp)]at e;cases e
    ·rw[z,hKT]at e;cases e)
  have UH:BMain mg (EA s₁.heap H):=by
   obtain⟨bm,o,b1,b2,b3,b4,b5,b6⟩:=hB.ex
   exact⟨bm,o,b1,b2,Fc b3 (plain b3 (λz=>by rw[z]at b6;cases b6) (λz=>by rw[z]at b6;cases b6)),b4,b5,b6⟩
  have hM:Mod K mg (EA s₁.heap H):=⟨Sb,OB J6,⟨mb,OB hb,Uv⟩,let ⟨mc,h1,h2⟩:=Lq;⟨mc,OB h1,h2⟩⟩
  have e0:JN P w K mg (EA s₁.heap H) afG [] s₁ H:=⟨rfl,hM,λb o e=>wX e,afo (sQ _ _),trivial,λb hb=>absurd (show b∈([]:List Addr)from hb) (by simp),zY,.of_eq hg⟩
  refine adH ((F _ Sb (OB J6) UH).run afG [] s₁ H ⟨[.ref a],[]⟩ [.ref a] [.ref a] _ _ hr e0 (NL s₁ (.ref a)) (.cons rfl .nil) (IT H hS QU)) λr s' h=>?_
  cases r with
  |error e=>exact(show False from h).elim
  |ok fl=>
   cases fl with
   |next=>exact ac0 h
   |brk=>exact ac0 h
   |cont=>exact ac0 h
   |ret u=>
    obtain⟨v,H',os,bare,un,Ip,r',q,ps,OO⟩:=h
    subst q
    obtain rfl:u=Value.bool true:=r'
    have gT:s'.heap.get? T=some (adM ps):=(Ip T _ OO).1
    have keep:∀b o,s₁.heap.get? b=some o->b≠T->s'.heap.get? b=some o:=λb o e QM=>by
     cases q:H b with
     |none=>exact un.keep b o e q (by intro z;exact absurd (show b∈([]:List Addr)from z) (by simp)) (by simp)
     |some u=>
      rcases hO b with z|⟨ob,xs,z⟩|z
      ·rw[q]at z;cases z
      ·have z2:=un.E3 b ob _ z
       obtain⟨e1,_⟩:=zY b _ z
       obtain⟨e2,_⟩:=Ip b _ z2
       rw[e]at e1;cases e1
       exact e2
      ·exact absurd z QM
    have C:=PySem.W.codeHd_of_K KX hC
    refine⟨rfl,⟨λb o e=>?_,λb o e=>?_⟩,os,bare⟩
    ·by_cases z:b=T
     ·subst z
      rw[hT]at e;cases e
      exact .inr (.inl ⟨(C.tab hT).isCodeTable,rfl,#[],ps,rfl,by rw[Array.empty_append];exact gT⟩)
     ·exact .inl (keep b o e z)
    ·by_cases z:b=T
     ·subst z;exact⟨_,gT⟩
     ·exact⟨o,keep b o e z⟩
 cases hk:K.lookup a with
 |some o=>
  have e:=KX a o hk
  rw[ha]at e
  cases e
  refine core (λb=>if b=T then some (BJ T #[])else none) (λb=>?_) (.inr ⟨_,vs.toArray,_,hk,rfl,rfl,rfl,by rw[aag,P6];exact hl,by simpa using rv⟩) (if_pos rfl) (λb u z=>?_) (λb z=>?_) λz=>absurd (if_neg R7) z
  ·by_cases hb:b=T
   ·exact .inr (.inr hb)
   ·exact .inl (if_neg hb)
  ·by_cases hb:b=T
   ·have z':=(if_pos hb).symm.trans z
    cases z'
    subst hb
    exact nY hT
   ·have z':=(if_neg hb).symm.trans z
    cases z'
  ·by_cases hb:b=T
   ·exact .inr hb
   ·exact absurd (if_neg hb) z
 |none=>
  refine core (λb=>if b=T then some (BJ T #[])else if b=a then some (.CB {cls:=.type "list",data:=.seq vs.toArray} (.lst (ns.map V.int)))else none) (λb=>?_) (.inl (.inr ⟨{cls:=.type "list",data:=.seq vs.toArray},(if_neg R7).trans (if_pos rfl)⟩)) (if_pos rfl) (λb u z=>?_) (λb z=>?_) λ_=>hk
  ·by_cases hb:b=T
   ·exact .inr (.inr hb)
   ·by_cases JA:b=a
    ·exact .inr (.inl ⟨_,_,(if_neg hb).trans (if_pos JA)⟩)
    ·exact .inl ((if_neg hb).trans (if_neg JA))
  ·by_cases hb:b=T
   ·have z':=(if_pos hb).symm.trans z
    cases z'
    subst hb
    exact nY hT
   ·have z:=(if_neg hb).symm.trans z
    by_cases JA:b=a
    ·have z:=(if_pos JA).symm.trans z
     cases z
     subst JA
     exact⟨ha,by rw[aad];exact hl,vs,_,rv,ha⟩
    ·have z:=(if_neg JA).symm.trans z
     cases z
  ·by_cases hb:b=T
   ·exact .inr hb
   ·by_cases JA:b=a
    ·exact .inl JA
    ·exact absurd ((if_neg hb).trans (if_neg JA)) z
variable{n:Nat}
theorem tX{l:afL}{q:aaI}{loose:List Str}{XP:(Str->Option Value)->Heap->Prop}{YP:World->Heap->Prop}{d:DefRec}{K:Params->aah}{sp:World->Sp}
  (hn:l.most=some n) (Nz:n<=sizeLine) (NI:d.params.defaults=[]) (hr:AB k afG)
  (hY:∀(w:World) (h:Heap),YP w h->(K w.params).In h/\h.get? T=some (adM #[])) (hKT:∀w:World,(K w.params).lookup T=none)
  (F:∀(w:World) (mg:Str->Option Value) (fa:Addr) (h:Heap),(K w.params).In h->h.Ns aaJ mg->mg d.name=some (.ref fa) ->
   ∃fd:abR,(∀(s:Shared) (u:Value),BindsTo s fd ⟨[u],[]⟩ [(x,u)])/\(∃c,abT (K w.params) c T=true) /\
    ∀base:Heap,(K w.params).In base->base.Ns aaJ mg->BMain mg base->Ae l.prog w (K w.params) mg base Bn k fa fd [x] (sp w))
  (IT:∀(w:World) (H:Hp) (a:Addr) (ns:List Int),ns.length<=n->Bs (K w.params) H a (ns.map V.int)->H T=some (BJ T #[])->sp w [.ref a] H (λv H'=>v=.bl true/\∃ps,H' T=some (BJ T ps)) λ_ _ _=>False) :
  PySem.W.WalkO q loose XP YP l.row.toRowW d [] (λf vs=>PySem.call f vs):=by
 refine Att.FN hn NI λw s₀ s₁ mg mb fa o pm cd doc a vs ns G Y ho hd hcd hmg Lo hints hlen hg=>?_
 obtain⟨KX,hT⟩:=hY w _ Y
 obtain⟨fd,hb,⟨c,hC⟩,hF⟩:=F w mg fa _ KX G.T.g hmg
 have hB:BMain mg s₁.heap:=by
  obtain⟨bm,ob,b1,b2,b3,b4,b5,b6⟩:=G.T.bmain
  exact⟨bm,ob,b1,b2,b3,b4,b5,b6⟩
 exact sE KX G.T.g G.T.b G.T.builtins G.T.nolimit hg Lo hints (aa2 hlen Nz) hr hC hT (hKT w) hB hF hb (λH hS QU=>IT w H a ns hlen hS QU)
end L2
namespace Q
open PySem L2 PyProof.Rows
def DS(K:aah)(T:Addr):Sp:=λvs H Q _=>∃(a:Addr) (ns:List Int),vs=[.ref a]/\Bs K H a (ns.map V.int)/\ns.length<=63/\H T=some (BJ T #[])/\∀(H':Hp) (ps:Array Value),H' T=some (BJ T ps)->Q (.bl true) H'
variable{P:aaI}{w:World}{K:aah}{mg:Str->Option Value}{base:Heap}{D:C4}{k:Nat}{CJ:Addr}{fd:abR}{ps:List Str}
theorem xg{T:Addr}{lq:Str}{ln co:Nat}(F:Ae P w K mg base Bn k CJ fd ps (spT ⟨P,w,K,EX K⟩ 1 D))
  (h:∀(ns:List Int) (x:PV),ns.length<=63->(x=.BH ns\/x=.lst (ns.map .int))->D (CG lq ln co T) [x] λr c=>r=.bl true/\c=CG lq ln co T):Ae P w K mg base Bn k CJ fd ps (DS K T):=by
 refine F.imp λvs H Q E q=>?_
 obtain⟨a,ns,rfl,hs,hn,hT,kq⟩:=q
 let F0:Hp:=λb=>if b=T then none else H b
 have sF:eQ F0 H:=λb o e=>by
  by_cases z:b=T
  ·have:=(if_pos z).symm.trans e;cases this
  ·exact(if_neg z).symm.trans e
 have f0:∀b o,H b=some o->b≠T->F0 b=some o:=λb o e z=>(if_neg z).trans e
 have fin:∀x,(x=.BH ns\/x=.lst (ns.map .int))->Rep K F0 (.ref a) x->spT ⟨P,w,K,EX K⟩ 1 D [.ref a] H Q E:=λx hx r=>
  ⟨F0,T,[T],CG lq ln co T,[x],_,sF,.cons r .nil,rfl,.inr (.inr ⟨lq,ln,co,#[],rfl,hT,trivial,.inl ⟨rfl,rfl⟩⟩),λb hb=>by rw[List.mem_singleton.mp hb];exact⟨by rw[hT];simp,if_pos rfl⟩,h ns x hn hx,λr c' v F' H' l' e _ _ _ _ _ ho _ _ rv=>by
   obtain⟨rfl,rfl⟩:=e
   cases rv
   rcases ho with (⟨q,_⟩|⟨_,_,q,_⟩)|⟨_,q,_⟩|⟨OD,P5,Q9,MU,q,t1,_⟩
   ·cases q
   ·cases q
   ·cases q
   ·exact kq H' MU t1⟩
 rcases hs with (hs|⟨o,hs⟩)|hs
 ·exact fin _ (.inr rfl) (.lst (f0 _ _ hs λz=>by rw[z,hT]at hs;cases hs) (fB ns))
 ·exact fin _ (.inl rfl) (.BH (.inl ⟨o,f0 _ _ hs λz=>by rw[z,hT]at hs;cases hs⟩))
 ·exact fin _ (.inl rfl) (.BH (.inr hs))
end Q
namespace L2
open PySem PySem.Spec PyProof.Rows
variable{X:Cx}{pins:List (Addr×Obj)}{σ:St}{H:Hp}{s:Shared}{d:Addr}{kvs:List (Key×V)}{o:Obj}
theorem Inv.KH(I:Inv X pins σ H s)(e:H d=some (.dK kvs))(ho:s.heap.get? d=some o):Inv X pins σ (upd H d (.CB o (.dK kvs))) s:=by
 have un:Un X.fs [] H (upd H d (.CB o (.dK kvs))) s.heap s.heap:=by
  refine⟨λb u q n _ _=>q,λb u q n _ _=>⟨u.slots,q⟩,λb u q n _=>?_,λb u q _=>⟨u,q⟩,λb xs q=>?_,λb u v q=>?_,λb qs q=>⟨#[],?_⟩⟩
  ·rw[ak (λz=>by rw[z,e]at n;cases n)];exact n
  ·rw[ak (λz=>by rw[z,e]at q;cases q)];exact q
  ·rw[ak (λz=>by rw[z,e]at q;cases q)];exact q
  ·rw[ak (λz=>by rw[z,e]at q;cases q),q];simp
 have zY:CD X.prog X.w (upd H d (.CB o (.dK kvs))) s.heap:=λb u q=>by
  have st:∀c v,H c=some v->Af X.prog X.w (upd H d (.CB o (.dK kvs))) s.heap c v:=λc v hc=>
   (I.zY c v hc).ET (λ_ _ _ g=>g) (λx hx=>by rw[ak (λz=>by rw[z,e]at hx;cases hx)];exact hx) λx xs hx=>by rw[ak (λz=>by rw[z,e]at hx;cases hx)];exact hx
  by_cases z:b=d
  ·subst z
   rw[ao]at q;cases q
   exact⟨ho,st b _ e⟩
  ·rw[ak z]at q
   exact st b u q
 have:=I.un (t':=s.toks) un zY
 exact this
def Rm(d:Addr)(o:Obj)(kvs:List (Key×V)):It :=
 ⟨λi H=>H d=some (.CB o (.dK kvs))/\i<kvs.length,
  λi H v H'=>∃p k x,v=.ref p/\H p=none/\H'=upd H p (.tup [kV k,x])/\kvs[i]?=some (k,x),
  λi H=>H d=some (.CB o (.dK kvs))/\kvs.length<=i⟩
variable{vs:List (Key×Value)}
theorem yH(r:KV kvs vs):∀{i:Nat} {k:Key} {x:V},kvs[i]?=some (k,x)->∃u,vs[i]?=some (k,u)/\RelV x u:=by
 induction r with
 |nil=>intro i k x e;simp at e
 |@cons p q ps qs h t ih=>
  intro i k x e
  cases i with
  |zero=>
   simp only[acs,afe]at e
   subst e
   obtain⟨k',u⟩:=q
   obtain⟨h1,h2⟩:=h
   dsimp only at h1 h2
   subst h1
   exact⟨u,rfl,h2⟩
  |succ i=>
   simp only[ac9]at e ⊢
   exact ih e
variable{P:aaI}{w:World}{K:aah}{elts:List Expr}{pos:Pos}{it:Addr}{ep:Nat}
theorem qJ{x1:_}{es:Array DictEntry}(r:KV kvs vs)(hx:o.ExactDict)(Gs:o.data=.dict es ep)(hk:KeysOf (aN P w) es)(hp:Pairs (aN P w) es.toList vs)(hn:(vs.map (·.1)).Nodup):
  Turn P w K (.Tuple elts x1 pos) (Rm d o kvs) [it] it (λn h=>∃a b,IsItemIter h it d n vs.length ep a b) where
 mem:=by simp
 obj:=λn h ⟨a,b,Z⟩ c hc=>by
  rw[List.mem_singleton.mp hc]
  exact⟨_,Z,λv e=>by cases (show Data.fields _=afQ v from e)⟩
 keep:=λn h h' ⟨a,b,Z⟩ k=>⟨a,b,k it (by simp) _ Z⟩
 item:=by
  intro X hP hw hK hc n pins s σ H E I hf Z hg
  subst hP hw hK
  obtain⟨ka,kb,Z⟩:=Z
  obtain⟨hd,AV⟩:=hg
  have ho:s.heap.get? d=some o:=(I.zY d _ hd).1
  have D:s.heap.DictAt (aN X.prog X.w) d vs ep:=⟨o,es,ho,hx,Gs,hk,hp,hn⟩
  obtain⟨⟨k,x⟩,OL⟩:∃q,kvs[n]?=some q:=⟨_,aab AV⟩
  obtain⟨u,hu,ru⟩:=yH r OL
  have EG:H s.heap.objs.size=none:=I.zY.fresh (aak _)
  have NG:it<s.heap.objs.size:=aaj Z
  have T6:s.heap.objs.size≠it:=abZ NG
  refine wpAny_pyNext_items_item Z D hu λkey h' q1 q2 q3 q4 kk=>?_
  have rk:RelV (kV k) key:=by
   rcases bg q1 with ⟨i,t,rfl,rfl⟩|⟨y,t,rfl,rfl⟩
   ·exact⟨t,rfl⟩
   ·exact⟨t,rfl⟩
  refine⟨_,rfl,wpAny_letOwnedTupleGo_items (s:={s with heap:=h'}) q2 λh2 w1 w2=>?_⟩
  have I1:Inv X pins σ (upd H s.heap.objs.size (.tup [kV k,x])) {s with heap:=s.heap.push {cls:=.type "tuple",data:=.seq #[key,u]}} :=
   I.laid (t':=s.toks) (λb u e=>aac _ e) (aak _) ⟨by show 2<=sizeLine;decide,[key,u],.cons rk (.cons ru .nil),⟨_,aai _ rfl,rfl,_,rfl⟩⟩
  have Lx:∀c∈[it],CV X pins (upd H s.heap.objs.size (.tup [kV k,x])) c:=λc hc=>by
   rw[List.mem_singleton.mp hc]
   have:=hf it (by simp)
   exact⟨by rw[ak (abG T6)];exact this.1,this.2⟩
  have I2:Inv X pins σ (upd H s.heap.objs.size (.tup [kV k,x])) {s with heap:=h2}:=by
   refine I1.DJ (t':=s.toks) (h':=h2) (λc q hc e=>?_) Lx
   have ON:c≠it:=λe=>hc (by simp[e])
   refine w2.extBut _ _ ON ?_
   by_cases IW:c=s.heap.objs.size
   ·subst IW
    have:(s.heap.push {cls:=.type "tuple",data:=.seq #[key,u]}).get? s.heap.objs.size=some {cls:=.type "tuple",data:=.seq #[key,u]}:=aai _ rfl
    have e':some {cls:=.type "tuple",data:=.seq #[key,u]}=some q:=this.symm.trans e
    rw[<- e'];exact q3
   ·exact kk c q ON ((Heap.get?_push_ne _ _ _ IW).symm.trans e)
  exact⟨.ref s.heap.objs.size,_,I2,rfl,⟨_,k,x,rfl,EG,rfl,OL⟩,⟨_,_,w1⟩,λc hc=>(Lx c hc).1⟩
 done:=by
  intro X hP hw hK hc n pins s σ H E I hf Z hg
  subst hP hw hK
  obtain⟨ka,kb,Z⟩:=Z
  obtain⟨hd,hle⟩:=hg
  have ho:s.heap.get? d=some o:=(I.zY d _ hd).1
  have D:s.heap.DictAt (aN X.prog X.w) d vs ep:=⟨o,es,ho,hx,Gs,hk,hp,hn⟩
  have hl:=r.length
  refine wpAny_pyNext_items_end (I.ok.hd hc) Z D (aan (by omega)) λh' kk=>⟨rfl,I.DJ (t':=s.toks) (λc q hc e=>kk c q (λz=>hc (by simp[z])) e) hf⟩
 self:=λ_ _ _ _ _ ⟨_,_,Z⟩ h=>PySem.W.kcp_self Z h
def Ll(to:TE):TI:=λσ H R=>to σ H λv H1=>∃d kvs,v=.ref d/\H1 d=some (.dK kvs)/\∀o,R (Rm d o kvs) (upd H1 d (.CB o (.dK kvs)))
variable{to:TE}
theorem uk{x1:_}{ER:Pos}{o:Expr}{apos:Pos}(ho:PE X o to)
  (Bz:acr o "items" X.env (eval o X.env)=eval o X.env:=by rfl) (By:(apos.endLine==pos.line)=true:=by rfl) :
  PI X (.Tuple elts x1 ER) (.Call (.Attribute o "items" apos) [] [] pos) (Ll to):=by
 intro pins s σ H R I h
 refine wpAny_Call_method0_late Bz By (Aw (ho pins s σ H _ I h) λv s1 ⟨x,H1,I1,r1,q1⟩=>?_)
 obtain⟨d,kvs,ex,hd,q1⟩:=q1
 subst ex
 cases r1
 obtain⟨t1,t2,t3⟩:=oO I1 (.inl ⟨kvs,.inl hd⟩)
 refine⟨"dict", "dict.items",ad7,PySem.F.slot_dict_items,PySem.F.type_dict_items,t1,t2,ade rfl (PySem.evalArgs_none ?_)⟩
 obtain⟨hz,_,vs,rel,dd⟩:=hU I1.zY hd
 refine call_meetsIn PySem.F.slot_dict_items dd.typeIs PySem.F.entry_dict_items (PySem.F.args_dict_items_1 _) (meets_dict_items (aN X.prog X.w) d t3) ⟨⟨vs,dd⟩,?_⟩
 obtain⟨o,es,ep,ho,hx,Gs,hk,hp,hn⟩:=dd
 have D:s1.heap.DictAt (aN X.prog X.w) d vs ep:=⟨o,es,ho,hx,Gs,hk,hp,hn⟩
 refine wpAny_pyIter_items (s:={s1 with heap:=s1.heap.push {cls:=.type "dict_items",data:=.fields #[.ref d]}}) (v:=s1.heap.objs.size) (d:=d) ⟨_,aai _ rfl,rfl,rfl⟩ (D.push _) ?_
 have I2:Inv X pins σ H1 {s1 with heap:=(s1.heap.push {cls:=.type "dict_items",data:=.fields #[.ref d]}).push {cls:=.type "dict_itemiterator",data:=.fields #[.none,.bool false,.ref d,.int 0 0,.int vs.length 0,.int ep 0,.none,.none]}} :=
  I1.kept (t':=s1.toks) λb u e=>aac _ (aac _ e)
 have I3:=I2.KH hd (o:=o) (aac _ (aac _ ho))
 have hsz:(s1.heap.push {cls:=.type "dict_items",data:=.fields #[.ref d]}).objs.size=s1.heap.objs.size+1:=aa3 ..
 have IU:s1.heap.objs.size<=(s1.heap.push {cls:=.type "dict_items",data:=.fields #[.ref d]}).objs.size:=by omega
 have IV:H1 (s1.heap.push {cls:=.type "dict_items",data:=.fields #[.ref d]}).objs.size=none:=I1.zY.fresh IU
 refine⟨_,[_],_,_,_,rfl,I3,qJ (it:=(s1.heap.push {cls:=.type "dict_items",data:=.fields #[.ref d]}).objs.size) rel hx Gs hk hp hn,⟨_,_,aai _ rfl⟩,λb hb=>?_,q1 o⟩
 rw[List.mem_singleton.mp hb]
 exact I1.GA IU (by rw[ak (λz=>by rw[z,hd]at IV;cases IV)];exact IV)
end L2
namespace Q
open PySem L2 PyProof.Rows
def kP:Key->PV
 |.inl i=>.int i
 |.inr x=>.str x
def Fw(q:Key×PV):PV:=.tup [kP q.1,q.2]
variable{K:aah}{F:Hp}
theorem yP:∀k:Key,Rep K F (kV k) (kP k)
 |.inl i=>.int i
 |.inr x=>.str x
variable{vs:List (Key×V)}{xs:List (Key×PV)}
theorem zK.get(h:zK K F vs xs):∀{i:Nat} {k:Key} {x:PV},xs[i]?=some (k,x)->∃v,vs[i]?=some (k,v)/\Rep K F v x:=by
 induction h using zK.ind with
 |nil=>intro i k x e;simp at e
 |cons a r ih=>
  intro i k x e
  cases i with
  |zero=>
   simp only[acs,afe,Prod.mk.injEq]at e ⊢
   obtain⟨rfl,rfl⟩:=e
   exact⟨_,⟨rfl,rfl⟩,a⟩
  |succ i=>
   simp only[ac9]at e ⊢
   exact ih e
variable{M:Md}
theorem yX{d:Addr}{o:Obj}(h:F d=some (.CB o (.dK vs)))(r:zK M.K F vs xs):Fj M (Rm d o vs) F (xs.map Fw):=by
 refine⟨λZ i σ env F' H x s K e=>?_,λZ i σ env F' H s K hl=>⟨K.sF _ _ (s _ _ h),by rw[r.len];simpa using hl⟩⟩
 rw[aal]at e
 cases ez:xs[i]? with
 |none=>rw[ez]at e;cases e
 |some q=>
  rw[ez]at e
  obtain⟨k,y⟩:=q
  have e:x=Fw (k,y):=(aau e).symm
  subst e
  obtain⟨v,hv,rv⟩:=r.get ez
  refine⟨⟨K.sF _ _ (s _ _ h),(List.getElem?_eq_some_iff.mp hv).1⟩,λv' H' y'=>?_⟩
  obtain⟨p,k',x',rfl,hp,rfl,q⟩:=y'
  rw[hv]at q;cases q
  have hF:F' p=none:=eQ.none_of K.sF hp
  refine⟨upd F' p (.tup [kV k,v]),az hF,K.lay hp,.tup (.inl (.inl ao)) (.cons (yP k) (.cons ((rv.mono s).mono (az hF)) .nil)),az hp,λc hc=>?_⟩
  by_cases z:c=p
  ·subst z;exact .inr hp
  ·rw[ak z]at hc;exact .inl hc
def mt(i:Nat):WA:=λenv P=>match env[i]? with
 |some (some ⟨1,.Av kvs⟩)=>P (kvs.map Fw) (env.set i none)
 |_=>False
variable{Z:Zn}{H:Hp}{σ:L2.St}{env:En}{i:Nat}
theorem zW.KH{kvs:List (Key×PV)}(K:zW M Z F σ H env)(hi:env[i]?=some (some ⟨1,.Av kvs⟩)):
  ∃d vs,σ[i]?=some (some (.ref d))/\H d=some (.dK vs)/\F d=none/\zK M.K F vs kvs/\∀o,zW M Z (upd F d (.CB o (.dK vs))) σ (upd H d (.CB o (.dK vs))) (env.set i none):=by
 obtain⟨fp,L⟩:=K.sl
 obtain⟨v,hv,ok⟩:=L.at' i _ hi
 rcases ok with ⟨e,_⟩|⟨_,d,rfl,hf,h0,vs,hd,rk⟩|⟨e,_⟩|⟨e,_⟩
 ·cases e
 ·have ha:=L.al i d (by rw[hf];simp)
  refine⟨d,vs,hv,hd,ha.2,rk,λo=>?_⟩
  have s1:eQ F (upd F d (.CB o (.dK vs))):=az ha.2
  have ot:∀j b,j≠i->b∈fp j->b≠d:=λj b hj hb z=>L.dj j i b hj hb (by rw[hf,z];simp)
  refine⟨λb u e=>?_,λb u e hb=>?_,λb e=>?_,aj K.gr s1,λb e=>?_,by simp[K.len],λj=>if j=i then []else fp j,λj s h=>?_,λj b h=>?_,λj k b Hz h z=>?_,λj b t e1 e2 e3=>?_⟩
  ·by_cases z:b=d
   ·subst z;rw[ao]at e ⊢;exact e
   ·rw[ak z]at e ⊢;exact K.sF b u e
  ·rw[ak (λz=>by rw[z,h0]at e;cases e)]
   exact K.sG b u e hb
  ·by_cases z:b=d
   ·subst z;rw[ao];simp
   ·rw[ak z];exact K.pr b e
  ·by_cases z:b=d
   ·subst z;exact .inr h0
   ·rw[ak z]at e;exact K.nw b e
  ·by_cases z:j=i
   ·subst z
    rw[abI]at h
    simp only[if_true]at h
    split at h<;>cases h
   ·rw[aaE (abG z)]at h
    rw[if_neg z]
    obtain⟨v,g1,g2⟩:=L.at' j s h
    exact⟨v,g1,g2.mono s1 λc hc=>ak (ot j c z hc)⟩
  ·split at h
   ·simp at h
   ·rename_i z
    have:=L.al j b h
    rw[ak (ot j b z h),ak (ot j b z h)];exact this
  ·split at h
   ·simp at h
   ·split at z
    ·simp at z
    ·exact L.dj j k b Hz h z
  ·by_cases z:j=i
   ·subst z
    rw[abI]at e2
    simp only[if_true]at e2
    split at e2<;>cases e2
   ·rw[aaE (abG z)]at e2
    exact L.oa j b t e1 e2 e3
 ·rcases e with e|e<;>cases e
 ·cases e
variable{ob:BG}{X:Cx}{x:Str}{p:Pos}
theorem tE(i:Nat){apos pos ER:Pos}{elts:List Expr}{x1:_}(ho:PE X (.Name x p) (AR i))
  (Bz:acr (.Name x p) "items" X.env (eval (.Name x p) X.env)=eval (.Name x p) X.env:=by rfl) (By:(apos.endLine==pos.line)=true:=by rfl) :
  Jc ob X (.Tuple elts x1 ER) (.Call (.Attribute (.Name x p) "items" apos) [] [] pos) (mt i):=by
 refine⟨_,uk ho Bz By,λZ F σ H env P R K hf kk=>?_⟩
 unfold mt at hf
 split at hf
 ·rename_i kvs ei
  obtain⟨d,vs,hv,hd,hF,rk,kz⟩:=K.KH ei
  exact⟨_,hv,d,vs,rfl,hd,λo=>kk _ _ _ _ _ hf (az hF) (kz o) (yX ao (rk.mono (az hF)))⟩
 ·exact hf.elim
end Q
namespace L2
open PySem PySem.Spec PyProof.Rows PySem.W
variable{prog:aaI}{w:World}{A:Around}{E:Value->Shared->Prop}{s:Shared}
theorem mR:∀{ad:List Addr} {us:List Value},zP (ad.map V.ref) us->us=ad.map aar
 |[],us,h=>by cases h;rfl
 |a::ad,us,h=>by
  cases h with
  |cons r t=>cases r;rw[mR t];rfl
theorem mW:∀ad:List Addr,zP (ad.map V.ref) (ad.map aar)
 |[]=>.nil
 |a::ad=>.cons rfl (mW ad)
end L2
namespace Q
open PySem L2 PyProof.Rows
variable{ob:BG}{X:Cx}{e:Expr}{f:WE}{p pos Hi p1:Pos}{kd:_}
variable{P:aaI}{w:World}{K:aah}{mg:Str->Option Value}{base:Heap}{fd:abR}{ps:List Str}{M:Md}{n:Nat}
theorem xq{f:Addr}:Ae P w K mg base Bn 0 f fd ps (Gc M n λ_ _=>False) :=
 ⟨λ_ _ _ _ ⟨_,_,_,_,_,_,h,_⟩=>h.elim,λ_ _ _ _ _ _ _ _ _ _ _ _ _ ⟨_,_,_,_,_,_,h,_⟩=>h.elim⟩
end Q
namespace L2
open PySem PySem.Spec PyProof.Rows
section
open PySem.SeqAt
open PySem.AutoSeq1 (wpAny_loadPart')
open PySem.MeetsSeq PySem.MeetsSeq2 PySem.MeetsSeq3
end
end L2
namespace Q
open PySem L2 PyProof.Rows
variable{X:Cx}{pins:List (Addr×Obj)}{σ:L2.St}{H F:Hp}{s:Shared}
variable{ob:BG}
end Q
namespace L2
open PySem PySem.Spec PyProof.Rows
variable{prog:aaI}{w:World}{A:Around}{E:Value->Shared->Prop}{s:Shared}{a₀:Array Keyed}{κ:KeyKind}
variable{X:Cx}
end L2
namespace Q
open PySem L2 PyProof.Rows
variable{ob:BG}{X:Cx}{a b c e:Expr}{es:List Expr}{f g h:WE}{fa:WA}{pos p p1:Pos}{x:Str}
end Q
namespace L2
open PySem PySem.Spec PyProof.Rows
variable{X:Cx}{o e:Expr}{to te:TE}{apos pos:Pos}
section
open Builtin Builtin.Str
variable{prog:aaI}{w:World}{A:Around}{E:Value->Shared->Prop}{s:Shared}
end
theorem kQ:∀{ss:List Str} {us:List Value},zP (ss.map V.str) us->∃l:List (Str×Tok),l.map (·.1)=ss/\strValues l=us
 |[],_,h=>by cases h;exact⟨[],rfl,rfl⟩
 |s::ss,_,h=>by
  cases h with
  |cons a b=>
   obtain⟨t,rfl⟩:=a
   obtain⟨l,e1,e2⟩:=kQ b
   exact⟨(s,t)::l,by rw[aap,e1],by rw[<- e2];rfl⟩
def MD:TS:=λ_ _ _=>False
variable{st:Stmt}
theorem yd:PS X st MD:=λ_ _ _ _ _ _ h=>h.elim
end L2
namespace Q
open PySem L2 PyProof.Rows
variable{ob:BG}{X:Cx}{a b e:Expr}{f g:WE}{apos pos:Pos}
def Gi:WS:=λ_ _=>False
variable{st:Stmt}
theorem gy:FY ob X st Gi:=⟨MD,yd,λ_ _ _ _ _ _ _ _ h _=>h.elim⟩
end Q
namespace L2
open PySem PySem.Spec PyProof.Rows
variable{prog:aaI}{w:World}{A:Around}{E:Value->Shared->Prop}{s:Shared}{l b:Addr}{items Qc:Array Value}{n n2:Nat}
variable{X:Cx}
end L2
namespace Q
open PySem L2 PyProof.Rows
variable{ob:BG}{X:Cx}{e:Expr}{g:WE}{pos pos':Pos}
end Q
set_option maxHeartbeats 400000
namespace L2
open PySem PySem.Spec PyProof.Rows
variable{X:Cx}
end L2
namespace Q
open PySem L2 PyProof.Rows
variable{ob:BG}{X:Cx}{a:Expr}{fa:WA}{p pos:Pos}
variable{p2:Pos}{x:Str}
end Q
namespace Pre
open PySem L2
end Pre
namespace Q
open PySem L2 PyProof.Rows
variable{X:Cx}{k:Nat}{CJ:Addr}{fd:abR}{ps:List Str}{x y:Str}{p p1 pos pos':Pos}
variable{ob:BG}
variable{pins:List (Addr×Obj)}{s:Shared}{σ:L2.St}{H:Hp}
end Q
namespace L2
open PySem PySem.Spec PyProof.Rows PySem.W
def EE(h:Heap)(a:Addr)(k:Int×Str):Prop:=∃o n t u rs,h.get? a=some o/\o.cls=.type "tuple" /\ o.data=.seq (aeY k.1 t::ab9 k.2 u::rs).toArray n
variable{h h':Heap}{a:Addr}{k:Int×Str}
theorem EE.mono(x:EE h a k)(g:∀o,h.get? a=some o->h'.get? a=some o):EE h' a k:=by
 obtain⟨o,n,t,u,rs,e,r⟩:=x
 exact⟨o,n,t,u,rs,g o e,r⟩
variable{prog:aaI}{w:World}{A:Around}{E:Value->Shared->Prop}{s:Shared}
variable{x:Addr}{Q:Bool->Shared->Prop}
theorem zm{y:Addr}{l:Int×Str}(hx:EE s.heap x k)(hy:EE s.heap y l)(Bu:k.2≠l.2)(h:Q (decide (k.1<l.1\/(k.1=l.1/\Ai k.2 l.2))) s):wpAny (model prog w) A (keyLt' (adt true) (.ref x) (.ref y)) Q E s:=by
 obtain⟨ox,n,t,u,rs,e1,_,e2⟩:=hx
 obtain⟨oy,n',t',u',Vu,f1,_,f2⟩:=hy
 refine kat_lt e1 e2 f1 f2 ?_
 refine kat_cons (aft ?_)
 by_cases e:k.1=l.1
 ·rw[show (k.1==l.1)=true by simp[e]]
  refine kat_yes (kat_cons (aec ?_))
  rw[decide_eq_false Bu]
  refine kat_no ?_
  show wpAny _ _ (oneLt' false _ _) _ _ _
  refine kat_one _ _ (lt_str ?_)
  have:decide (k.1<l.1\/(k.1=l.1/\Ai k.2 l.2))=decide (k.2.cps.toList<l.2.cps.toList):=by
   rw[abt,decide_eq_true_eq,decide_eq_true_eq]
   constructor
   ·rintro(z|⟨_,z⟩)
    ·omega
    ·exact z
   ·intro z;exact .inr ⟨e,z⟩
  rw[this]at h
  exact h
 ·rw[show (k.1==l.1)=false by simp[e]]
  refine kat_no ?_
  show wpAny _ _ (oneLt' true _ _) _ _ _
  refine oneLt_int ?_
  have:decide (k.1<l.1\/(k.1=l.1/\Ai k.2 l.2))=decide (k.1<l.1):=by
   rw[abt,decide_eq_true_eq,decide_eq_true_eq]
   exact⟨λz=>z.elim id λq=>absurd q.1 e,.inl⟩
  rw[this]at h
  exact h
theorem mU:∀ad:List Addr,(∀a∈ad,∃k,EE h a k)->∃fs:List Value,KatTups h (ad.map aar) fs/\fs.length=ad.length/\∀v∈fs,∃c t,v=.int c t
 |[],_=>⟨[],trivial,rfl,λ_ z=>by simp at z⟩
 |a::ad,hp=>by
  obtain⟨fs,h1,h2,h3⟩:=mU ad λb hb=>hp b (aaw _ hb)
  obtain⟨k,o,n,t,u,rs,e1,e2,e3⟩:=hp a aay
  refine⟨.int k.1 t::fs,⟨⟨a,o,_,n,rfl,e1,e2,e3,rfl⟩,h1⟩,by simp[h2],λv hv=>?_⟩
  rcases List.mem_cons.mp hv with rfl|hv
  ·exact⟨_,_,rfl⟩
  ·exact h3 v hv
variable{n:Nat}{ad:List Addr}{ks:List (Int×Str)}{P:PySem.Fin->Shared->Prop}
theorem vY(ho:s.heap.get? a=some (seqObj "list" (ad.map aar).toArray n))(l2:ks.length=ad.length)(Ck:ad.length<64)(nd:(ks.map (·.2)).Nodup)
  (hp:∀i,i<ad.length->EE s.heap (ad.getD i 0) (ks.getD i (0,⟨#[]⟩))) (T8:∀i,i<ad.length->ad.getD i 0≠a)
  (h:∀ix:List Nat,ix.length=ad.length->ix.Nodup->(∀i∈ix,i<ad.length)->ix.Pairwise (λi j=>D3 ks i j=true)->P (.done (.ret .none)) {s with heap:=sortedHeap s.heap a (ad.map aar) (ix.map λi=>aar (ad.getD i 0)).toArray}) :
  wpAny (model prog w) A (ace.«list.sort» ⟨[.ref a],[]⟩) P E s:=by
 rw[list_sort_plain]
 have ha:a<s.heap.objs.size:=aaj ho
 have lv:(ad.map aar).length=ad.length:=aad ..
 have hz:(ad.map aar).length<=sizeLine:=by rw[lv,aaz];omega
 generalize Ql:ad.map aar=vs at ho lv hz h ⊢
 have Q0:∀i,i<ad.length->vs.getD i aa6=.ref (ad.getD i 0):=λi hi=>by
  rw[<- Ql,aae,aal,aab hi,aae,aab hi];rfl
 refine aaa (afl ho rfl ?_)
 refine aaa (acp ho rfl ?_ (by rw[aag];exact hz) (abd _))
 obtain⟨e1,Hk⟩:∃e1,(s.heap.update a (aaY λ_=>#[])).get? a=some (seqObj "list" #[] e1):=⟨_,ac5 ho (λ_=>#[])⟩
 refine aaa (adv Hk rfl ?_)
 refine aaa (aeE ?_ (by show vs.length<=_;exact hz))
 refine aaa (aco ?_ (abd _))
 refine aaN ?_
 have Jx:(((s.heap.update a (aaY λ_=>#[])).push (seqObj "tuple" vs.toArray 0)).push (seqObj "list" #[] 0)).get? a=some (seqObj "list" #[] e1) :=
  aac _ (aac _ Hk)
 have old:∀b o,b≠a->s.heap.get? b=some o->(((s.heap.update a (aaY λ_=>#[])).push (seqObj "tuple" vs.toArray 0)).push (seqObj "list" #[] 0)).get? b=some o:=λb o hb g=>
  aac _ (aac _ ((acW _ _ _ _ hb).trans g))
 show wpAny (model prog w) A _ P E {s with heap:=((s.heap.update a (aaY λ_=>#[])).push (seqObj "tuple" vs.toArray 0)).push (seqObj "list" #[] 0)}
 have sH:∀out:Array Value,sortedHeap s.heap a vs out=(((s.heap.update a (aaY λ_=>#[])).push (seqObj "tuple" vs.toArray 0)).push (seqObj "list" #[] 0)).update a (aaY λ_=>out):=λ_=>rfl
 simp only[sH]at h
 generalize VE:((s.heap.update a (aaY λ_=>#[])).push (seqObj "tuple" vs.toArray 0)).push (seqObj "list" #[] 0)=h6 at Jx old h ⊢
 have Qr:∀i,i<ad.length->EE h6 (ad.getD i 0) (ks.getD i (0,⟨#[]⟩)):=λi hi=>(hp i hi).mono λo g=>old _ o (T8 i hi) g
 by_cases h2:vs.toArray.size<2
 ·rw[if_pos h2,if_pos h2]
  refine aaa (aaf ?_)
  dsimp only
  rw[afI]
  refine aaa (aaf ?_)
  dsimp only
  have eo:(arrOf (adQ general' (vs.toArray.zip vs.toArray) #[] 7 none)).map (·.2)=vs.toArray:=by
   show (vs.toArray.zip vs.toArray).map (·.2)=vs.toArray
   apply Array.ext
   ·simp
   ·intro i h1 h2;simp
  rw[eo]
  refine aaa (adv Jx rfl (aaa (acp Jx rfl ?_ (abd _) (by rw[aag];exact adU hz))))
  simp only[bne_self_eq_false,aa0,if_false]
  rw[aag,lv]at h2
  have ei:((aaM ad.length).map λi=>aar (ad.getD i 0))=vs:=by
   rw[<- Ql]
   apply abK
   intro i
   rw[aal,aal]
   by_cases hi:i<ad.length
   ·rw[abJ hi,aab hi];simp[hi]
   ·rw[aan (by simpa using hi),aan (by omega)];rfl
  have q:=h (aaM ad.length) (by simp) adp (λi hi=>List.mem_range.mp hi) (by
   match hv:ad.length,h2 with
   |0,_=>simp
   |1,_=>simp[ady])
  rw[ei]at q
  exact aaf q
 ·rw[if_neg h2,if_neg h2]
  rw[aag,lv]at h2
  obtain⟨fs,f1,f2,f3⟩:=mU (h:=h6) ad λb hb=>by
   obtain⟨i,hi,rfl⟩:=List.mem_iff_getElem.mp hb
   have:=Qr i hi
   rw[aae,aab hi]at this
   exact⟨_,this⟩
  rw[Ql]at f1
  refine aaa (kat_kind (s:={s with heap:=h6}) (T:=.type "int") f1 (by omega) (λv hv=>?_) rfl ?_)
  ·obtain⟨c,t,rfl⟩:=f3 v hv
   exact Looks.of_pure rfl
  have hT:((abD "int") != (abD "tuple"))=true:=by decide
  rw[hT]
  have Qd:(vs.toArray.zip vs.toArray).size=ad.length:=by rw[af2,aag,lv];omega
  have Q6:adQ (adt true) (vs.toArray.zip vs.toArray) #[] 7 none=kas_st (adt true) (vs.toArray.zip vs.toArray) (adJ (aaM ad.length)):=by
   have q:=kas_range (vs.toArray.zip vs.toArray)
   rw[Qd]at q
   show _=adQ (adt true) ((adJ (aaM ad.length)).map (ac4 _)) #[] 7 none
   rw[q]
  have o:Srt.Ord (D3 ks) ad.length:=by
   have:=qj nd
   rw[l2]at this
   exact this
  have it:∀i,i<ad.length->ac4 (vs.toArray.zip vs.toArray) i=(.ref (ad.getD i 0),.ref (ad.getD i 0)):=λi hi=>by
   rw[kat_item rfl i,Q0 i hi]
  have Gd:∀i j,i<ad.length->j<ad.length->i≠j->(ks.getD i (0,⟨#[]⟩)).2≠(ks.getD j (0,⟨#[]⟩)).2:=λi j hi hj ne q=>by
   have a:(ks.map (·.2))[i]'(by rw[aad];omega)=(ks.map (·.2))[j]'(by rw[aad];omega):=by
    rw[acv,acv]
    rw[aae,aae,aab (by omega),aab (by omega)]at q
    exact q
   exact ne ((ab7 nd).mp a)
  have ask:(kas_sort ad.length).kasWp (kas_cmp prog w A (adt true) (vs.toArray.zip vs.toArray)) (λp z=>z={s with heap:=h6}/\Srt.Pm p ad.length/\Srt.GW (D3 ks) p ad.length) {s with heap:=h6}:=by
   refine Srt.pw_wp (lt:=D3 ks) (n:=ad.length) (Q:=λp=>Srt.Pm p ad.length/\Srt.GW (D3 ks) p ad.length) (J:=λz=>z={s with heap:=h6}) ?_ (λp z hz q=>⟨hz,q⟩) (kas_sort ad.length) _ rfl (Srt.lL o (by omega) λp a b=>⟨a,b⟩)
   rintro i j C z hi hj ne rfl hC
   show wpAny _ _ (keyLt' (adt true) (ac4 _ i).1 (ac4 _ j).1) _ _ _
   rw[it i hi,it j hj]
   refine zm (Qr _ (by omega)) (Qr _ (by omega)) (Gd _ _ (by omega) (by omega) (by omega)) ?_
   exact hC _ rfl
  have run:=kas_runs (E:=E) (Q:=λ_ CW z=>∃p:Array Nat,p.size=ad.length/\arrOf CW=p.map (ac4 (vs.toArray.zip vs.toArray))/\failedOf CW=none/\z={s with heap:=h6}/\Srt.Pm p ad.length/\Srt.GW (D3 ks) p ad.length)
   (by omega) Ck (λp' CW z a1 a2 a3 a4=>⟨p',a1,a2,a3,a4⟩) ask
  rw[<- Q6]at run
  refine aaa (aaL run ?_ λ_ _ q=>q)
  rintro⟨⟨⟩,CW⟩ z ⟨p,MT,QO,hf,rfl,Pm,As⟩
  dsimp only
  have AV:∀i∈p.toList,i<ad.length:=λi hi=>by
   obtain⟨j,hj,rfl⟩:=Array.mem_iff_getElem.mp (Array.mem_toList_iff.mp hi)
   have:=Pm.lt j (by rw[<- Pm.sz];exact hj)
   rw[Srt.aZ]at this
   simpa only[abf hj,acU]using this
  have Tj:p.toList.Nodup:=by
   rw[acL,abN]
   intro i j hi hj DH q
   have Dv:i<p.size:=by simpa using hi
   have DP:j<p.size:=by simpa using hj
   have:=Pm.nd i j (by rw[<- Pm.sz];exact Dv) (by rw[<- Pm.sz];exact DP) (by rw[Srt.aZ,Srt.aZ];simpa[Dv,DP]using q)
   omega
  have SQ:p.toList.Pairwise λi j=>D3 ks i j=true:=by
   rw[abN]
   intro i j hi hj DH
   have Dv:i<p.size:=by simpa using hi
   have DP:j<p.size:=by simpa using hj
   have:=As i j DH (by rw[<- Pm.sz];exact DP)
   rw[Srt.aZ,Srt.aZ]at this
   simpa[Dv,DP]using this
  have eo:(arrOf CW).map (·.2)=(p.toList.map λi=>aar (ad.getD i 0)).toArray:=by
   apply Array.toList_inj.mp
   rw[QO,Array.map_map,afy]
   exact aaP λi hi=>by show (ac4 _ i).2=_;rw[it i (AV i hi)]
  rw[eo]
  refine aaa (adv Jx rfl (aaa (acp Jx rfl ?_ (abd _) ?_)))
  ·rw[hf]
   simp only[bne_self_eq_false,aa0,if_false]
   exact aaf (h _ (by rw[aav,MT]) Tj AV SQ)
  ·rw[aag,aad,aav,MT,aaz];omega
variable{l:Addr}
theorem rG{Q:Value->Shared->Prop}(hl:s.heap.IsList l (ad.map aar).toArray)(l2:ks.length=ad.length)(Ck:ad.length<64)(nd:(ks.map (·.2)).Nodup)
  (hp:∀i,i<ad.length->EE s.heap (ad.getD i 0) (ks.getD i (0,⟨#[]⟩)))
  (h:∀ix:List Nat,ix.length=ad.length->ix.Nodup->(∀i∈ix,i<ad.length)->ix.Pairwise (λi j=>D3 ks i j=true)->Q (.ref (s.heap.objs.size+1)) {s with heap:=sortedAll s.heap (ad.map aar) (ix.map λi=>aar (ad.getD i 0)).toArray}) :
  wpAny (model prog w) A (call (.builtin "sorted") [.ref l]) Q E s:=by
 have hz:(ad.map aar).length<=sizeLine:=by rw[aad,aaz];omega
 refine acS aeN ael aeo (afm _) (?_:wpAny (model prog w) A.in1 (ace.«sorted» ⟨[.ref l],[]⟩) _ _ s)
 unfold ace.«sorted»
 refine aaa (m:=ae9 "sorted" 1 1 _) (aaf ?_)
 refine aaa (collect_list hl (aaa (aco ?_ hz)) (by first|exact hz|(rw[aag];exact hz)))
 have hsz:((s.heap.push (seqObj "list" #[] 0)).update s.heap.objs.size (aaY (·++(ad.map aar).toArray))).objs.size=s.heap.objs.size+1:=by
  rw[Heap.size_update,size_push']
 have FW:(((s.heap.push (seqObj "list" #[] 0)).update s.heap.objs.size (aaY (·++(ad.map aar).toArray))).push (seqObj "list" (ad.map aar).toArray 0)).get? (s.heap.objs.size+1)=some (seqObj "list" (ad.map aar).toArray 0):=by
  rw[<- hsz];exact aai _ rfl
 have old:∀b o,s.heap.get? b=some o->(((s.heap.push (seqObj "list" #[] 0)).update s.heap.objs.size (aaY (·++(ad.map aar).toArray))).push (seqObj "list" (ad.map aar).toArray 0)).get? b=some o:=λb o g=>
  aac _ ((acW _ _ _ _ (aaq (aaj g))).trans (aac _ g))
 show wpAny _ _ _ _ _ {s with heap:=((s.heap.push (seqObj "list" #[] 0)).update s.heap.objs.size (aaY (·++(ad.map aar).toArray))).push (seqObj "list" (ad.map aar).toArray 0)}
 dsimp only at hsz ⊢
 rw[hsz]
 refine aaa (aaN (aaW adi ⟨_,FW,rfl⟩ ac6 (vY (s:={s with heap:=((s.heap.push (seqObj "list" #[] 0)).update s.heap.objs.size (aaY (·++(ad.map aar).toArray))).push (seqObj "list" (ad.map aar).toArray 0)}) FW l2 Ck nd (λi hi=>(hp i hi).mono λo g=>old _ o g) (λi hi=>?_) λix i1 i2 i3 i4=>⟨_,rfl,?_⟩) (adL _)))
 ·obtain⟨o,_,_,_,_,g,_⟩:=hp i hi
  have:=aaj g
  exact aaq (abi this)
 ·exact aaf ⟨_,rfl,h ix i1 i2 i3 i4⟩
structure Oa(ks:List (Int×Str))(n:Nat)(ix:List Nat):Prop where
 len:ix.length=n
 nd:ix.Nodup
 lt:∀i∈ix,i<n
 up:ix.Pairwise λi j=>D3 ks i j=true
def K0(K:aah):List V->Hp->VK->Prop:=λxs H Q=>∃(l:Addr) (ad:List Addr) (ks:List (Int×Str)),xs=[.ref l]/\Bs K H l (ad.map V.ref)/\ad.length<64/\ks.length=ad.length/\(ks.map (·.2)).Nodup /\
 (∀i,i<ad.length->∃r,AW K H (ad.getD i 0) (.int (ks.getD i k0).1::.str (ks.getD i k0).2::r))/\∀D ix,H D=none->Oa ks ad.length ix->Q (.ref D) (upd H D (.lst (ix.map λi=>V.ref (ad.getD i 0))))
variable{iD:List Value}
theorem zn{r:List V}(rv:zP (.int k.1::.str k.2::r) iD)(tp:IsTup h a iD.toArray):EE h a k:=by
 cases rv with
 |cons a1 a2=>cases a2 with
  |cons b1 b2=>
   obtain⟨t,rfl⟩:=a1
   obtain⟨u,rfl⟩:=b1
   obtain⟨o,e1,e2,n,e3⟩:=tp
   exact⟨o,n,t,u,_,e1,e2,e3⟩
variable{X:Cx}
theorem rh:zZ X (.builtin "sorted") (K0 X.K):=by
 intro pins s σ H xs us Q I r h
 obtain⟨l,ad,ks,rfl,hl,Ck,l2,nd,hk,hQ⟩:=h
 obtain⟨u,rfl,ru⟩:=r.one
 cases ru
 obtain⟨iD,rv,pl,hz⟩:=I.list hl
 have:=mR rv
 subst this
 refine rG pl.isList l2 Ck nd (λi hi=>?_) λix i1 i2 i3 i4=>?_
 ·obtain⟨r,hk⟩:=hk i hi
  obtain⟨Bq,IL,Pl,_⟩:=I.tuple hk
  exact zn IL Pl
 ·have hn:H (s.heap.objs.size+1)=none:=I.zY.fresh (abU _)
  obtain⟨e,he⟩:=sortedAll_at s.heap (ad.map aar) (ix.map λi=>aar (ad.getD i 0)).toArray
  refine⟨.ref (s.heap.objs.size+1),_,I.laid (t':=s.toks) (a:=s.heap.objs.size+1) (o:=.lst (ix.map λi=>V.ref (ad.getD i 0))) (λb o q=>sortedAll_old q) (abU _) ⟨?_,ix.map λi=>aar (ad.getD i 0),e,?_,he⟩,rfl,hQ _ ix hn ⟨i1,i2,i3,i4⟩⟩
  ·rw[aad,i1,aaz];omega
  ·have:=mW (ix.map λi=>ad.getD i 0)
   rw[aaA,aaA]at this
   exact this
end L2
namespace Q
open PySem L2 PyProof.Rows
def Gz:PV->Option (Int×Str)
 |.tup (.int c::.str s::_)=>some (c,s)
 |_=>none
def GI(fa:WA):WE:=λenv P=>fa env λxs e=>match xs with
 |[.lst ys]=>∃ks:List (Int×Str),ys.mapM Gz=some ks/\(ks.map (·.2)).Nodup/\ys.length<64/\∀ix:List Nat,Oa ks ys.length ix->P (.lst (ix.map λi=>ys.getD i .rW)) e
 |_=>False
variable{K:aah}{F:Hp}{v:V}{y:PV}
theorem uZ{x:Int×Str}(r:Rep K F v y)(h:Gz y=some x):∃a t,v=.ref a/\AW K F a (.int x.1::.str x.2::t):=by
 unfold Gz at h
 split at h
 ·cases h
  cases r with
  |tup h1 h2=>cases h2 with
   |cons r1 r2=>cases r2 with
    |cons r3 r4=>cases r1;cases r3;exact⟨_,_,rfl,h1⟩
 ·cases h
theorem rF:∀{ys:List PV} {ks:List (Int×Str)} {vs:List V},ys.mapM Gz=some ks->zL K F vs ys->∃ad:List Addr,vs=ad.map V.ref/\ad.length=ys.length/\∀i,i<ad.length->∃r,AW K F (ad.getD i 0) (.int (ks.getD i k0).1::.str (ks.getD i k0).2::r)
 |[],ks,vs,_,h=>by cases h;exact⟨[],rfl,rfl,λi hi=>by simp at hi⟩
 |y::ys,ks,vs,hk,h=>by
  cases h with
  |cons r t=>
   rw[aa8]at hk
   cases e1:Gz y with
   |none=>rw[e1]at hk;cases hk
   |some k=>
    cases e2:ys.mapM Gz with
    |none=>rw[e1,e2]at hk;cases hk
    |some OE=>
     rw[e1,e2]at hk
     have hk:ks=k::OE:=(aau hk).symm
     subst hk
     obtain⟨ad,rfl,h1,h2⟩:=rF e2 t
     obtain⟨a,w,rfl,g⟩:=uZ r e1
     refine⟨a::ad,rfl,by simp[h1],λi hi=>?_⟩
     cases i with
     |zero=>exact⟨w,g⟩
     |succ i=>exact h2 i (by simpa using hi)
variable{ob:BG}{X:Cx}{e:Expr}{es:List Expr}{fa:WA}{pos p:Pos}
theorem u9(hg:Gl X "sorted")(hm:X.mg "sorted" = none)(ha:Ek ob X (e::es) fa)
  (he:aam (e::es) X.env=(false,eval e X.env)::aam es X.env:=by rfl) (A5:(backTo pos (aam es X.env)).any (·.1)=false:=by rfl):GS ob X (.Call (.Name "sorted" p) (e::es) [] pos) (GI fa):=by
 obtain⟨t,ht,k⟩:=ha.ex
 refine⟨_,bE rh hg hm adg ht (by decide) (by decide) he A5,λZ F σ H env P Q K hf kk=>k Z F σ H env _ _ K hf λxs e1 vs F1 H1 p s1 K1 r1=>?_⟩
 split at p
 ·obtain⟨ks,hs,nd,hl,p⟩:=p
  obtain⟨v,rfl,r⟩:=r1.one
  obtain⟨q,vs,rfl,h1,h2⟩:=r.lst K1.sF
  have g1:=(bx hs).1
  obtain⟨ad,rfl,a1,a2⟩:=rF hs h2
  refine⟨q,ad,ks,rfl,.inl (.inl h1),by omega,by omega,nd,λi hi=>?_,λD ix hD ok=>?_⟩
  ·obtain⟨r,a2⟩:=a2 i hi
   exact⟨r,aw K1.sF a2⟩
  ·have rp:=dB h2 ix λi hi=>by have:=ok.lt i hi;omega
   have ev:(ix.map λi=>(ad.map V.ref).getD i .rW)=ix.map λi=>V.ref (ad.getD i 0):=aaP λi hi=>by
    have:=ok.lt i hi
    rw[aae,aae,aal,aab this];rfl
   rw[ev]at rp
   exact kk _ e1 _ F1 _ (p ix (a1 ▸ ok)) s1 (λ_=>by simp) (K1.own hD ⟨_,ao,rp⟩)
 ·exact p.elim
end Q
set_option maxHeartbeats 1000000
namespace L2
open PySem PySem.Spec PyProof.Rows
open AutoSeq1 (wpAny_loadPart')
variable{prog:aaI}{w:World}{A:Around}{E:Value->Shared->Prop}{s:Shared}
variable{X:Cx}
end L2
namespace Q
open PySem L2 PyProof.Rows
variable{ob:BG}{X:Cx}{a:Expr}{fa:WA}{p pos:Pos}
end Q
namespace L2
open PySem PySem.Spec PyProof.Rows
theorem pL(t:ad6)(n:Nat):(t.orStandIn n).led=t.led:=by
 unfold SetTable.orStandIn afv
 split<;>rfl
theorem qU(t:ad6)(es:Array (Int×Value))(h:Int)(x:Value):(layNew t es h x).2.1.led=t.led:=by
 unfold layNew
 split
 ·exact pL _ _
 ·rfl
variable{t:ad6}{n:Nat}
theorem jK{t':ad6}{hs:Array Int}{o:Array Nat}(e:t.relaid hs n=some (t',o)):t'.led=t.led/\t'.plain=t.plain:=by
 unfold SetTable.relaid SetTable.laid at e
 cases q:SetTable.layClean (SetTable.sizeAbove n - 1) hs with
 |none=>rw[q]at e;cases e
 |some ow=>
  rw[q]at e
  have e':=aau e
  cases e'
  exact⟨rfl,rfl⟩
theorem n9(t:ad6)(es:Array (Int×Value))(n:Nat):(aez t es n).2.1.led=t.led:=by
 unfold aez afv
 split
 ·rename_i e
  dsimp only
  split
  ·exact(jK e).1
  ·rfl
 ·rfl
theorem lV(t:ad6)(es:Array (Int×Value))(n:Nat)(h:t.plain=false):(aez t es n).2.1.plain=false:=by
 unfold aez afv
 split
 ·rename_i e
  dsimp only
  split
  ·exact(jK e).2.trans h
  ·rfl
 ·rfl
def Bm(P:aaI)(w:World)(h:Heap)(a:Addr)(ss:List Str):Prop :=
 ∃o es ep t ks,h.get? a=some o/\o.ExactSet/\o.data=.set es ep t/\ElemsOf (strKind P w) es.toList/\acg (es.toList.map (·.2)) ks/\ks.Perm ss/\es.size<scanBound/\t.fits es.size=true /\
  (w.params.followText "set-order" = false->t.led=true)/\(es.size≠0->t.plain=false)
variable{P:aaI}{w:World}{h h':Heap}{a:Addr}{ss:List Str}
theorem Bm.keep(x:Bm P w h a ss)(k:∀o,h.get? a=some o->h'.get? a=some o):Bm P w h' a ss:=by
 obtain⟨o,es,ep,t,ks,a1,r⟩:=x
 exact⟨o,es,ep,t,ks,k o a1,r⟩
variable{vs:List Value}
theorem cS{ks:List Str}{JO:List Value}(p:JO.Perm vs):acg vs ks->∃OE,acg JO OE/\OE.Perm ks:=by
 induction p generalizing ks with
 |nil=>exact λh=>⟨ks,h,.refl _⟩
 |cons x p ih=>
  intro h
  cases h with
  |cons s t r=>obtain⟨k1,h1,p1⟩:=ih r;exact⟨_,.cons s t h1,p1.cons _⟩
 |swap x y l=>
  intro h
  cases h with
  |cons s t r=>cases r with|cons s' t' r'=>exact⟨_,.cons s' t' (.cons s t r'),.swap ..⟩
 |trans p1 p2 Nn Nm=>
  intro h
  obtain⟨k2,h2,q2⟩:=Nm h
  obtain⟨k1,h1,q1⟩:=Nn h2
  exact⟨k1,h1,q1.trans q2⟩
theorem fT{P:aaI}{w:World}{k:Str}:∀{es:List (Int×Value)} {ks:List Str},acg (es.map (·.2)) ks->(k∈ks↔∃e∈es,(strKind P w).is k e.2=true)
 |[],ks,h=>by cases h;simp
 |e::es,ks,h=>by
  obtain⟨hh,v⟩:=e
  cases h with
  |cons s t r=>
   rw[aa5,fT (P:=P) (w:=w) (k:=k) r]
   constructor
   ·rintro(rfl|⟨e,he,q⟩)
    ·exact⟨_,aay,ae7 _ _ _ _⟩
    ·exact⟨e,aaw _ he,q⟩
   ·rintro⟨e,he,q⟩
    rcases List.mem_cons.mp he with rfl|he
    ·obtain⟨t',e'⟩:=aeR (x:=k) (v:=ab9 s t) q
     cases e'
     exact .inl rfl
    ·exact .inr ⟨e,he,q⟩
variable{prog:aaI}{A:Around}{E:Value->Shared->Prop}{s:Shared}
variable{o:Obj}{es:Array (Int×Value)}{ep:Nat}
theorem Bm.stored{ks:List Str}(ho:h.get? a=some o)(hex:o.ExactSet)(hd:o.data=.set es ep t)
  {FI:Array (Int×Value)} {t':ad6} (Ly:ElemsOf (strKind prog w) FI.toList) (Ir:acg (FI.toList.map (·.2)) ks) (p:ks.Perm ss) (hb:FI.size<scanBound) (hf:t'.fits FI.size=true)
  (Ez:w.params.followText "set-order" = false->t'.led=true) (A5:FI.size≠0->t'.plain=false) :
  (h.update a (Obj.putSet FI t')).get? a=some {o with data:=.set FI (ep+1) t'}/\Bm prog w (h.update a (Obj.putSet FI t')) a ss:=by
 have hg:=abr (Obj.putSet FI t') ho (by rw[putSet_of FI t' hd];rfl)
 rw[putSet_of FI t' hd]at hg
 exact⟨hg,_,FI,ep+1,t',ks,hg,hex,rfl,Ly,Ir,p,hb,hf,Ez,A5⟩
variable{k:Str}{tk:Tok}{Q:Bool->Shared->Prop}
theorem Rb(hS:Bm prog w s.heap a ss)(Io:ss.length+1<scanBound)
  (h:∀b h',acn a s.heap h'->Bm prog w h' a (if k∈ss then ss else ss++[k])->Q b {s with heap:=h'}) :
  wpAny (model prog w) A (setAddHashed a (.str k tk) ((strKind prog w).hash k)) Q E s:=by
 obtain⟨o,es,ep,t,ks,ho,hex,hd,Ly,Ir,p,hb,hf,Ez,A5⟩:=hS
 have FE:(strKind prog w).is k (.str k tk)=true:=ae7 _ _ _ _
 have hlen:es.size=ss.length:=by
  have:=Ir.length
  rw[aad,aav]at this
  rw[this,p.length_eq]
 unfold setAddHashed setAddHashedIn
 refine aaN (aaa (acF ho hd hf ?_))
 dsimp only
 rw[byScan_of (knd:=strKind prog w) rfl hb Ly]
 simp only[↓reduceIte]
 unfold setAddByScan
 refine aaa (aaa (acY (aaa (wpAny_setScan_of FE ho hd hf Ly ?_))))
 cases hr:List.findIdx? (λe=>(strKind prog w).is k e.2) es.toList with
 |some j=>
  obtain⟨hj,T2,_⟩:=List.findIdx?_eq_some_iff_getElem.mp hr
  have hm:k∈ss:=p.mem_iff.mp ((fT Ir).mpr ⟨_,abV hj,T2⟩)
  have q:=h false s.heap (Heap.SameBut.refl a s.heap)
  rw[if_pos hm]at q
  exact aaf (aaf (q ⟨o,es,ep,t,ks,ho,hex,hd,Ly,Ir,p,hb,hf,Ez,A5⟩))
 |none=>
  have hm:k∉ss:=λhk=>by
   obtain⟨e,he,q⟩:=(fT (P:=prog) (w:=w) Ir).mp (p.mem_iff.mpr hk)
   have:=List.findIdx?_eq_none_iff.mp hr e he
   rw[q]at this;cases this
  rw[if_neg hm]at h
  dsimp only
  have a1:=layNew_perm t es ((strKind prog w).hash k) (.str k tk)
  have a2:=layNew_fits t es ((strKind prog w).hash k) (.str k tk)
  have a3:=qU t es ((strKind prog w).hash k) (.str k tk)
  generalize layNew t es ((strKind prog w).hash k) (.str k tk)=L at a1 a2 a3 ⊢
  obtain⟨Ed,t1,wd,gave⟩:=L
  dsimp only at a1 a2 a3 ⊢
  rw[afj]at a1
  have NH:ElemsOf (strKind prog w) Ed.toList:=(Ly.push FE rfl).perm a1
  obtain⟨k1,R0,p1⟩:=cS (ks:=ks++[k]) (a1.map (·.2)) (by
   rw[aaU]
   have:∀{vs:List Value} {ks:List Str},acg vs ks->acg (vs++[ab9 k tk]) (ks++[k]):=λ{vs ks} z=>by
    induction z with
    |nil=>exact .cons _ _ .nil
    |cons s t r ih=>exact .cons s t ih
   exact this Ir)
  have p2:k1.Perm (ss++[k]):=p1.trans (p.append_right [k])
  have z1:Ed.size=ss.length+1:=by rw[<- aav,a1.length_eq,aat,aav,hlen];rfl
  have b1:Ed.size<scanBound:=by rw[z1];exact Io
  have gw:∀(b:Bool) {s₁:Shared} {Q':Unit->Shared->Prop},Q' () s₁->wpAny (model prog w) A (match b with|true=>rule "set.scan.the-table-gave-way" |false=>pure ()) Q' E s₁ :=
   λb _ _ z=>by cases b<;>first|exact aaf z|exact acY z
  have tail:∀t2:ad6,t2.fits Ed.size=true->t2.led=t.led->t2.plain=false->wpAny (model prog w) A (do
    storeSet a Ed t2
    if (!wd && t2.tooFull)=true then do
      (match (aez t2 Ed (acz Ed.size)).2.2 with|true=>rule "set.scan.the-table-gave-way" |false=>pure ())
      storeSet a (aez t2 Ed (acz Ed.size)).1 (aez t2 Ed (acz Ed.size)).2.1
      pure (some true)
     else pure (some true)) (λr s'=>∃h',r=some true/\s'={s with heap:=h'}/\acn a s.heap h'/\Bm prog w h' a (ss++[k])) E s:=by
   intro t2 f2 l2 q2
   refine aaa (wpAny_storeSet_of ho hd ?_ (ae8 b1))
   obtain⟨Hk,UA⟩:=Bm.stored (prog:=prog) (w:=w) ho hex hd NH R0 p2 b1 f2 (λe=>l2.trans (Ez e)) (λ_=>q2)
   have RF:=aa1 s.heap a (Obj.putSet Ed t2)
   split
   ·have c1:=relayAll_perm t2 Ed (acz Ed.size)
    have c2:=relayAll_fits t2 Ed (acz Ed.size)
    have c3:=n9 t2 Ed (acz Ed.size)
    have c4:=lV t2 Ed (acz Ed.size) q2
    generalize aez t2 Ed (acz Ed.size)=Rl at c1 c2 c3 c4 ⊢
    obtain⟨Si,t3,g2⟩:=Rl
    dsimp only at c1 c2 c3 c4 ⊢
    obtain⟨k2,Ui,p3⟩:=cS (c1.map (·.2)) R0
    have z2:Si.size=Ed.size:=by rw[<- aav,c1.length_eq,aav]
    have b2:Si.size<scanBound:=by rw[z2];exact b1
    refine aaa (gw _ ?_)
    refine aaa (wpAny_storeSet_of Hk rfl ?_ (ae8 b2))
    obtain⟨_,Uz⟩:=Bm.stored (prog:=prog) (w:=w) Hk hex rfl (NH.perm c1) Ui (p3.trans p2) b2 c2 (λe=>c3.trans (l2.trans (Ez e))) (λ_=>c4)
    exact aaf ⟨_,rfl,rfl,RF.trans (aa1 _ a _),Uz⟩
   ·exact aaf ⟨_,rfl,rfl,RF,UA⟩
  have done:∀r s',(∃h',r=some true/\s'={s with heap:=h'}/\acn a s.heap h'/\Bm prog w h' a (ss++[k]))->wpAny (model prog w) A (match r with|some added=>pure added|none=>setAddHashedIn a (.str k tk) ((strKind prog w).hash k) 99999) Q E s':=by
   rintro _ _ ⟨h',rfl,rfl,sb,x⟩
   exact aaf (h true h' sb x)
  refine aaa (gw _ ?_)
  split
  ·refine aaa ?_
   rw[hashByValue_scannable 8 (x:=.str k tk) rfl]
   refine aaf ?_
   exact aaL (tail _ (SetTable.fits_plain_off a2) a3 rfl) done λ_ _ e=>e
  ·rename_i hp
   refine aaa (aaf ?_)
   simp only[↓reduceIte]
   exact aaL (tail _ a2 a3 (by simpa using hp)) done λ_ _ e=>e
def Eo(ss:List Str):List Str:=ss.foldl (λacc k=>if k∈acc then acc else acc++[k]) []
theorem hV(ss:List Str)(k:Str):Eo (ss++[k])=if k∈Eo ss then Eo ss else Eo ss++[k]:=by unfold Eo;rw[adV];rfl
variable{j:Nat}
theorem vm(hj:j<ss.length):Eo (ss.take (j+1))=if ss[j]∈Eo (ss.take j)then Eo (ss.take j)else Eo (ss.take j)++[ss[j]]:=by
 rw[acQ,aab hj,Option.toList_some,hV]
variable{α:Type}
theorem lM{p:List α->Prop}(h0:p [])(h1:∀xs k,p xs->p (xs++[k]))(l:List α):p l:=by
 rw[<- List.reverse_reverse l]
 induction l.reverse with
 |nil=>exact h0
 |cons a r ih=>rw[acJ];exact h1 _ _ ih
theorem xF(x:Str)(ss:List Str):x∈Eo ss↔x∈ss:=by
 induction ss using lM with
 |h0=>rfl
 |h1 xs k ih=>
  rw[hV]
  split
  ·rename_i h
   rw[afM,List.mem_singleton,<- ih]
   exact⟨.inl,λq=>q.elim id λe=>e ▸ h⟩
  ·rw[afM,afM,ih]
theorem tH(ss:List Str):(Eo ss).Nodup:=by
 induction ss using lM with
 |h0=>exact .nil
 |h1 xs k ih=>
  rw[hV]
  split
  ·exact ih
  ·rename_i h
   rw[acj]
   exact⟨ih,List.nodup_cons.mpr ⟨aaQ,.nil⟩,λa ha b hb e=>h (by rw[<- List.mem_singleton.mp hb,<- e];exact ha)⟩
theorem qw(ss:List Str):(Eo ss).length<=ss.length:=by
 induction ss using lM with
 |h0=>exact aak _
 |h1 xs k ih=>
  rw[hV,aat]
  split
  ·exact aa2 ih (aed ..)
  ·rw[aat];exact Nat.add_le_add_right ih _
variable{d:Addr}{fp:List Addr}
theorem rO{R:Result->Shared->Prop}{I:Addr}{wr:List Addr}{G:Array GenState->Array GenState->Prop}{P:Nat->Value->Prop}{St:Nat->Shared->Prop}(hb:ss.length+1<scanBound)
  (W:WalksS prog w A.in1 I fp wr G ss.length P St) (hd:d∉fp) (hP:∀i v (hi:i<ss.length),P i v->∃t,v=.str ss[i] t) :
  ∀(m j:Nat) (z:Shared),ss.length - j=m->j<=ss.length->St j z->Bm prog w z.heap d (Eo (ss.take j)) ->
   (∀z',Moved (d::wr) G z z'->Bm prog w z'.heap d (Eo (ss.take ss.length))->R (.ok (.ret .none)) z') ->
   ad5 (model prog w) A (.builtin "set.update.loop" ⟨[.ref d,.ref I],[]⟩) R z:=by
 have dw:d∉wr:=λh=>hd (W.sub _ h)
 have inc:∀b∈wr,b∈d::wr:=λb hb=>aaw _ hb
 intro m
 induction m with
 |zero=>
  intro j z hm hj st hs hR
  obtain rfl:j=ss.length:=by omega
  refine acf F.entry_set_update_loop ?_
  rw[abX aeb _]
  show wpAny _ A.in1 (pyNext (.ref I) >>= _) _ _ z
  exact aaa (W.done z _ _ st λz' mv=>aaf (hR z' (mv.mono inc) (hs.keep λo g=>mv.heap d _ dw g)))
 |succ m ih=>
  intro j z hm hj st hs hR
  have hl:j<ss.length:=by omega
  refine acf F.entry_set_update_loop ?_
  rw[abX aeb _]
  show wpAny _ A.in1 (pyNext (.ref I) >>= _) _ _ z
  refine aaa (W.item j z _ _ hl st λv z' hv CW mv=>?_)
  obtain⟨t,rfl⟩:=hP j v hl hv
  show wpAny _ A.in1 (ad3 [ab9 ss[j] t] (setAdd d (.str ss[j] t)) >>= _) _ _ z'
  refine aaa (aaN ?_)
  unfold setAdd
  refine aaN (aaa ((strKind prog w).pyHash (k:=ss[j]) (ae7 _ _ _ _) ?_))
  have lz:(Eo (ss.take j)).length+1<scanBound:=by
   have q1:=qw (ss.take j)
   have q2:(ss.take j).length<=ss.length:=by rw[aa9];omega
   omega
  refine Rb (s:={z' with toks:=z'.toks+1}) (show Bm prog w z'.heap d _ from hs.keep λo g=>mv.heap d _ dw g) lz λb h' sb Hy=>?_
  rw[<- vm hl]at Hy
  refine aaf ⟨ac3 aeb _,ih (j+1) _ (by omega) hl (W.frame _ z' _ _ CW (abU _) λb hb o e=>?_) Hy λSH To TU=>?_⟩
  ·rw[sb.2 b λq:b=d=>hd (q ▸ hb)];exact e
  ·refine hR SH (Moved.trans W.gtrans ((mv.mono inc).then_heap (abU _) λb o hb e=>?_) To) TU
   rw[sb.2 b λq:b=d=>hb (q ▸ aay)];exact e
theorem pD(a:Value){Q:Value->Shared->Prop}(h:Q (.ref s.heap.objs.size) {s with heap:=s.heap.push {cls:=.type "set",dict:=none,data:=.set #[] 0 (.fresh 0 0 (!w.params.followText "set-order"))}}):
  ad5 (model prog w) A (.call (.builtin "set.__new__") ⟨[.type "set",a],[]⟩) (wants Q E) s:=by
 refine codeAny_of_tree (?_:wpAny _ A.in1 (checkBuiltinCall "set.__new__" ⟨[.type "set",a],[]⟩ >>= λ_=>again (.builtin "set.__new__" ⟨[.type "set",a],[]⟩)) _ _ s)
 refine aaa (wpAny_of_eq (F.newCall_set_1 a) (aaf ⟨ac3 F.plain_set_new _,acf F.entry_set_new ?_⟩))
 rw[abX F.plain_set_new _]
 unfold ace.«set.__new__» Builtin.Frozenset.newClass
 have q0:=sub_set_self
 obtain⟨h0,g0,d0,t0,o0⟩:=s
 dsimp only at h⊢
 wp_walk
 refine acT (aaf ?_)
 simp only[newObj]
 exact aaa (wpAny_alloc (aaf (aaf h)))
variable{l:Addr}
theorem mM{items:Array Value}{Q:Value->Shared->Prop}(hh:A.handled=none)(hl:s.heap.IsList l items)(hi:acg items.toList ss)(hb:ss.length+1<scanBound)
  (h:∀(h':Heap) (tk:Nat),Bm prog w h' s.heap.objs.size (Eo ss)->(∀b o,b<s.heap.objs.size->s.heap.get? b=some o->h'.get? b=some o)->s.heap.objs.size<h'.objs.size->Q (.ref s.heap.objs.size) {s with heap:=h',toks:=tk}) :
  wpAny (model prog w) A (call (.type "set") [.ref l]) Q E s:=by
 obtain⟨c,tl,Ua⟩:=F.called_set.mro
 have RW:=F.called_set.made
 have TM:=F.called_set.sub
 have hsz:items.size=ss.length:=by rw[<- aav];exact hi.length
 refine wpAny_call (codeAny_of_tree (?_:wpAny _ _ (callAny (.type "set") _) _ _ _))
 refine aaf ⟨Code.quiet_builtin _ (by decide +kernel),acf F.entry_type_call ?_⟩
 rw[Around.under_plain (weight_type_call_type "set" [.ref l] []) rfl]
 have h1:=F.called_set.notType
 have h2:=F.called_set.canCreate
 have VG:=F.typeCall_set_1 (.ref l)
 repeat (any_goals (first|assumption|wp_step))
 generalize Ez:(!w.params.followText "set-order")=led
 refine adH (pD (.ref l) (E:=E) (Q:=λobj z=>obj=.ref s.heap.objs.size/\z={s with heap:=s.heap.push {cls:=.type "set",dict:=none,data:=.set #[] 0 (.fresh 0 0 led)}}) (by rw[Ez];exact⟨rfl,rfl⟩)) λr z hr=>?_
 cases r with
 |error e=>exact hr
 |ok fl=>
 cases fl with
 |ret obj=>
  obtain⟨rfl,rfl⟩:=hr
  have g0:(s.heap.push {cls:=.type "set",dict:=none,data:=.set #[] 0 (.fresh 0 0 led)}).get? s.heap.objs.size=some {cls:=.type "set",dict:=none,data:=.set #[] 0 (.fresh 0 0 led)}:=aai _ rfl
  have hT:Shared.TypeIs {s with heap:=s.heap.push {cls:=.type "set",dict:=none,data:=.set #[] 0 (.fresh 0 0 led)}} (.ref s.heap.objs.size) "set" := ⟨_,g0,rfl⟩
  have RY:=F.called_set.init.lookup
  have VH:=F.called_set.init.bind (.ref s.heap.objs.size)
  repeat (any_goals (first|assumption|wp_step))
  refine adH (codeAny_call_builtin (R:=wants (λr z=>r=.none/\∃h' tk,z={s with heap:=h',toks:=tk}/\Bm prog w h' s.heap.objs.size (Eo ss)/\(∀b o,b<s.heap.objs.size->s.heap.get? b=some o->h'.get? b=some o)/\s.heap.objs.size<h'.objs.size) E)
   F.called_set.init.plain F.entry_set_init (check_set_init_1 hT ?_)) λr z hr=>?_
  ·have tt:(s.heap.push {cls:=.type "set",dict:=none,data:=.set #[] 0 (.fresh 0 0 led)}).IsList l items:=by
    obtain⟨o,e,r⟩:=hl
    exact⟨o,aac _ e,r⟩
   obtain⟨⟨Ti,RM,RN,PR⟩,ho,hc,n0,hd⟩:=id tt
   simp only at hc hd
   subst hc hd
   have a1:=F.sub_list_set
   have a2:=F.sub_list_frozenset
   have a3:(abD "list" == abD "dict")=false:=by decide
   unfold ace.«set.__init__» noKeywords Builtin.Frozenset.updateFrom
   generalize UB:pyIter=PI
   wp_walk
   subst UB
   refine adf (s:={s with heap:=s.heap.push {cls:=.type "set",dict:=none,data:=.set #[] 0 (.fresh 0 0 led)}}) tt ?_
   refine aaa (wpAny_runValue ?_)
   have AV:l<s.heap.objs.size:=by obtain⟨o,e,_⟩:=hl;exact aaj e
   have T9:l≠(s.heap.push {cls:=.type "set",dict:=none,data:=.set #[] 0 (.fresh 0 0 led)}).objs.size:=by rw[aa3];exact aaq (abi AV)
   have Nz:s.heap.objs.size∉[(s.heap.push {cls:=.type "set",dict:=none,data:=.set #[] 0 (.fresh 0 0 led)}).objs.size,l]:=by
    rw[aa3]
    intro q
    rcases List.mem_cons.mp q with e|q
    ·exact absurd e (aaq (abF _))
    ·exact absurd (List.mem_singleton.mp q) (abZ AV)
   have W:=(Walks.list (prog:=prog) (w:=w) (A:=A.in1.in1.in1) (by simp[hh]) (s.heap.push {cls:=.type "set",dict:=none,data:=.set #[] 0 (.fresh 0 0 led)}).objs.size l T9 items).toS
   rw[hsz]at W
   refine rO hb W Nz (λi v Dv hv=>?_) (ss.length - 0) 0 _ (by omega) (abd _) ⟨⟨_,aai _ rfl,rfl,rfl⟩,⟨_,aac _ ho,rfl,n0,rfl⟩⟩ ?_ ?_
   ·obtain⟨t,e⟩:=hi.get i _ (aab Dv)
    rw[abb]at e
    exact⟨t,aau (hv.symm.trans e)⟩
   ·exact⟨_,#[],0,_,[],aac _ g0,⟨rfl,rfl,rfl⟩,rfl,λe he=>by simp at he,.nil,.nil,by decide,rfl,λe=>by rw[<- Ez,e];rfl,λe=>(e rfl).elim⟩
   ·intro z mv q
    rw[acu]at q
    obtain⟨h',g',d',Hx,PU⟩:=z
    obtain rfl:g'=s.gens:=mv.gens
    obtain rfl:d'=s.drawn:=mv.drawn
    obtain rfl:PU=s.os:=mv.os
    refine aaf (aaf ⟨rfl,h',Hx,rfl,q,λb o hb e=>?_,?_⟩)
    ·refine mv.heap b o ?_ (aac _ (aac _ e))
     rw[aa3]
     intro q
     rcases List.mem_cons.mp q with e|q
     ·exact absurd e (aaq hb)
     ·exact absurd (List.mem_singleton.mp q) (aaq (abi hb))
    ·obtain⟨o,_,_,_,_,e,_⟩:=q;exact aaj e
  ·cases r with
   |error e=>exact hr
   |ok fl=>
   cases fl with
   |ret r=>
    obtain⟨rfl,h',tk,rfl,q1,q2,q3⟩:=hr
    repeat (any_goals (first|assumption|wp_step))
    exact h _ _ q1 q2 q3
   |_=>exact hr.elim
 |_=>exact hr.elim
theorem AM:Slot "set_iterator" "__next__" "set_iterator.__next__" :=
 .of (owner := "set_iterator") (n := "__next__") (by rw[afD,aep];kernel_rfl) (by decide +kernel) (by decide +kernel) (by decide +kernel)
  (by first|exact .inl (by decide +kernel)|exact .inr (by decide +kernel)) (by rw[afU];kernel_rfl)
theorem mC:entryFor table "set_iterator.__next__" = some ace.«set_iterator.__next__»:=entryFor_of_tree (by kernel_rfl)
theorem mY:Manifest.owners.lookup (String.ofList ("set_iterator".toList.reverse).reverse)=some Manifest.sig_set_iterator:=by kernel_rfl
theorem nM(a:Value):argsOk "set_iterator.__next__" ⟨[a],[]⟩:=by
 unfold argsOk;rw[signature?_of (id := "set_iterator.__next__") (n := "__next__".toList.reverse) (o := "set_iterator".toList.reverse) (by kernel_rfl) mY];kernel_rfl
theorem mE:entryFor table "set.__iter__" = some ace.«frozenset.__iter__»:=entryFor_alias (id' := "frozenset.__iter__") (by kernel_rfl) rfl (by decide +kernel) (by kernel_rfl)
theorem nv{src:Source}{Q:Nat->Shared->Prop}(hn:n≠0)(h:∀i,i<n->∀d,Q i {s with drawn:=d}):wpAny (model prog w) A (choose src n) Q E s :=
 λΓ p hΓ=>⟨hn,h _ (Nat.mod_lt _ (Nat.pos_of_ne_zero hn)) _⟩
theorem kD:∀(l:List α) (i:Nat) (h:i<l.length),(l[i]::l.eraseIdx i).Perm l
 |x::r,0,_=>.refl _
 |x::r,i+1,h=>(List.Perm.swap ..).trans ((kD r i (Nat.lt_of_succ_lt_succ h)).cons x)
theorem fz:∀(n:Nat) (xs:List α) (s:Shared) (Q:List α->Shared->Prop),xs.length=n->(∀ys d,ys.Perm xs->Q ys {s with drawn:=d})->wpAny (model prog w) A (drawOrder n xs) Q E s
 |0,xs,s,Q,hn,h=>by
  have:xs=[]:=List.length_eq_zero_iff.mp hn
  subst this
  exact aaf (h [] s.drawn .nil)
 |n+1,[],s,Q,hn,h=>by cases hn
 |n+1,x::r,s,Q,hn,h=>by
  unfold drawOrder
  have Bu:(x::r).length≠0:=by simp
  refine aaa (nv Bu λi hi d=>?_)
  rw[aab hi]
  have hl:((x::r).eraseIdx i).length=n:=by rw[afS hi,hn];rfl
  refine aaa (fz n _ _ _ hl λys d' p=>aaf (h _ d' ?_))
  exact(p.cons _).trans (kD _ _ hi)
theorem mX(f:Nat->Nat):∀(n k:Nat) (l:List α) (out:Array α),l.length=n->(pickOrder.go f n k l out).toList.Perm (out.toList++l)
 |0,k,l,out,hn=>by
  have:l=[]:=List.length_eq_zero_iff.mp hn
  subst this
  unfold pickOrder.go
  rw[aby]
 |n+1,k,l,out,hn=>by
  unfold pickOrder.go
  have hi:f k % l.length<l.length:=Nat.mod_lt _ (by omega)
  rw[aab hi]
  dsimp only
  refine(mX f n (k+1) _ _ (by rw[afS hi,hn];rfl)).trans ?_
  rw[afj,acK]
  exact(kD _ _ hi).append_left _
theorem lY(f:Nat->Nat)(xs:Array α):(aem f xs).toList.Perm xs.toList:=by
 have:=mX f xs.size 0 xs.toList #[] (aav ..)
 simpa[aem]using this
def Bh(h:Heap)(it:Addr)(f:Value)(i:Nat)(a:Addr)(n ep:Nat):Prop :=
 ∃o,h.get? it=some o/\o.cls=.type "set_iterator" /\ o.data=.fields #[f,.int i 0,.ref a,.int n 0,.int ep 0]
variable{it:Addr}{f:Value}{i:Nat}
theorem Bh.typeIs(x:Bh s.heap it f i a n ep):s.TypeIs (.ref it) "set_iterator" := let ⟨o,ho,hc,_⟩:=x;⟨o,ho,hc⟩
def BM(h:Heap)(a:Addr)(es:Array (Int×Value))(ep:Nat)(t:ad6):Prop:=∃o,h.get? a=some o/\o.data=.set es ep t/\t.fits es.size=true
theorem gR{Q:Option Value->Shared->Prop}(x:Bh s.heap it f i a n ep)
  (h:wpAny (model prog w) A.in1 (ace.«set_iterator.__next__» ⟨[.ref it],[]⟩) (λfin s'=>∃v,fin=.done (.ret v)/\Q (some v) s') (λe s'=>s'.TypeIs e "StopIteration" /\ Q none s') s) :
  wpAny (model prog w) A (pyNext (.ref it)) Q E s:=by
 unfold pyNext
 refine aaa (aeU (abk (name:=aax "__next__") x.typeIs AM (aaW AM x.typeIs mC (aaL h ?_ ?_) (nM _))))
 ·rintro fin s' ⟨v,rfl,q⟩
  exact⟨v,rfl,aaf q⟩
 ·rintro e s' ⟨hT,q⟩
  exact aaa (afs (T := "StopIteration") (b:=true) hT isSubtype_stop (aaf q))
variable{slot:Nat}{v:Value}
theorem mV{nx:Nat}{Q:Option Value->Shared->Prop}(x:Bh s.heap it (.int slot 0) i a n ep)(hS:BM s.heap a es ep t)(hn:es.size=n)
  (hx:∀(Q:Option (Value×Nat)->Shared->Prop) (E:Value->Shared->Prop),Q (some (v,nx)) s->wpAny (model prog w) A.in1 (setNext a slot i ep) Q E s)
  (k:∀h',Bh h' it (.int nx 0) (i+1) a n ep->acn it s.heap h'->Q (some v) {s with heap:=h'}):wpAny (model prog w) A (pyNext (.ref it)) Q E s:=by
 refine gR x ?_
 obtain⟨o,ho,hc,hd⟩:=x
 obtain⟨os,G5,Hl,hf⟩:=hS
 unfold ace.«set_iterator.__next__»
 refine aaa (m:=slotArgs "__next__" 0 _) (aaf ?_)
 refine aaa (aeF ho hd ?_)
 dsimp only
 refine aaa (acV G5 Hl hf ?_)
 rw[if_neg (by rw[hn];simp)]
 simp only[ab3]
 refine aaa (hx _ _ ?_)
 dsimp only
 refine aaa (acw ho hd (by simp) ?_)
 have h1:=abr (Obj.mapFields (·.setIfInBounds 0 (rawInt nx))) ho (acD (abj hd _))
 refine aaa (acw h1 (abj hd _) (by simp) (aaf ⟨v,rfl,k _ ?_ ?_⟩))
 ·refine⟨_,abr _ h1 (acD (abj (abj hd _) _)),(adT ..).trans ((adT ..).trans hc),?_⟩
  rw[abj (abj hd _)];simp[rawInt]
 ·exact(aa1 ..).trans (aa1 ..)
theorem kT{h₁:Heap}{R:PySem.Fin->Shared->Prop}{Q:Option Value->Shared->Prop}(hh:A.handled=none)(k:∀h',(∀b o,h₁.get? b=some o->h'.get? b=some o)->Q none {s with heap:=h'}):
  wpAny (model prog w) A.in1 (newExc (.type "StopIteration") [] >>= λe=>raiseNew e) R (λe s'=>s'.TypeIs e "StopIteration" /\ Q none s') {s with heap:=h₁}:=by
 refine aaa ?_
 simp only[newExc,newTuple]
 refine aaa (aa4 ?_ (by size_fits))
 refine aaa (m:=aeG _ _) (wpAny_of_eq (a:=aa6) (by first|rfl|(simp only[aeG];rfl)) ?_)
 refine aa4 ?_ (by size_fits)
 simp only[raiseNew]
 refine aaa (wpAny_handled ?_)
 rw[show A.in1.handled=none from hh]
 exact aaa (aaf (wpAny_throw ⟨⟨_,aai _ rfl,rfl⟩,k _ λb o e=>aac _ (aac _ e)⟩))
theorem jX{Q:Option Value->Shared->Prop}(hh:A.handled=none)(x:Bh s.heap it (.int slot 0) i a n ep)(hS:BM s.heap a es ep t)(hn:es.size=n)
  (hx:∀(Q:Option (Value×Nat)->Shared->Prop) (E:Value->Shared->Prop),Q none s->wpAny (model prog w) A.in1 (setNext a slot i ep) Q E s)
  (k:∀h',Heap.ExtBut it s.heap h'->Q none {s with heap:=h'}):wpAny (model prog w) A (pyNext (.ref it)) Q E s:=by
 refine gR x ?_
 obtain⟨o,ho,hc,hd⟩:=x
 obtain⟨os,G5,Hl,hf⟩:=hS
 unfold ace.«set_iterator.__next__»
 refine aaa (m:=slotArgs "__next__" 0 _) (aaf ?_)
 refine aaa (aeF ho hd ?_)
 dsimp only
 refine aaa (acV G5 Hl hf ?_)
 rw[if_neg (by rw[hn];simp)]
 simp only[ab3]
 refine aaa (hx _ _ ?_)
 dsimp only
 refine aaa (acw ho hd (by simp) ?_)
 exact kT hh λh' e=>k h' λb o hb g=>e b o ((aa1 ..).extBut b o hb g)
def Ht(h:Heap)(T:Addr)(pl:List Nat):Prop:=∃o m,h.get? T=some o/\o.data=.seq (pl.map λ(i:Nat)=>rawInt i).toArray m
variable{T:Addr}{pl:List Nat}
theorem rN{p:Nat}{hv:Int}{Q:Option Value->Shared->Prop}(x:Bh s.heap it (.ref T) i a n ep)(hS:BM s.heap a es ep t)(hn:es.size=n)(hT:Ht s.heap T pl)
  (hp:pl[i]?=some p) (he:es[p]?=some (hv,v))
  (k:∀h',Bh h' it (.ref T) (i+1) a n ep->acn it s.heap h'->Q (some v) {s with heap:=h'}):wpAny (model prog w) A (pyNext (.ref it)) Q E s:=by
 refine gR x ?_
 obtain⟨o,ho,hc,hd⟩:=x
 obtain⟨os,G5,Hl,hf⟩:=hS
 obtain⟨oT,m,Qt,QJ⟩:=hT
 unfold ace.«set_iterator.__next__»
 refine aaa (m:=slotArgs "__next__" 0 _) (aaf ?_)
 refine aaa (aeF ho hd ?_)
 dsimp only
 refine aaa (acV G5 Hl hf ?_)
 rw[if_neg (by rw[hn];simp)]
 refine aaa (abL Qt QJ ?_)
 have e1:((pl.map λ(i:Nat)=>rawInt i).toArray)[(i:Int).toNat]?=some (.int p 0):=by
  rw[ab3,List.getElem?_toArray,aal,hp];rfl
 dsimp only
 rw[e1]
 dsimp only
 unfold setNextDrawn
 refine aaa (aaa (acF G5 Hl hf ?_))
 dsimp only
 simp only[ab3,bne_self_eq_false,aa0,↓reduceIte,he]
 refine aaf ?_
 refine aaa (acw ho hd (by simp) (aaf ⟨v,rfl,k _ ⟨_,abr _ ho (acD (abj hd _)),(adT ..).trans hc,?_⟩ (aa1 ..)⟩))
 rw[abj hd];simp[rawInt]
theorem t8{Q:Option Value->Shared->Prop}(hh:A.handled=none)(x:Bh s.heap it (.ref T) i a n ep)(hS:BM s.heap a es ep t)(hn:es.size=n)(hT:Ht s.heap T pl)
  (hp:pl[i]?=none)
  (k:∀h',Heap.ExtBut it s.heap h'->Q none {s with heap:=h'}):wpAny (model prog w) A (pyNext (.ref it)) Q E s:=by
 refine gR x ?_
 obtain⟨o,ho,hc,hd⟩:=x
 obtain⟨os,G5,Hl,hf⟩:=hS
 obtain⟨oT,m,Qt,QJ⟩:=hT
 unfold ace.«set_iterator.__next__»
 refine aaa (m:=slotArgs "__next__" 0 _) (aaf ?_)
 refine aaa (aeF ho hd ?_)
 dsimp only
 refine aaa (acV G5 Hl hf ?_)
 rw[if_neg (by rw[hn];simp)]
 refine aaa (abL Qt QJ ?_)
 have e1:((pl.map λ(i:Nat)=>rawInt i).toArray)[(i:Int).toNat]?=none:=by
  rw[ab3,List.getElem?_toArray,aal,hp];rfl
 dsimp only
 rw[e1]
 dsimp only
 refine aaa (acw ho hd (by simp) ?_)
 have h1:=abr (Obj.mapFields (·.setIfInBounds 0 (rawInt 0))) ho (acD (abj hd _))
 refine aaa (acw h1 (abj hd _) (by simp) ?_)
 exact kT hh λh' e=>k h' λb o hb g=>e b o (((aa1 ..).trans (aa1 ..)).extBut b o hb g)
theorem mZ{Q:Option (Value×Nat)->Shared->Prop}(ht:w.params.followText "set-order" = true)(hS:BM s.heap a es ep t)
  (h:Q (((aem (w.params.setOrder a ep) es)[i]?).map λe=>(e.2,slot)) s):wpAny (model prog w) A (setNext a slot i ep) Q E s:=by
 obtain⟨o,ho,hd,hf⟩:=hS
 unfold setNext
 refine aaa (acF ho hd hf ?_)
 dsimp only
 unfold setsByText
 refine aaa (aaa (acT (aaf ?_)))
 rw[if_pos (show (model prog w).w.params.followText "set-order" = true from ht),if_neg (by simp)]
 unfold setWalk
 refine aaa (aaa (acF ho hd hf ?_))
 dsimp only
 unfold setsByText
 refine aaa (aaa (acT (aaf ?_)))
 rw[if_pos (show (model prog w).w.params.followText "set-order" = true from ht)]
 exact aaa (acT (aaf (aaf h)))
theorem km{Q:Option (Value×Nat)->Shared->Prop}(ht:w.params.followText "set-order" = false)(hS:BM s.heap a es ep t)(hl:t.led=true)(hz:es.size<=1)
  (h:Q (match es[adk t.place slot]?,t.place[adk t.place slot]? with|some (_,x),some j=>some (x,j+1)|_,_=>none) s):wpAny (model prog w) A (setNext a slot i ep) Q E s:=by
 obtain⟨o,ho,hd,hf⟩:=hS
 unfold setNext
 refine aaa (acF ho hd hf ?_)
 dsimp only
 unfold setsByText
 refine aaa (aaa (acT (aaf ?_)))
 rw[if_neg (show ¬ ((model prog w).w.params.followText "set-order" = true)from by show ¬ (w.params.followText "set-order" = true);rw[ht];exact aaB)]
 refine aej (λ(R6:(!t.plain && decide (es.size > 1))=true)=>absurd R6 (by rw[decide_eq_false (by omega),af1];exact aaB)) (λ_=>?_)
 refine aaa (?_:wpAny _ _ (if (!t.led && !es.isEmpty)=true then unsupported _ else pure ()) _ _ _)
 rw[if_neg (by rw[hl];simp)]
 refine aaf (aaf ?_)
 exact h
theorem ie:Slot "set_iterator" "__iter__" "set_iterator.__iter__" :=
 .of (owner := "set_iterator") (n := "__iter__") (by rw[afD,aep];kernel_rfl) (by decide +kernel) (by decide +kernel) (by decide +kernel)
  (by first|exact .inl (by decide +kernel)|exact .inr (by decide +kernel)) (by rw[afU];kernel_rfl)
theorem mD:entryFor table "set_iterator.__iter__" = some ace.«dict_keyiterator.__iter__»:=entryFor_alias (id' := "dict_keyiterator.__iter__") (by kernel_rfl) rfl (by decide +kernel) (by kernel_rfl)
theorem nN(a:Value):argsOk "set_iterator.__iter__" ⟨[a],[]⟩:=by
 unfold argsOk;rw[signature?_of (id := "set_iterator.__iter__") (n := "__iter__".toList.reverse) (o := "set_iterator".toList.reverse) (by kernel_rfl) mY];kernel_rfl
theorem jW{Q:Value->Shared->Prop}(x:Bh s.heap it f i a n ep)(h:Q (.ref it) s):wpAny (model prog w) A (pyIter (.ref it)) Q E s:=by
 refine adP x.typeIs ie (aaW ie x.typeIs mD (?_:wpAny _ _ (ret (.ref it)) _ _ s) (nN _))
 exact aaf ⟨_,rfl, "set_iterator",_,x.typeIs,AM.lookup,h⟩
theorem Bh.keep(x:Bh h it f i a n ep)(k:∀o,h.get? it=some o->h'.get? it=some o):Bh h' it f i a n ep:=let ⟨o,e,r⟩:=x;⟨o,k o e,r⟩
theorem BM.keep(x:BM h a es ep t)(k:∀o,h.get? a=some o->h'.get? a=some o):BM h' a es ep t:=let ⟨o,e,r⟩:=x;⟨o,k o e,r⟩
theorem Ht.keep(x:Ht h T pl)(k:∀o,h.get? T=some o->h'.get? T=some o):Ht h' T pl:=let ⟨o,m,e,r⟩:=x;⟨o,m,k o e,r⟩
theorem Ms(hh:A.handled=none)(ht:w.params.followText "set-order" = true)(Bu:a≠it):
  Walks prog w A it [it,a,it] [it] ((aem (w.params.setOrder a ep) es).toList.map (·.2)).length (λi v=>((aem (w.params.setOrder a ep) es).toList.map (·.2))[i]?=some v)
   (λi h=>Bh h it (.int ((0:Nat):Int) 0) i a es.size ep/\BM h a es ep t) where
 sub:=λb hb=>by simp at hb;simp[hb]
 frame:=λ_ _ _ st k=>⟨st.1.keep λo e=>k it (by simp) o e,st.2.keep λo e=>k a (by simp) o e⟩
 item:=λi s Q E hi st k=>by
  have Dv:i<(aem (w.params.setOrder a ep) es).toList.length:=by rw[aad]at hi;exact hi
  refine mV (nx:=0) (v:=((aem (w.params.setOrder a ep) es).toList[i]).2) st.1 st.2 rfl (λQ E q=>mZ ht st.2 ?_) λh' x sb=>k _ h' s.toks ?_ ⟨x,st.2.keep λo e=>sb.extBut a o Bu e⟩ λb o hb e=>sb.extBut b o (λz=>hb (by simp[z])) e
  ·rw[<- abb,aab Dv];exact q
  ·rw[aal,aab Dv];rfl
 done:=λs Q E st k=>by
  refine jX hh st.1 st.2 rfl (λQ E q=>mZ ht st.2 ?_) λh' x=>k h' s.toks λb o hb e=>x b o (λz=>hb (by simp[z])) e
  rw[aad,<- abb,aan (aak _)]
  exact q
 self:=λi s Q E st h=>jW st.1 h
theorem qD(xs:Array Nat)(hz:xs.size<=1):adk xs 0=0:=by
 unfold adk
 rcases aaZ xs.size 1 with h|h
 ·have:xs.size=0:=by omega
  rw[this];rfl
 ·have:xs.size=1:=by omega
  rw[this]
  unfold adR
  simp only[adx,↓reduceIte,Nat.not_lt_zero]
  unfold adR
  rfl
theorem xN(xs:Array Nat)(p:Nat)(hz:xs.size=1)(hp:xs[0]?=some p):adk xs (p+1)=1:=by
 unfold adk
 rw[hz]
 unfold adR
 have e:xs.getD 0 (p+1)=p:=by rw[adD,hp];rfl
 simp only[adx,↓reduceIte]
 rw[show (0+1) / 2=0 from rfl,e,if_pos (abF p)]
 unfold adR
 rfl
theorem walk1(hh:A.handled=none)(ht:w.params.followText "set-order" = false)(Bu:a≠it)(hl:t.led=true)(hz:es.size<=1)(hf:t.fits es.size=true):
  Walks prog w A it [it,a,it] [it] (es.toList.map (·.2)).length (λi v=>(es.toList.map (·.2))[i]?=some v)
   (λi h=>Bh h it (.int ((if i=0 then 0 else t.place.getD 0 0+1:Nat):Int) 0) i a es.size ep/\BM h a es ep t):=by
 have Nx:t.place.size=es.size:=by
  unfold SetTable.fits at hf
  rw[aaT]at hf
  exact eq_of_beq hf.1
 refine⟨λb hb=>by simp at hb;simp[hb],λ_ _ _ st k=>⟨st.1.keep λo e=>k it (by simp) o e,st.2.keep λo e=>k a (by simp) o e⟩,λi s Q E hi st k=>?_,λs Q E st k=>?_,λi s Q E st h=>jW st.1 h⟩
 ·have h1:es.toList.length=1:=by rw[aad]at hi;rw[aav]at hi ⊢;omega
  have Jv:es.size=1:=by rw[<- aav];exact h1
  have Ul:i=0:=by rw[aad,h1]at hi;omega
  subst Ul
  have AV:0<es.toList.length:=by rw[h1];exact adx
  obtain⟨p,hp⟩:∃p,t.place[0]?=some p:=⟨_,abf (by rw[Nx,Jv];exact adx)⟩
  have hg:t.place.getD 0 0=p:=by rw[adD,hp];rfl
  rw[if_pos rfl]at st
  refine mV (nx:=p+1) (v:=(es.toList[0]).2) st.1 st.2 rfl (λQ E q=>km ht st.2 hl hz ?_) λh' x sb=>k _ h' s.toks ?_ ⟨?_,st.2.keep λo e=>sb.extBut a o Bu e⟩ λb o hb e=>sb.extBut b o (λz=>hb (by simp[z])) e
  ·rw[qD _ (by rw[Nx];exact hz),hp,<- abb,aab AV];exact q
  ·rw[aal,aab AV];rfl
  ·rw[if_neg (by omega),hg];exact x
 ·rcases aaZ es.size 1 with h|h
  ·have h0:es.size=0:=by omega
   rw[aad,aav,h0,if_pos rfl]at st
   refine jX hh st.1 st.2 h0 (λQ E q=>km ht st.2 hl hz ?_) λh' x=>k h' s.toks λb o hb e=>x b o (λz=>hb (by simp[z])) e
   rw[qD _ (by rw[Nx];exact hz),aei (by omega)];exact q
  ·have Jv:es.size=1:=by omega
   rw[aad,aav,Jv,if_neg (by decide)]at st
   obtain⟨p,hp⟩:∃p,t.place[0]?=some p:=⟨_,abf (by rw[Nx,Jv];exact adx)⟩
   have hg:t.place.getD 0 0=p:=by rw[adD,hp];rfl
   rw[hg]at st
   refine jX hh st.1 st.2 Jv (λQ E q=>km ht st.2 hl hz ?_) λh' x=>k h' s.toks λb o hb e=>x b o (λz=>hb (by simp[z])) e
   rw[xN _ p (by rw[Nx];exact Jv) hp,aei (by omega)];exact q
theorem Mt(hh:A.handled=none)(Bu:a≠it)(hT:T≠it)(hv:vs.length=pl.length)(hp:∀i p:Nat,pl[i]?=some p->∃h v,es[p]?=some (h,v)/\vs[i]?=some v):
  Walks prog w A it [it,a,T] [it] vs.length (λi v=>vs[i]?=some v) (λi h=>Bh h it (.ref T) i a es.size ep/\BM h a es ep t/\Ht h T pl) where
 sub:=λb hb=>by simp at hb;simp[hb]
 frame:=λ_ _ _ st k=>⟨st.1.keep λo e=>k it (by simp) o e,st.2.1.keep λo e=>k a (by simp) o e,st.2.2.keep λo e=>k T (by simp) o e⟩
 item:=λi s Q E hi st k=>by
  obtain⟨h,v,e1,e2⟩:=hp i _ (aab (by rw[<- hv];exact hi))
  exact rN st.1 st.2.1 rfl st.2.2 (aab (by rw[<- hv];exact hi)) e1 λh' x sb=>k _ h' s.toks e2 ⟨x,st.2.1.keep λo e=>sb.extBut a o Bu e,st.2.2.keep λo e=>sb.extBut T o hT e⟩ λb o hb e=>sb.extBut b o (λz=>hb (by simp[z])) e
 done:=λs Q E st k=>t8 hh st.1 st.2.1 rfl st.2.2 (aan (by omega)) λh' x=>k h' s.toks λb o hb e=>x b o (λz=>hb (by simp[z])) e
 self:=λi s Q E st h=>jW st.1 h
theorem rX(d:α):∀l:List α,(aaM l.length).map (λp=>l.getD p d)=l:=λl=>by
 refine abK λi=>?_
 rw[aal]
 rcases aaZ i l.length with h|h
 ·rw[abJ h,aab h,aer,aae,aab h];rfl
 ·rw[aan (by rw[ack];exact h),aan h];rfl
theorem Bm.typeIs(x:Bm prog w s.heap a ss):s.TypeIs (.ref a) "set" := let ⟨o,_,_,_,_,ho,hc,_⟩:=x;⟨o,ho,hc.1⟩
theorem Ni{Q:Value->Shared->Prop}(hh:A.handled=none)(hS:Bm prog w s.heap a ss)
  (h:∀(h':Heap) (d:Drawn) (it T:Addr) (vs:List Value) (ks:List Str) (St:Nat->Heap->Prop),s.heap.objs.size<=it->s.heap.objs.size<=T->acg vs ks->ks.Perm ss->(∀b o,s.heap.get? b=some o->h'.get? b=some o) ->
   Walks prog w A it [it,a,T] [it] vs.length (λi v=>vs[i]?=some v) St->St 0 h'->Q (.ref it) {s with heap:=h',drawn:=d}):wpAny (model prog w) A (pyIter (.ref a)) Q E s:=by
 have hT:=hS.typeIs
 obtain⟨o,es,ep,t,ks,ho,hex,hd,Ly,Ir,p,hb,hf,Ez,A5⟩:=hS
 have AV:=aaj ho
 refine adP hT PySem.F.slot_set_iter (aaW PySem.F.slot_set_iter hT mE ?_ (PySem.F.args_set_iter_1 _))
 unfold ace.«frozenset.__iter__» Builtin.Frozenset.slot0 slotArgs
 simp only[List.isEmpty_nil,abY,aa0,↓reduceIte,bind_assoc,adB,bne_self_eq_false]
 unfold Builtin.Frozenset.addrOf Builtin.Frozenset.sizeOf
 refine aaa (aaf ?_)
 try dsimp only
 refine aaa (aaf ?_)
 refine aaa (aaa (acV ho hd hf (aaf ?_)))
 have hS:BM s.heap a es ep t:=⟨o,ho,hd,hf⟩
 have QH:∀(Q:Bool->Shared->Prop) (E:Value->Shared->Prop),Q (!w.params.followText "set-order" && (!t.plain && decide (es.size > 1))) s->wpAny (model prog w) A.in1 (setDrawn a) Q E s:=λQ E q=>by
  unfold setDrawn
  refine aaa (acF ho hd hf ?_)
  dsimp only
  unfold setsByText
  exact aaa (aaa (acT (aaf (aaf q))))
 refine aaa (QH _ _ ?_)
 have plain:∀(vs:List Value) (ks:List Str) (St:Nat->Heap->Prop),acg vs ks->ks.Perm ss->Walks prog w A s.heap.objs.size [s.heap.objs.size,a,s.heap.objs.size] [s.heap.objs.size] vs.length (λi v=>vs[i]?=some v) St ->
   (∀h':Heap,Bh h' s.heap.objs.size (.int ((0:Nat):Int) 0) 0 a es.size ep->BM h' a es ep t->St 0 h')->wpAny (model prog w) A.in1 (do
     let first <- pure (rawInt 0)
     let e <- setEpoch a
     let it <- newFields "set_iterator" [first,rawInt 0,aar a,rawInt es.size,rawInt e]
     ret it) (λfin s'=>∃v,fin=.done (.ret v)/\∃T' r,s'.TypeIs v T'/\typeLookup (.type T') (aax "__next__")=pure (some r)/\Q v s') E s:=by
  intro vs ks St h1 h2 W Im
  refine aaa (aaf ?_)
  refine aaa (wpAny_setEpoch_of ho hd hf ?_)
  refine aaa (aa4 (aaf ⟨_,rfl, "set_iterator",_,⟨_,aai _ rfl,rfl⟩,AM.lookup,?_⟩))
  exact h _ s.drawn _ _ vs ks St (aak _) (aak _) h1 h2 (λb o e=>aac _ e) W (Im _ ⟨_,aai _ rfl,rfl,rfl⟩ (hS.keep λo e=>aac _ e))
 cases ht:w.params.followText "set-order" with
 |true=>
  rw[abY,aeL,if_neg aaB]
  obtain⟨k1,a1,a2⟩:=cS ((lY (w.params.setOrder a ep) es).map (·.2)) Ir
  exact plain _ k1 _ a1 (a2.trans p) (Ms hh ht (aaq AV)) λh' x y=>⟨x,y⟩
 |false=>
  rcases aaZ 1 es.size with hz|hz
  ·rw[A5 (by omega),decide_eq_true hz]
   refine(?_:wpAny _ _ (if true=true then _ else _) _ _ _)
   rw[if_pos rfl]
   refine aaa (fz _ _ _ _ ack λpl d pp=>?_)
   refine aaa ?_
   unfold newTuple
   have hlen:pl.length=es.size:=by rw[pp.length_eq,ack]
   refine aa4 ?_ (by
    show ((pl.map λ(i:Nat)=>rawInt i).toArray).size<=sizeLine
    rw[aag,aad,hlen];exact ae8 hb)
   refine aaa (wpAny_setEpoch_of (aac _ ho) hd hf ?_)
   refine aaa (aa4 (aaf ⟨_,rfl, "set_iterator",_,⟨_,aai _ rfl,rfl⟩,AM.lookup,?_⟩))
   have e0:(pl.map (λp=>(es.toList.getD p (0,.none)).2)).Perm (es.toList.map (·.2)):=by
    have q:=pp.map (λp=>(es.toList.getD p (0,.none)).2)
    rw[<- aav]at q
    have e:=congrArg (List.map (·.2)) (rX ((0:Int),aa6) es.toList)
    rw[aaA]at e
    exact q.trans (by rw[<- e];exact .refl _)
   obtain⟨k1,a1,a2⟩:=cS e0 Ir
   refine h _ d _ s.heap.objs.size _ k1 _ ?_ (aak _) a1 (a2.trans p) (λb o e=>aac _ (aac _ e))
    (Mt (t:=t) (ep:=ep) (es:=es) (pl:=pl) hh ?_ ?_ (aad ..) λi q hq=>?_) ⟨⟨_,aai _ rfl,rfl,rfl⟩,hS.keep λo e=>aac _ (aac _ e),⟨_,_,aac _ (aai _ rfl),rfl⟩⟩
   ·rw[aa3];exact abU _
   ·rw[aa3];exact aaq (abi AV)
   ·rw[aa3];exact aaq (abF _)
   ·have hm:q∈aaM es.size:=pp.mem_iff.mp (abh hq)
    have RU:q<es.toList.length:=by rw[aav];exact List.mem_range.mp hm
    refine⟨_,_,(by rw[<- abb];exact aab RU),?_⟩
    rw[aal,hq,aer,aae,aab RU];rfl
  ·rw[decide_eq_false (by omega),af1,af1,if_neg aaB]
   exact plain _ ks _ Ir p (walk1 hh ht (aaq AV) (Ez ht) hz hf) λh' x y=>⟨x,y⟩
end L2
namespace L2
open PySem PySem.Spec PyProof.Rows PySem.Calls PyProof.V
variable{prog:aaI}{w:World}{A:Around}{E:Value->Shared->Prop}{s:Shared}
variable{r:Addr}{Q:Bool->Shared->Prop}
theorem uU(hT:s.TypeIs (.ref r) "set")(h:Q false s):wpAny (model prog w) A (afR (.ref r)) Q E s:=by
 unfold afR
 refine aaa (wpAny_specialOf hT PySem.F.slot_set_len.lookup ?_)
 generalize hn:("set.__len__" : String)=nm
 wp_delta
 rw[show splitId nm=some ("set", "__len__")from by subst hn;decide +kernel]
 subst hn
 refine aaa (afs (T := "set") (b:=true) hT (by rw[afU];kernel_rfl) ?_)
 refine aej (λq=>absurd q (by decide)) λ_=>aej (λ_=>?_) λq=>absurd (by decide +kernel) q
 exact aaa (acX hT (aaf h))
variable{ss:List Str}
theorem xt{R:Result->Shared->Prop}{S:Addr}(hh:A.handled=none)(hX:Bm prog w s.heap r ss)(R9:S≠r)(res:Value)(c₀:Nat)(hS:s.heap.get? S=some {cls:=.type "list",data:=.seq #[] c₀})(hn:ss.length<=sizeLine)
  (hR:∀h' tk d acc c' ks,(∀b o,b≠S->s.heap.get? b=some o->h'.get? b=some o)->h'.get? S=some {cls:=.type "list",dict:=none,data:=.seq acc c',slots:=#[]}->acg acc.toList ks->ks.Perm ss->R (.ok (.ret res)) {s with heap:=h',toks:=tk,drawn:=d}) :
  wpAny (model prog w) A.in1 (adC (.ref S) (.ref r) res)
   (λfin s'=>match fin with|.done f=>R (.ok f) s'|.again c'=>c'.quiet=true/\ad5 (model prog w) A c' R s') (λe s'=>R (.error e) s') s:=by
 have RZ:=aaj hS
 unfold adC
 refine aaa (acX (T := "set") hX.typeIs ?_)
 have h1:Builtin.List.listSameRef (.ref S) (.ref r)=false:=by simp[Builtin.List.listSameRef,R9]
 have h2:(abD "set" == abD "list")=false:=by decide
 have h3:(abD "set" == abD "tuple")=false:=by decide
 simp only[h1,h2,h3,Bool.or_false,aa0,if_false]
 refine aaa (Ni hh hX λhp d it T vs ks St l1 l2 a1 a2 kp W st=>?_)
 have hz:vs.length<=sizeLine:=by rw[a1.length,a2.length_eq];exact hn
 have Sa:S∉[it,r,T]:=by
  simp only[aa5,aaQ,or_false,not_or]
  exact⟨aaq (aaG RZ l1),R9,aaq (aaG RZ l2)⟩
 have key:∀(h:Heap) (c₁ tk:Nat),St 0 h->(∀b o,b≠S->s.heap.get? b=some o->h.get? b=some o)->h.get? S=some {cls:=.type "list",data:=.seq #[] c₁} ->
   ad5 (model prog w) A (.builtin "list.extend.loop" ⟨[.ref S,.ref it,res],[]⟩) R {s with heap:=h,toks:=tk,drawn:=d}:=by
  intro h c₁ tk Im hk hS₁
  refine codeAny_extend_loopS W.toS hz S Sa res vs.length 0 _ #[] c₁ rfl (abd _) Im hS₁ (ItemsOf.nil _) λs' acc c' hm QT LB=>?_
  rw[Moved.eq_with hm]
  have Ut:acc.toList=vs:=by
   refine abK λi=>?_
   rcases aaZ i vs.length with q|q
   ·have hi:i<acc.size:=by rw[LB.1];exact q
    rw[abb,abf hi]
    exact(LB.2 i _ (abf hi)).symm
   ·rw[aan q,aan (by rw[aav,LB.1];exact q)]
  refine hR s'.heap s'.toks d acc c' ks (λb o hb e=>hm.heap b o (λq=>?_) (hk b o hb e)) QT (by rw[Ut];exact a1) a2
  rcases List.mem_cons.mp q with z|q
  ·exact hb z
  ·exact absurd (aaj e) (by rw[List.mem_singleton.mp q];exact Nat.not_lt.mpr l1)
 have hS₁:=kp _ _ hS
 have Uw:Bm prog w hp r ss:=hX.keep λo e=>kp _ _ e
 refine aaa (aaN (uU Uw.typeIs ?_))
 refine aej (λ_=>?_) (λ_=>aaf ⟨ac3 afW _,key _ c₀ _ st (λb o _ e=>kp _ _ e) hS₁⟩)
 refine aaa (acY (aaa ?_))
 refine(?_:wpAny _ _ (updateSeq S (·.push .none) >>= λ_=>updateSeq S (·.pop)) _ _ _)
 refine aaa (wpAny_updateSeq hS₁ rfl ?_)
 have hS₂:=abr (aaY (·.push aa6)) hS₁ rfl
 refine wpAny_updateSeq (hz:=by seq_fits) hS₂ rfl ?_
 have hS₃:=abr (aaY (·.pop)) hS₂ rfl
 have Bi:∀b,b≠S->∀o,hp.get? b=some o->((hp.update S (aaY (·.push aa6))).update S (aaY (·.pop))).get? b=some o:=λb hb o e=>
  (adc _ _ (abG hb)).trans ((adc _ _ (abG hb)).trans e)
 exact aaf ⟨ac3 afW _,key _ _ _ (W.frame 0 _ _ st λb hb o e=>Bi b (λz=>Sa (z ▸ hb)) o e) (λb o hb e=>Bi b hb o (kp _ _ e)) hS₃⟩
theorem vz{R:List Value->Shared->Prop}(hh:A.handled=none)(hX:Bm prog w s.heap r ss)(hn:ss.length<=sizeLine)
  (h:∀(h':Heap) (tk:Nat) (d:Drawn) (vs:List Value) (ks:List Str),(∀b o,s.heap.get? b=some o->h'.get? b=some o)->acg vs ks->ks.Perm ss->R vs {s with heap:=h',toks:=tk,drawn:=d}) :
  wpAny (model prog w) A (collect (.ref r)) R E s:=by
 have AV:r<s.heap.objs.size:=by obtain⟨o,_,_,_,_,e,_⟩:=hX;exact aaj e
 unfold collect
 refine aaa (wpAny_runValue (acf entry_proto_collect' ?_))
 rw[abX PySem.F.plain_proto_collect _]
 refine(?_:wpAny _ A.in1 (newList [] >>= λl=>again (.builtin "list.__iadd__" ⟨[l,.ref r],[]⟩)) _ _ s)
 refine aaa (aa4 (aaf ⟨ac3 PySem.F.plain_list_iadd _,acf entry_list_iadd' ?_⟩))
 rw[abX PySem.F.plain_list_iadd _]
 have e1:(s.heap.push {cls:=.type "list",data:=.seq ([]:List Value).toArray}).get? s.heap.objs.size=some {cls:=.type "list",data:=.seq #[]}:=aai _ rfl
 refine(?_:wpAny _ A.in1 (adC (.ref s.heap.objs.size) (.ref r) (.ref s.heap.objs.size)) _ _ _)
 have key:=xt (A:=A) (s:={s with heap:=s.heap.push {cls:=.type "list",data:=.seq ([]:List Value).toArray}})
  (R:=λq s'=>∃h' tk d acc c' ks,q=.ok (.ret (.ref s.heap.objs.size))/\s'={s with heap:=h',toks:=tk,drawn:=d}/\(∀b o,s.heap.get? b=some o->h'.get? b=some o) /\
   h'.get? s.heap.objs.size=some {cls:=.type "list",dict:=none,data:=.seq acc c',slots:=#[]}/\acg acc.toList ks/\ks.Perm ss)
  hh (hX.keep λo e=>aac _ e) (abZ AV) (.ref s.heap.objs.size) 0 e1 hn
  λh' tk d acc c' ks k1 k2 k3 k4=>⟨h',tk,d,acc,c',ks,rfl,rfl,λb o e=>k1 b o (aaq (aaj e)) (aac _ e),k2,k3,k4⟩
 refine aaL key (λfin s' x=>?_) λe s' x=>?_
 ·cases fin with
  |done f=>
   obtain⟨h',tk,d,acc,c',ks,e,rfl,k1,k2,k3,k4⟩:=x
   cases e
   exact aaa (wpAny_load k2 (aaf (h h' tk d _ ks k1 k3 k4)))
  |again c₁=>
   refine⟨x.1,adH x.2 λq s₂ y=>?_⟩
   obtain⟨h',tk,d,acc,c',ks,rfl,rfl,k1,k2,k3,k4⟩:=y
   exact aaa (wpAny_load k2 (aaf (h h' tk d _ ks k1 k3 k4)))
 ·obtain⟨_,_,_,_,_,_,e',_⟩:=x
  cases e'
end L2
namespace L2
open PySem PySem.Spec PyProof.Rows
variable{prog:aaI}{w:World}{A:Around}{E:Value->Shared->Prop}{s:Shared}
variable{x:Value}{Q:Value->Shared->Prop}
theorem qK(hc:wpAny (model prog w) A.in1 (collect x) (λvs s1=>∃ss:List Str,acg vs ss/\vs.length<64 /\
   (∀(h2:Heap) (out:List Value) (Cr:List Str) (n:Nat),(∀b o,s1.heap.get? b=some o->h2.get? b=some o)->h2.get? s1.heap.objs.size=some (seqObj "list" out.toArray n)->acg out Cr->Cr.Perm ss->sortedS Cr=true->Q (.ref s1.heap.objs.size) {s1 with heap:=h2})) E s) :
  wpAny (model prog w) A (call (.builtin "sorted") [x]) Q E s:=by
 refine acS aeN ael aeo (afm _) ?_
 unfold ace.«sorted»
 refine aaa (m:=ae9 "sorted" 1 1 _) (aaf (aaa (aaL hc (λvs s1 hv=>?_) λ_ _ e=>e)))
 obtain⟨ss,hS,Ck,k⟩:=hv
 refine aaa (aco ?_ (by rw[aaz];omega))
 have JH:(s1.heap.push (seqObj "list" vs.toArray 0)).get? s1.heap.objs.size=some (seqObj "list" vs.toArray 0):=aai _ rfl
 refine aaa (aaN (aaW adi ⟨_,JH,rfl⟩ ac6 (list_sort_treeK strKind_oneLt JH hS.keysOf (λv₁ v₂ rest e=>keyKind_strs (by rw[<- e];exact hS)) Ck λst p q=>⟨_,rfl,?_⟩) (adL _)))
 obtain⟨Cr,b1,b2,b3⟩:=sorted_out_str hS p q
 obtain⟨n,at2⟩:=sortedHeap_at (out:=(arrOf st).map (·.2)) JH
 refine aaf ⟨_,rfl,k _ ((arrOf st).map (·.2)).toList Cr n (λb o e=>?_) (by rw[aeD];exact at2) b1 b2 b3⟩
 have lt:=aaj e
 rw[sortedHeap_old (aaq lt) (by rw[size_push'];exact abi lt)]
 exact aac _ e
variable{X:Cx}{pins:List (Addr×Obj)}{H:Hp}
theorem Inv.UQ{σ:List (Option V)}(I:Inv X pins σ H s)(d:Drawn):Inv X pins σ H {s with drawn:=d} :=
 ⟨I.ok,I.os,I.bare,I.base,I.loc,I.cell,I.free,I.BY,I.pin,I.zY,I.len⟩
def Fq(P:aaI)(w:World)(a:Addr)(ss:List Str):HO:=.ext λh=>Bm P w h a ss
variable{P:aaI}{h:Heap}{a:Addr}{ss:List Str}
theorem KJ(x:Bm P w h a ss):Af P w H h a (Fq P w a ss) :=
 ⟨x,(by obtain⟨o,_,_,_,_,e,_⟩:=x;exact⟨o,e⟩),λh1 h2 y k=>Bm.keep y k⟩
def K9(P:aaI)(w:World):List V->Hp->VK->Prop:=λxs H Q=>∃(p:Addr) (ss:List Str),xs=[.ref p]/\H p=some (.lst (ss.map V.str))/\ss.length<=1000/\∀l,H l=none->Q (.ref l) (upd H l (Fq P w l (Eo ss)))
theorem rm(hc:X.calm=true):zZ X (.type "set") (K9 X.prog X.w):=by
 intro pins s σ H xs us Q I r h
 obtain⟨p,ss,rfl,hq,hl,k⟩:=h
 obtain⟨u,rfl,ru⟩:=r.one
 cases ru
 obtain⟨_,iD,n,rv,g⟩:=I.zY p _ hq
 refine mM (I.ok.hd hc) ⟨_,g,rfl,n,rfl⟩ (by simpa using gL rv) (by unfold scanBound;omega) λh' tk q1 q2 q3=>?_
 exact⟨.ref s.heap.objs.size,_,I.laid (t':=tk) (o:=Fq X.prog X.w s.heap.objs.size (Eo ss)) (λb o e=>q2 b o (aaj e) e) (aak _) (KJ q1),rfl,k _ (I.zY.fresh (aak _))⟩
def KS(P:aaI)(w:World):List V->Hp->VK->Prop:=λxs H Q=>∃(a:Addr) (ss:List Str),xs=[.ref a]/\H a=some (Fq P w a ss)/\ss.length<64 /\
 ∀(l:Addr) (ts:List Str),H l=none->ts.Perm ss->ts.Pairwise (λa b=>¬ Ai b a)->Q (.ref l) (upd H l (.lst (ts.map V.str)))
theorem qY(hc:X.calm=true):zZ X (.builtin "sorted") (KS X.prog X.w):=by
 intro pins s σ H xs us Q I r h
 obtain⟨a,ss,rfl,ha,Ck,k⟩:=h
 obtain⟨u,rfl,ru⟩:=r.one
 cases ru
 obtain⟨x,_,_⟩:=I.zY a _ ha
 refine qK (vz (A:=X.A.in1) (I.ok.hd hc) x (by rw[aaz];omega) λh1 tk d vs ks kk a1 a2=>?_)
 refine⟨ks,a1,by rw[a1.length,a2.length_eq];exact Ck,λh2 out Cr n k2 e2 o1 o2 o3=>?_⟩
 have I1:Inv X pins σ H {s with heap:=h1,toks:=tk}:=I.kept kk
 have I2:=I1.laid (t':=tk) (a:=h1.objs.size) (o:=.lst (Cr.map V.str)) (λb o q=>k2 b o q) (aak _) ⟨by rw[aad,o2.length_eq,a2.length_eq,aaz];omega,out,n,cH o1,e2⟩
 exact⟨.ref h1.objs.size,_,I2.UQ d,rfl,k _ Cr (I1.zY.fresh (aak _)) (o2.trans a2) (dy o3)⟩
end L2
namespace Q
open PySem L2 PyProof.Rows
def kG(fa:WA):WE:=λenv P=>fa env λxs e=>match xs with
 |[.lst ys]=>∃ss,ys.mapM Bo=some ss/\ss.length<=1000/\(Eo ss).length<64/\∀ts,Fg (Eo ss) ts->P (.lst (ts.map .str)) e
 |_=>False
variable{ob:BG}{X:Cx}{a b c e:Expr}{es:List Expr}{f g h:WE}{fa:WA}{pos DF p p1 p2:Pos}{x:Str}
theorem qX(hc:X.calm=true)(hg:Gl X "sorted")(hm:X.mg "sorted" = none)(Up:Gl X "set")(Uc:X.mg "set" = none)(ha:Ek ob X [e] fa)(QG:aam [e] X.env=(false,eval e X.env)::aam [] X.env:=by rfl)
  (he:aam [.Call (.Name "set" p2) [e] [] DF] X.env=(false,eval (.Call (.Name "set" p2) [e] [] DF) X.env)::aam [] X.env:=by rfl) (Qq:(backTo DF (aam [] X.env)).any (·.1)=false:=by rfl) (A5:(backTo pos (aam [] X.env)).any (·.1)=false:=by rfl) :
  GS ob X (.Call (.Name "sorted" p) [.Call (.Name "set" p2) [e] [] DF] [] pos) (kG fa):=by
 obtain⟨t,ht,k⟩:=ha.ex
 refine⟨_,bE (qY hc) hg hm adg (bu (iM (rm hc) Up Uc PyProof.Rows.boot_set ht (by decide) (by decide) QG Qq) bN he) (by decide) (by decide) he A5,λZ F σ H env P Q K hf kk=>k Z F σ H env _ _ K hf λxs e1 vs F1 H1 p s1 K1 r1=>?_⟩
 split at p
 ·obtain⟨ss,hs,hl,Ck,p⟩:=p
  obtain⟨v,rfl,r⟩:=r1.one
  obtain⟨q,vs,rfl,h1,h2⟩:=r.lst K1.sF
  have:=cF gb hs h2
  subst this
  refine⟨q,ss,rfl,h1,hl,λl hn=>⟨l,_,rfl,ao,Ck,λm ts hm hp hw=>?_⟩⟩
  have sH:eQ H1 (upd H1 l (Fq X.prog X.w l (Eo ss))):=az hn
  have K2:=K1.move aq (aj K1.sF sH) sH λ_ h=>.inl h
  exact kk _ e1 _ F1 _ (p ts ⟨hp,hw⟩) s1 (λ_=>by simp) (K2.own hm ⟨_,ao,cK ts⟩)
 ·exact p.elim
end Q
namespace L2
open PySem PySem.Spec PyProof.Rows PyProof.Rows.KTD
def EL(h:Heap)(a:Addr)(D:List (Str×Addr)):Prop:=TabOf (λ(f:Addr) v=>v=aar f) h a D
variable{prog:aaI}{w:World}{A:Around}{E:Value->Shared->Prop}{s:Shared}
variable{a:Addr}{D:List (Str×Addr)}
theorem EL.typeIs(T:EL s.heap a D):s.TypeIs (.ref a) "dict" := let ⟨_,o,_,_,ho,hc,_⟩:=T;⟨o,ho,hc.1⟩
variable{f:Addr}{k:Str}{tk:Tok}{Q:Value->Shared->Prop}
theorem xr(T:EL s.heap a D)(hf:datumAt k D=some f)(h:Q (.ref f) {s with toks:=s.toks+1}):
  wpAny (model prog w) A (ado (.ref a) (.str k tk)) Q E s:=by
 have hT:=T.typeIs
 obtain⟨_,o,es,ep,ho,hc,hd,hr⟩:=T
 unfold ado
 try with_reducible refine aaN ?_
 refine aaa (adO hT (by decide) (aaa (abk (name:=aax "__getitem__") hT slot_dict_getitem (aaW slot_dict_getitem hT entry_dict_getitem (?_:wpAny _ _ (dictGet a (.str k tk) >>= _) _ _ s) (args_dict_getitem _ _)))))
 unfold dictGet
 refine aaa (aaN (aaa (wpAny_pyHash_str (aaa (kt_dictFind_strs (s:={s with toks:=s.toks+1}) ho hd (by obtain⟨l⟩:=es;simpa using hr.exact) ?_)))))
 obtain⟨v,hv,rfl⟩:=hr.find_some hf
 have hq:findBy (λk v=>v.isStr k) es k=some (.ref f):=by
  rw[<- hv]
  obtain⟨l⟩:=es
  simp[findBy]
 rw[findBy_of_findIdx?]at hq
 cases hi:es.findIdx? λe=>e.key.isStr k with
 |none=>rw[hi]at hq;cases hq
 |some i=>
  rw[hi]at hq
  have Ln:(es[i]?).map (·.val)=some (.ref f):=hq
  refine aaa (wpAny_dictEntries (s:={s with toks:=s.toks+1}) ho hd (aaf ?_))
  rw[Ln]
  exact aaf ⟨_,rfl,aaf h⟩
variable{X:Cx}
def S6(D:List (Str×Addr))(tk:TE):TE:=λσ H Q=>tk σ H λy H1=>∃k f,y=.str k/\datumAt k D=some f/\Q (.ref f) H1
variable{pos:Pos}
theorem ur{tb:Str}{dd:Addr}{ke:Expr}{tk:TE}{p1:Pos}(hg:Gl X tb)(hm:X.mg tb=some (.ref dd))(hT:∀h,X.K.In h->EL h dd D)(hk:PE X ke tk)(hs:LX ke)(C1:(tb==("__debug__" : Str))=false:=by decide):
  PE X (.Subscript (.Name tb p1) ke pos) (S6 D tk):=by
 intro pins s σ H Q I h
 refine wj PySem.F.slot_dict_getitem.lookup hs (ml I hg hm (Aw (hk pins s σ H _ I h) λiv s2 ⟨y,H2,I2,ry,k,f,ey,hf,q⟩=>?_) C1)
 subst ey
 obtain⟨t,rfl⟩:=ry
 have T:=hT _ I2.Ex
 exact⟨T.typeIs,xr T hf ⟨.ref f,H2,I2.tok _,rfl,q⟩⟩
structure L3(P:aaI)(w:World)(K:aah)(mg:Str->Option Value)(base:Heap)(k:Nat)(f:Addr)(sp:Sp):Prop where
 ex:∃fd ps,Ae P w K mg base Bn k f fd ps sp/\abM K (.ref f)=true/\Binds K fd ps []
def KA(i:Nat)(E:XK)(Ou:List (Addr×Sp))(t:TA):TE:=λσ H Q=>∃f sp,(f,sp)∈Ou/\σ[i]?=some (some (.ref f))/\t σ H λvs H1=>sp vs H1 Q E
variable{i:Nat}{x:Str}{e:Expr}{es:List Expr}{p:Pos}
theorem uA{E:XK}{k:Nat}{t:TA}{Ou:List (Addr×Sp)}(hS:∀q∈Ou,L3 X.prog X.w X.K X.mg X.base k q.1 q.2)(hr:AB k X.A)(hx:Fi Bn X E)(ho:PE X (.Name x p) (AR i))(ha:PA X (e::es) t)
  (he:aam (e::es) X.env=(false,eval e X.env)::aam es X.env:=by rfl) (A5:(backTo pos (aam es X.env)).any (·.1)=false:=by rfl):PE X (.Call (.Name x p) (e::es) [] pos) (KA i E Ou t):=by
 intro pins s σ H Q I h
 obtain⟨f,sp,hm,hσ,q⟩:=h
 obtain⟨fd,ps,F,hk,hb⟩:=(hS _ hm).ex
 refine ac2 (Aw (ho pins s σ H (λv H1=>v=.ref f/\t σ H1 λvs H2=>sp vs H2 Q E) I ⟨.ref f,hσ,rfl,q⟩) λv s1 ⟨y,H1,I1,ry,ey,q1⟩=>?_)
 subst ey
 obtain rfl:v=aar f:=ry
 refine PySem.W.callWith_K (h₀:=X.base) I1.ok.mod.kin hk (Aw (ha pos pins s1 σ H1 _ I1 q1) λus s2 ⟨vs,H2,I2,r,q2⟩=>⟨I2.Ex,?_⟩) he A5
 exact rQ F hr hb .nil hx I2 r (by rw[aby];exact q2)
end L2
namespace Q
open PySem L2 PyProof.Rows PyProof.Rows.KTD
variable{M:Md}{Z:Zn}{F H:Hp}{σ:L2.St}{env:En}{i:Nat}
theorem zW.Py{v:Option V}(K:zW M Z F σ H env)(h:env[i]?=some none):zW M Z F (σ.set i v) H env:=by
 obtain⟨fp,L⟩:=K.sl
 have ne:∀j s,env[j]?=some (some s)->j≠i:=λj s e z=>by rw[z,h]at e;cases e
 refine⟨K.sF,K.sG,K.pr,K.gr,K.nw,by rw[aeu];exact K.len,fp,λj s e=>?_,L.al,L.dj,λj a s e1 e2 e3=>?_⟩
 ·obtain⟨v',h1,h2⟩:=L.at' j s e
  exact⟨v',by rw[aaE (abG (ne j s e))];exact h1,h2⟩
 ·rw[aaE (abG (ne j s e2))];exact L.oa j a s e1 e2 e3
def HR(i:Nat)(T:List (Str×Fd))(fk:WE)(fa:WA):WS:=λP env=>fk env λx e=>match x with
 |.str k=>∃D,datumAt k T=some D/\e[i]?=some none/\fa e λxs e2=>D xs λr=>P.rt r e2
 |_=>False
variable{α β:Type}
theorem i0(g:α->β)(k:Str):∀(T:List (Str×α)),datumAt k (T.map λq=>(q.1,g q.2))=(datumAt k T).map g
 |[]=>rfl
 |(x,d)::T=>by
  show (if decide (k=x)=true then some (g d)else datumAt k (T.map λq=>(q.1,g q.2)))=aff g (if decide (k=x)=true then some d else datumAt k T)
  split
  ·rfl
  ·exact i0 g k T
theorem ni{k:Str}{d:α}:∀{T:List (Str×α)},datumAt k T=some d->∃x,(x,d)∈T
 |(x,d')::T,h=>by
  have h':(if decide (k=x)=true then some d' else datumAt k T)=some d:=h
  split at h'
  ·cases h';exact⟨x,aay⟩
  ·obtain⟨y,hy⟩:=ni h';exact⟨y,aaw _ hy⟩
variable{ob:BG}{X:Cx}{e ke:Expr}{es:List Expr}{fk:WE}{fa:WA}{x y tb:Str}{p p1 p2 p3 py pos MW DF MV:Pos}
variable{k n:Nat}
theorem u5(i:Nat){dd:Addr}{T:List (Str×Addr×Fd)}(hN:X.N.Nodup)(hy:X.N[i]?=some y)(hl:Loc X.env.scope y)(hg:Gl X tb)(hm:X.mg tb=some (.ref dd))(hT:∀h,X.K.In h->EL h dd (T.map λq=>(q.1,q.2.1)))
  (hS:∀q∈T,L3 X.prog X.w X.K X.mg X.base k q.2.1 (Gc (md ob X) n q.2.2)) (hr:AB k X.A) (hk:Am ob X ke fk) (J6:LX ke) (ho:PE X (.Name y p2) (AR i)) (ha:FQ ob X (e::es) fa) (hn:es.length+1=n:=by rfl)
  (he:aam (e::es) X.env=(false,eval e X.env)::aam es X.env:=by rfl) (A5:(backTo MV (aam es X.env)).any (·.1)=false:=by rfl) (C1:(tb==("__debug__" : Str))=false:=by decide)
  (hs:acP (.Subscript (.Name tb p1) ke pos) (some (.Name y py)) MW.line X.env=pure false:=by rfl) (hf:X.fn y=true\/X.env.scope.names.lookup y=some .local:=by first|exact .inl rfl|exact .inr rfl|assumption) :
  Ej ob X [.Assign [.Name y py] (.Subscript (.Name tb p1) ke pos) MW,.Return (some (.Call (.Name y p2) (e::es) [] MV)) DF] (HR i (T.map λq=>(q.1,q.2.2)) fk fa):=by
 obtain⟨t1,h1,k1⟩:=hk.ex
 obtain⟨t2,h2,k2⟩:=ha.ex
 have QT:∀q∈T.map (λq=>(q.2.1,Gc (md ob X) n q.2.2)),L3 X.prog X.w X.K X.mg X.base k q.1 q.2:=λq hq=>by
  obtain⟨z,hz,rfl⟩:=List.mem_map.mp hq
  exact hS z hz
 refine⟨_,bT (eS hN hy hl (ur hg hm hT h1 J6 C1) hs hf) (dk (iL (uA (E:=E0) QT hr Fv ho h2 he A5))),λZ F σ H env P D K hf L=>?_⟩
 refine k1 Z F σ H env _ _ K hf λv e1 u F1 H1 pv s1 K1 r1=>?_
 split at pv
 ·rename_i kk
  obtain⟨Df,hd,hi,pv⟩:=pv
  rw[i0]at hd
  cases hz:datumAt kk T with
  |none=>rw[hz]at hd;cases hd
  |some z=>
   rw[hz]at hd
   have ez:z.2=Df:=aau hd
   subst ez
   cases r1
   obtain⟨x',Js⟩:=ni hz
   refine⟨kk,z.1,rfl,by rw[i0,hz];rfl,?_⟩
   have K2:zW (md ob X) Z F1 (σ.set i (some (.ref z.1))) H1 e1:=K1.Py hi
   have AV:i<σ.length:=by
    have:=K1.len
    rcases aaZ i e1.length with q|q
    ·omega
    ·rw[aan q]at hi;cases hi
   refine⟨z.1,_,List.mem_map.mpr ⟨(x',z),Js,rfl⟩,by rw[ab6 AV],k2 Z F1 _ H1 e1 _ _ K2 pv λxs e2 vs F2 H2 p2 G6 s2 K3 r2=>?_⟩
   refine⟨F2,xs,λr=>P.rt r e2,K3.sF,r2,by rw[G6];exact hn,p2,λr v F' H' pr sH sF Jk nw rv=>?_⟩
   exact L.rt r e2 v _ F' H' pr (aj s1 (aj s2 sF)) (K3.move sF Jk sH nw) rv
 ·exact pv.elim
end Q
namespace L2
open PySem PySem.Spec PyProof.Rows
variable{X:Cx}
def wD(K:aah):List V->Hp->VK->Prop:=λxs H Q=>∃p vs nm,xs=[.ref p]/\AW K H p vs/\vs.length<64/\Rows K H vs nm /\
 ∀l (ix:List Nat),H l=none->ix.length=vs.length->ix.Nodup->(∀i∈ix,i<vs.length)->(ix.map λi=>nm.getD i ⟨#[]⟩).Pairwise Ai->Q (.ref l) (upd H l (.lst (ix.map λi=>vs.getD i .rW)))
theorem pU:zZ X (.builtin "sorted") (wD X.K):=by
 intro pins s σ H xs us Q I r h
 obtain⟨p,vs,nm,rfl,hq,Ck,R,k⟩:=h
 obtain⟨u,rfl,ru⟩:=r.one
 cases ru
 obtain⟨iD,rv,⟨o,g1,g2,n0,g3⟩,hz⟩:=I.tuple hq
 have hl:=rv.length
 exact iu (vs:=iD) (λR' g=>ae4 p (.inr rfl) g1 g2 g3 (λh1 kk=>g h1 s.toks kk) (by rw[aag,aaz];omega)) λh1 tk kk=>jV (I.kept kk) rv (by rw[aaz];omega) Ck R k
def Fk(r d:Addr):HO:=.ext λh=>h.IsValuesView r d
variable{P:aaI}{w:World}{H:Hp}{h:Heap}{r d:Addr}
theorem Ko(x:h.IsValuesView r d):Af P w H h r (Fk r d) :=
 ⟨x,(by obtain⟨o,e,_⟩:=x;exact⟨o,e⟩),λh1 h2 ⟨o,e,r⟩ k=>⟨o,k o e,r⟩⟩
def Kx(to:TE):TE:=λσ H Q=>to σ H λv H1=>∃d kvs,v=.ref d/\H1 d=some (.dK kvs)/\∀r,H1 r=none->Q (.ref r) (upd H1 r (Fk r d))
variable{o:Expr}{to:TE}{pos:Pos}
theorem ut{apos:Pos}(ho:PE X o to)(Bz:acr o "values" X.env (eval o X.env)=eval o X.env:=by rfl)(By:(apos.endLine==pos.line)=true:=by rfl):
  PE X (.Call (.Attribute o "values" apos) [] [] pos) (Kx to):=by
 intro pins s σ H Q I h
 refine wpAny_Call_method0_late Bz By (Aw (ho pins s σ H _ I h) λv s1 ⟨x,H1,I1,r1,q1⟩=>?_)
 obtain⟨d,kvs,ex,hd,q1⟩:=q1
 subst ex
 cases r1
 obtain⟨t1,t2,t3⟩:=oO I1 (.inl ⟨kvs,.inl hd⟩)
 refine⟨"dict", "dict.values",ad7,PySem.F.slot_dict_values,PySem.F.type_dict_values,t1,t2,ade rfl (PySem.evalArgs_none ?_)⟩
 obtain⟨hz,_,vs,rel,dd⟩:=hU I1.zY hd
 refine call_meetsIn PySem.F.slot_dict_values dd.typeIs PySem.F.entry_dict_values (PySem.F.args_dict_values_1 _) (meets_dict_values (aN X.prog X.w) d t3) ⟨⟨vs,dd⟩,?_⟩
 exact⟨.ref s1.heap.objs.size,_,I1.laid (t':=s1.toks) (o:=Fk s1.heap.objs.size d) (λb o e=>aac _ e) (aak _) (Ko ⟨_,aai _ rfl,rfl,rfl⟩),rfl,q1 _ (I1.zY.fresh (aak _))⟩
def KU(K:aah):List V->Hp->VK->Prop:=λxs H Q=>∃(r d:Addr) (kvs:List (Key×V)) (nm:List Str),xs=[.ref r]/\H r=some (Fk r d)/\H d=some (.dK kvs)/\kvs.length<64/\Rows K H (kvs.map (·.2)) nm /\
 ∀l (ix:List Nat),H l=none->ix.length=(kvs.map (·.2)).length->ix.Nodup->(∀i∈ix,i<(kvs.map (·.2)).length)->(ix.map λi=>nm.getD i ⟨#[]⟩).Pairwise Ai->Q (.ref l) (upd H l (.lst (ix.map λi=>(kvs.map (·.2)).getD i .rW)))
variable{kvs:List (Key×V)}{vs:List (Key×Value)}
theorem xh(r:KV kvs vs):zP (kvs.map (·.2)) (vs.map (·.2)):=by
 induction r with
 |nil=>exact .nil
 |cons h t ih=>exact .cons h.2 ih
theorem qZ(hc:X.calm=true):zZ X (.builtin "sorted") (KU X.K):=by
 intro pins s σ H xs us Q I rr h
 obtain⟨r,d,kvs,nm,rfl,hr,hd,Ck,R,k⟩:=h
 obtain⟨u,rfl,ru⟩:=rr.one
 cases ru
 obtain⟨hv,_,_⟩:=I.zY r _ hr
 obtain⟨hz,_,vs,rel,dd⟩:=hU I.zY hd
 obtain⟨o,es,ep,ho,hx,Gs,hk,hp,hn⟩:=dd
 have D:s.heap.DictAt (aN X.prog X.w) d vs ep:=⟨o,es,ho,hx,Gs,hk,hp,hn⟩
 have hl:=rel.length
 refine iu (vs:=vs.map (·.2)) (λR' g=>PySem.W.kdu_collect (A:=X.A.in1) (PySem.W.kdl_values (knd:=aN X.prog X.w) (kvs:=vs) (ep:=ep)) (I.ok.hd hc) ⟨hv,D⟩ (by rw[aaz];omega) λh1 tk acc kk hit=>?_)
  λh1 tk kk=>jV (I.kept kk) (xh rel) (by rw[aad,aaz];omega) (by rw[aad];exact Ck) R k
 have e:acc.toList=vs.map (·.2):=by
  refine abK λi=>?_
  rcases aaZ i acc.size with q|q
  ·obtain⟨k',Qz⟩:=hit.2 i _ (abf q)
   rw[abb,abf q,aal,Qz];rfl
  ·rw[aan (by rw[aav];exact q),aan (by rw[aad,<- hit.1];exact q)]
 rw[e]
 exact g h1 tk kk
end L2
namespace Q
open PySem L2 PyProof.Rows
def mF(fa:WA):WE:=λenv P=>fa env λxs e=>match xs with
 |[.tup ys]=>∃nm:List Str,ys.mapM Gy=some nm/\nm.Nodup/\ys.length<64/\∀ix:List Nat,ix.length=ys.length->(∀i∈ix,i<ys.length)->(ix.map λi=>nm.getD i ⟨#[]⟩).Pairwise Ai->P (.lst (ix.map λi=>ys.getD i .rW)) e
 |_=>False
def E9(i:Nat):WE:=λenv P=>match env[i]? with
 |some (some ⟨1,.Av kvs⟩)=>∃nm:List Str,(kvs.map (·.2)).mapM Gy=some nm/\nm.Nodup/\kvs.length<64/\∀ix:List Nat,ix.length=kvs.length->(∀i∈ix,i<kvs.length)->(ix.map λi=>nm.getD i ⟨#[]⟩).Pairwise Ai->P (.lst (ix.map λi=>(kvs.map (·.2)).getD i .rW)) env
 |_=>False
variable{K:aah}{F:Hp}{vs:List (Key×V)}{xs:List (Key×PV)}
theorem uc(h:zK K F vs xs):zL K F (vs.map (·.2)) (xs.map (·.2)):=by
 induction h using zK.ind with
 |nil=>exact .nil
 |cons a r ih=>exact .cons a ih
def Ef(kvs:List (Key×PV))(k:Key):List (Key×PV):=kvs.filter λq=>decide (q.1≠k)
def FJ(i:Nat)(fk:WE):WE:=λenv P=>(∃kvs,env[i]?=some (some ⟨1,.Av kvs⟩))/\fk env λy e=>match e[i]?,D5 y with
 |some (some ⟨1,.Av kvs⟩),some k=>∃z,A4 kvs k=some z/\P z (e.set i (some ⟨1,.Av (Ef kvs k)⟩))
 |_,_=>False
variable{k:Key}
theorem rV(h:zK K F vs xs):zK K F (Eg vs k) (Ef xs k):=by
 induction h using zK.ind with
 |nil=>exact .nil
 |@cons k' v x vs xs a r ih=>
  unfold Eg Ef at ih ⊢
  rw[ab8,ab8]
  dsimp only
  split
  ·exact .cons a ih
  ·exact ih
variable{ob:BG}{X:Cx}{e ke:Expr}{es:List Expr}{fa:WA}{fk:WE}{x:Str}{pos p p1 apos Bl DF:Pos}
theorem tm(hg:Gl X "sorted")(hm:X.mg "sorted" = none)(ha:Ek ob X (e::es) fa)
  (he:aam (e::es) X.env=(false,eval e X.env)::aam es X.env:=by rfl) (A5:(backTo pos (aam es X.env)).any (·.1)=false:=by rfl):GS ob X (.Call (.Name "sorted" p) (e::es) [] pos) (mF fa):=by
 obtain⟨t,ht,k⟩:=ha.ex
 refine⟨_,bE pU hg hm adg ht (by decide) (by decide) he A5,λZ F σ H env P Q K hf kk=>k Z F σ H env _ _ K hf λxs e1 vs F1 H1 p s1 K1 r1=>?_⟩
 split at p
 ·obtain⟨nm,hs,nd,hl,p⟩:=p
  obtain⟨v,rfl,r⟩:=r1.one
  obtain⟨q,vs,rfl,h1,h2⟩:=r.tup K1.sF
  have g1:=(bx hs).1
  have hlen:=h2.len
  refine⟨q,vs,nm,rfl,h1,by omega,⟨by omega,λi v x hv hx=>?_,nd⟩,λl ix hn i1 i2 i3 i4=>?_⟩
  ·obtain⟨y,hy,ry⟩:=h2.Gx hv
   obtain⟨y',e1,e2⟩:=ky hs i x hx
   rw[hy]at e1;cases e1
   exact mz K1.sF ry e2
  ·exact kk _ e1 _ F1 _ (p ix (by omega) (λi hi=>by have:=i3 i hi;omega) i4) s1 (λ_=>by simp) (K1.own hn ⟨_,ao,dB h2 ix λi hi=>by have:=i3 i hi;omega⟩)
 ·exact p.elim
theorem u7(i:Nat)(hc:X.calm=true)(hg:Gl X "sorted")(hm:X.mg "sorted" = none)(ho:PE X (.Name x p1) (AR i))(Bz:acr (.Name x p1) "values" X.env (eval (.Name x p1) X.env)=eval (.Name x p1) X.env:=by rfl)(By:(apos.endLine==DF.line)=true:=by rfl)
  (he:aam [.Call (.Attribute (.Name x p1) "values" apos) [] [] DF] X.env=(false,eval (.Call (.Attribute (.Name x p1) "values" apos) [] [] DF) X.env)::aam [] X.env:=by rfl) (A5:(backTo pos (aam [] X.env)).any (·.1)=false:=by rfl) :
  GS ob X (.Call (.Name "sorted" p) [.Call (.Attribute (.Name x p1) "values" apos) [] [] DF] [] pos) (E9 i):=by
 refine⟨_,bE (qZ hc) hg hm adg (bu (ut ho Bz By) bN he) (by decide) (by decide) he A5,λZ F σ H env P Q K hf kk=>?_⟩
 unfold E9 at hf
 split at hf
 ·rename_i kvs ei
  obtain⟨nm,hs,nd,hl,hf⟩:=hf
  obtain⟨d,h1,vs,h2,h3⟩:=K.ownAt (.inl rfl) ei
  have h4:=uc h3
  have g1:=(bx hs).1
  have hlen:=h4.len
  rw[aad,aad]at hlen
  rw[aad]at g1
  refine⟨_,h1,d,vs,rfl,h2,λr hn=>?_⟩
  have sH:eQ H (upd H r (Fk r d)):=az hn
  have K2:=K.move aq (aj K.sF sH) sH λ_ h=>.inl h
  have QH:d≠r:=λz=>by rw[z,hn]at h2;cases h2
  refine⟨r,d,vs,nm,rfl,ao,(by rw[ak QH];exact h2),by omega,⟨by rw[aad];omega,λi v x hv hx=>?_,nd⟩,λl ix Nz i1 i2 i3 i4=>?_⟩
  ·obtain⟨y,hy,ry⟩:=h4.Gx hv
   obtain⟨y',e1,e2⟩:=ky hs i x hx
   rw[hy]at e1;cases e1
   exact mz K2.sF ry e2
  ·rw[aad]at i1 i3
   exact kk _ env _ F _ (hf ix (by omega) (λi hi=>by have:=i3 i hi;omega) i4) aq (λ_=>by simp) (K2.own Nz ⟨_,ao,dB h4 ix λi hi=>by have:=i3 i hi;rw[aad];omega⟩)
 ·exact hf.elim
theorem qr(i:Nat)(ho:PE X (.Name x p) (AR i))(hk:Am ob X ke fk)(m:M1 X (.Name x p) "pop" apos ke Bl:=by exact⟨rfl,rfl,rfl,rfl⟩):Am ob X (.Call (.Attribute (.Name x p) "pop" apos) [ke] [] Bl) (FJ i fk):=by
 obtain⟨t,ht,k⟩:=hk.ex
 refine⟨_,uw ho ht m,λZ F σ H env P Q K hf kk=>?_⟩
 obtain⟨⟨kvs,ei⟩,hf⟩:=hf
 obtain⟨d,h1,vs,h2,h3⟩:=K.ownAt (.inl rfl) ei
 refine⟨_,h1,d,rfl,.inl ⟨vs,.inl h2⟩,k Z F σ H env _ _ K hf λy e1 v F1 H1 p s1 K1 r1=>?_⟩
 split at p
 ·rename_i Tp kx Ml OL
  obtain⟨z,hz,p⟩:=p
  obtain⟨d',g1,SN,g2,g3⟩:=K1.ownAt (.inl rfl) Ml
  rw[h1]at g1;cases g1
  rcases g3.val (k:=kx)with ⟨_,e2⟩|⟨w1,w2,NU,e2,e3⟩
  ·rw[e2]at hz;cases hz
  ·rw[e2]at hz;cases hz
   have hv:v=kV kx:=HG (M:=md ob X) (F:=F1) (H:=H1) (.inl r1) OL
   refine⟨SN,kx,w1,g2,hv,NU,?_⟩
   exact kk _ _ _ F1 _ p s1 (K1.write (.inl rfl) Ml h1 ⟨_,ao,rV g3⟩) e3
 ·exact p.elim
variable{P:aaI}{w:World}{mg:Str->Option Value}{base:Heap}
variable{k:Nat}{CJ:Addr}{fd:abR}{ps:List Str}{DO:FdOT}
end Q
namespace L2
open PySem PySem.Spec PyProof.Rows
variable{X:Cx}{e st:Expr}{te JP:TE}{pos p2:Pos}
end L2
namespace Q
open PySem L2 PyProof.Rows
variable{ob:BG}{X:Cx}{e:Expr}{f:WE}{pos:Pos}
def HW:List V->Hp->VK->Prop:=λxs H Q=>∃(d:Addr) (kvs:List (Key×V)) (ss:List Str),xs=[.ref d]/\H d=some (.dK kvs)/\kvs.map (·.1)=ss.map aao/\ss.length<=1000/\∀l,H l=none->Q (.ref l) (upd H l (.lst (ss.map V.str)))
theorem vp(hc:X.calm=true):zZ X (.type "list") HW:=by
 intro pins s σ H xs us Q I r h
 obtain⟨d,kvs,ss,rfl,hd,hk,hz,q⟩:=h
 obtain⟨u,rfl,ru⟩:=r.one
 cases ru
 obtain⟨_,lo,vs,Qy,hD⟩:=I.zY d _ hd
 obtain⟨ep,QN⟩:=hD.dictAt
 have FD:vs.map (·.1)=ss.map aao:=by rw[<- hk];exact Qy.keys.symm
 have hlen:vs.length=ss.length:=by have:=congrArg acb FD;simpa using this
 refine PySem.W.kdl_call (PySem.W.kdl_dict (knd:=aN X.prog X.w) (kvs:=vs) (ep:=ep) lo) (I.ok.hd hc) QN (by rw[hlen,aaz];omega) λh1 tk acc c kk g hit=>?_
 have hl:acc.toList.length=vs.length:=by rw[aav];exact hit.1
 have hS:acg acc.toList ss:=kA FD hl λj v e=>hit.2 j v (by rw[<- abb];exact e)
 exact⟨.ref s.heap.objs.size,_,I.laid (t':=tk) (a:=s.heap.objs.size) (o:=.lst (ss.map V.str)) kk (aak _) ⟨by rw[aad,aaz];omega,acc.toList,c,cH hS,by simpa using g⟩,rfl,q _ (I.zY.fresh (aak _))⟩
def jq:List PV->Option PV
 |[.Av kvs]=>if kvs.length<=1000 then ((kvs.map (·.1)).mapM Cu).map λss=>.lst (ss.map .str)else none
 |_=>none
theorem vq:El ob X HW jq:=by
 intro Z F σ H env vs xs z Q K rv hz k
 unfold jq at hz
 split at hz
 ·split at hz
  ·rename_i kvs hl
   obtain⟨ss,hs,rfl⟩:=Option.map_eq_some_iff.mp hz
   obtain⟨v,rfl,r⟩:=rv.one
   obtain⟨q,vs,rfl,h1,h2⟩:=r.Av K.sF
   have e:=g6 hs
   have hn:ss.length=kvs.length:=by have:=congrArg acb e;simpa using this.symm
   exact⟨q,vs,ss,rfl,h1,by rw[h2.keys];exact e,by omega,λl hl=>k _ _ (λ_=>by simp) (K.own hl ⟨_,ao,cK ss⟩)⟩
  ·cases hz
 ·cases hz
end Q
namespace L2
open PySem PySem.Spec PyProof.Rows
variable{X:Cx}{o e:Expr}{to te:TE}{apos pos:Pos}
def Kw(K:aah)(to te:TE):TE:=λσ H Q=>to σ H λx H1=>∃a:Str,x=.str a/\te σ H1 λy H2=>∃(p:Addr) (ss:List Str),y=.ref p/\AW K H2 p (ss.map V.str)/\JoinOk a ss=true/\Q (.str (afA a ss)) H2
variable{w:World}{A:Around}{E Q:Value->Shared->Prop}{s:Shared}{x:Str}{t:Tok}
theorem uS{prog:aaI}{a:Sem Value}
  (h:wpAny (model prog w) A a (λv s₁=>∃D l,v=.ref D/\(∃o n,s₁.heap.get? D=some o/\o.cls=abD "tuple" /\ o.data=Data.seq (strValues l).toArray n)/\JoinOk x (l.map (·.1))=true/\∀(t':Tok) (k:Nat),Q (.str (afA x (l.map (·.1))) t') {s₁ with toks:=k}) E s) :
  MethodOnS prog w A E (aax "join") (.str x t) pos [(false,a)] Q s :=
 ⟨"str", "str.join",F.plainAttrs_str,F.slot_str_join,F.type_str_join,ads s x t,(λ_ e=>nomatch e),method1_meets F.slot_str_join F.entry_str_join (aaL h (λv s₁ ⟨D,l,hv,ht,zY,hq⟩=>by
  subst hv
  have Ip:=(Bool.not_eq_true' _).mp zY
  exact⟨ads s₁ x t,F.args_str_join_2 _ _,_,meets_str_join_tuple x t D l Ip,ht,post_join l ⟨joinFit_length Ip,hq⟩⟩) λ_ _ e=>e)⟩
theorem um(ho:PE X o to)(he:PE X e te)(Bz:acr o "join" X.env (eval o X.env)=eval o X.env:=by rfl)(hs:aam [e] X.env=[(false,eval e X.env)]:=by rfl)(By:(apos.endLine==pos.line)=true:=by rfl):
  PE X (.Call (.Attribute o "join" apos) [e] [] pos) (Kw X.K to te):=by
 intro pins s σ H Q I h
 refine Call_method1 Bz hs By (Aw (ho pins s σ H _ I h) λv s1 ⟨x,H1,I1,r1,a,e1,q1⟩=>?_)
 subst e1
 obtain⟨t,rfl⟩:=r1
 refine uS (Aw (he pins s1 σ H1 _ I1 q1) λu s2 ⟨y,H2,I2,r2,p,ss,e2,hp,hj,q2⟩=>?_)
 subst e2
 cases r2
 obtain⟨iD,rv,⟨ob,g1,g2,n0,g3⟩,_⟩:=I2.tuple hp
 obtain⟨l,e1,e2⟩:=kQ rv
 subst e1
 refine⟨p,l,rfl,⟨ob,n0,g1,g2,by rw[e2];exact g3⟩,hj,λt' k=>?_⟩
 exact⟨.str _,H2,I2.kept (t':=k) (λb o e=>e),⟨t',rfl⟩,q2⟩
end L2
namespace Q
open PySem L2 PyProof.Rows
variable{ob:BG}{X:Cx}{a b:Expr}{f g:WE}{apos pos:Pos}
def GK(f g:WE):WE:=λenv P=>f env λx e1=>match x with
 |.str a=>g e1 λy e2=>match y with
  |.tup ys=>∃ss,ys.mapM Bo=some ss/\JoinOk a ss=true/\P (.str (afA a ss)) e2
  |_=>False
 |_=>False
theorem vc(ha:Am ob X a f)(hb:DQ ob X b g)(Bz:acr a "join" X.env (eval a X.env)=eval a X.env:=by rfl)(hs:aam [b] X.env=[(false,eval b X.env)]:=by rfl)(By:(apos.endLine==pos.line)=true:=by rfl):
  Am ob X (.Call (.Attribute a "join" apos) [b] [] pos) (GK f g):=by
 obtain⟨ta,ha,ka⟩:=ha.ex
 obtain⟨tb,hb,kb⟩:=hb.ex
 refine⟨_,um ha hb Bz hs By,λZ F σ H env P Q K hf kk=>ka Z F σ H env _ _ K hf λx e1 v F1 H1 p s1 K1 r1=>?_⟩
 split at p
 ·cases r1
  refine⟨_,rfl,kb Z F1 σ H1 e1 _ _ K1 p λy e2 u F2 H2 p2 s2 K2 r2=>?_⟩
  split at p2
  ·obtain⟨ss,es,hj,p2⟩:=p2
   obtain⟨q,vs,rfl,h1,h2⟩:=r2.tup K2.sF
   have:=cF gb es h2
   subst this
   exact⟨q,ss,rfl,h1,hj,kk _ e2 _ F2 H2 p2 (aj s1 s2) K2 (.str _)⟩
  ·exact p2.elim
 ·exact p.elim
end Q
namespace Pre
open PySem L2
def top(i:Nat):Stmt:=PySem.Challenge.pw_cheaptree_k35_exchanges_shown.main.body.getD i (.Pass ⟨0,0,0,0⟩)
abbrev lQ:Stmt:=top 2
abbrev j4:Stmt:=top 3
abbrev iB:Stmt:=top 4
abbrev iH:Stmt:=top 5
abbrev lR:Stmt:=top 6
abbrev fU:Stmt:=top 7
abbrev iA:Stmt:=top 8
abbrev Gg:Stmt:=top 9
abbrev dY:Stmt:=top 11
abbrev dX:Stmt:=top 12
abbrev iE:Stmt:=top 13
abbrev cT:Stmt:=top 21
abbrev lS:Stmt:=top 22
abbrev fV:Stmt:=top 23
abbrev eR:Stmt:=top 24
abbrev iz:Stmt:=top 25
abbrev j0:Stmt:=top 26
abbrev iy:Stmt:=top 27
abbrev j5:Stmt:=top 29
abbrev j6:Stmt:=top 31
abbrev iC:Stmt:=top 32
abbrev di:Stmt:=top 33
abbrev BO:Stmt:=top 35
abbrev G0:Stmt:=top 36
abbrev Gf:Stmt:=top 37
abbrev HU:Stmt:=top 38
abbrev HQ:Stmt:=top 39
abbrev KN:Stmt:=top 40
abbrev PC:Stmt:=top 41
abbrev Gh:Stmt:=top 42
abbrev lP:Stmt:=top 43
abbrev HS:Stmt:=top 44
abbrev iG:Stmt:=top 45
abbrev gU:Stmt:=top 46
abbrev gS:Stmt:=top 47
abbrev HN:Stmt:=top 48
abbrev lO:Stmt:=top 49
abbrev KO:Stmt:=top 50
structure Named(K:aah)(mg:Str->Option Value)(x:Str)(f:Addr):Prop where
 mg:mg x=some (.ref f)
 kp:abM K (.ref f)=true
structure Df(K:aah)(mg:Str->Option Value)(name:Str)(st:Stmt)(ps:List Str) where
 f:Addr
 fd:abR
 F:Hu K name name st f fd
 b:Binds K fd ps []
 n:Named K mg name f
structure TabAt(K:aah)(mg:Str->Option Value)(x:Str)(D:List (Str×Addr)) where
 a:Addr
 mg:mg x=some (.ref a)
 tab:∀h:Heap,K.In h->EL h a D
abbrev P8:Nat:=26
abbrev P9:Nat:=29
section
set_option genInjectivity false
set_option genSizeOf false
structure Ev(K:aah)(mg:Str->Option Value) where
 E6:Df K mg "is_word" lQ ["thing"]
 Ea:Df K mg "is_whole" j4 ["thing"]
 Dd:Df K mg "is_rising" iB ["words"]
 Di:Df K mg "are_words" iH ["thing"]
 E7:Df K mg "is_open" lR ["net", "tie"]
 Cw:Df K mg "ties_by_name" fU ["net"]
 Dc:Df K mg "open_ties" iA ["net"]
 GC:Df K mg "ranks" Gg ["net"]
 Bb:Df K mg "cheaper_first" dY ["net", "names"]
 BP:Df K mg "without_round" dX ["net", "names"]
 Dg:Df K mg "cheapest" iE ["net"]
 Bk:Df K mg "are_ends_and_cost" cT ["parts"]
 E8:Df K mg "is_deed" lS ["thing"]
 AI:Df K mg "place_comes" fV ["net", "deed"]
 Az:Df K mg "place_leaves" eR ["net", "deed"]
 Ba:Df K mg "tie_comes" iz ["net", "deed"]
 BA:Df K mg "tie_goes" j0 ["net", "deed"]
 A9:Df K mg "tie_costs" iy ["net", "deed"]
 Eb:Df K mg "changed" j5 ["net", "deed"]
 Ec:Df K mg "between" j6 ["ahead", "behind"]
 De:Df K mg "exchange" iC ["net", "deed"]
 BB:Df K mg "shows_exchange" di ["net", "deed", "told"]
 CT:Df K mg "_law_begin" BO ["_law_script"]
 G8:Df K mg "_law_next" G0 ["_law_state", "_law_many"]
 GB:Df K mg "_law_words" Gf ["_law_state", "_law_many"]
 IA:Df K mg "_law_cost" HU ["_law_state", "_law_which"]
 Iy:Df K mg "_law_ends" HQ ["_law_state", "_law_family", "_law_many", "_law_k"]
 LN:Df K mg "_law_net" KN ["_law_state", "_law_most", "_law_ties_most"]
 Q5:Df K mg "_law_of" PC ["_law_state", "_law_some"]
 GF:Df K mg "_law_fresh" Gh ["_law_state", "_law_taken"]
 E5:Df K mg "_law_new_tie" lP ["_law_state", "_law_net_here", "_law_far"]
 Iz:Df K mg "_law_deed" HS ["_law_state", "_law_net_here"]
 Dh:Df K mg "_law_changed" iG ["_law_net_here", "_law_deed_here"]
 CS:Df K mg "_law_cheapest" gU ["_law_net_here"]
 CQ:Df K mg "_law_exchange" gS ["_law_net_here", "_law_deed_here"]
 Bg:Df K mg "_law_same" HN ["_law_found", "_law_due"]
 E4:Df K mg "_law_papers" lO ["_law_state", "_law_net_here", "_law_due"]
 GD:Df K mg "law" KO ["_law_script"]
 Aa:Addr
 Cc:∃c,Bb.fd.code=.ref c/\abT K c Aa=true
 ES:TabAt K mg "DEEDS" [("place",AI.f),("leave",Az.f),("tie",Ba.f),("untie",BA.f),("cost",A9.f)]
 Ff:mg "ValueError" = none
 Kf:mg "abs" = none
 FL:mg "all" = none
 Dn:mg "bool" = none
 Fe:mg "dict" = none
 IE:mg "int" = none
 zT:mg "isinstance" = none
 A0:mg "len" = none
 Eh:mg "list" = none
 Hc:mg "max" = none
 Ke:mg "min" = none
 CC:mg "range" = none
 Kd:mg "set" = none
 Ah:mg "sorted" = none
 Hb:mg "str" = none
 Ab:mg "tuple" = none
 ID:mg "zip" = none
 Cz:∃t,mg "LONGEST_WORD" = some (.int 8 t)
end
variable{K:aah}{a:Addr}{H:Hp}
theorem xf{l:Addr}{xs:List V}{js:List (Option Nat)}{σ:St}{QQ:Hp->Prop}{g:TG}{tc:TT}{te:TE}(Pv:Nat->List V->Hp->Prop)(h0:Pv 0 [] H)(hl:∀i ys H,i<=xs.length->Pv i ys H->Bs K H a xs)
  (hs:∀i x ys H (N:List V->Hp->Prop),xs[i]?=some x->Pv i ys H->(∀ys' H',Pv (i+1) ys' H'->N ys' H')->g x (AE js σ) H λσ4 H4=>tc σ4 H4 λb H5=>if b=true then te σ4 H5 λy H6=>H6 l=some (.lst ys)/\ys.length<sizeLine/\N (ys++[y]) (upd H6 l (.lst (ys++[y])))else N ys H5)
  (hd:∀ys H,Pv xs.length ys H->QQ H) :
  ∃W:Nat->Nat->List V->Hp->Prop,(∃m,W 0 m [] H)/\∀i m ys H2,W i m ys H2 ->
  ((Jb K a).stop i H2/\QQ H2)\/((Jb K a).go i H2/\∀x H3,(Jb K a).yld i H2 x H3->g x (AE js σ) H3 λσ4 H4=>tc σ4 H4 λb H5=>
   if b=true then te σ4 H5 λy H6=>H6 l=some (.lst ys)/\ys.length<sizeLine/\∃m',m'<m/\W (i+1) m' (ys++[y]) (upd H6 l (.lst (ys++[y])))else ∃m',m'<m/\W (i+1) m' ys H5):=by
 refine⟨λi m ys H=>m=xs.length - i/\i<=xs.length/\Pv i ys H,⟨xs.length,by simp,abd _,h0⟩,?_⟩
 rintro i m ys H2 ⟨rfl,hi,p⟩
 have q:=hl i ys H2 hi p
 by_cases AV:i<xs.length
 ·refine .inr ⟨⟨xs,xs[i],q,by simp[AV]⟩,λx H3 y=>?_⟩
  obtain⟨e,y⟩:=y
  subst e
  exact hs i x ys _ (λys' H'=>∃m',m'<xs.length - i/\m'=xs.length - (i+1)/\i+1<=xs.length/\Pv (i+1) ys' H') (y xs q) p λys' H' h=>⟨_,by omega,rfl,AV,h⟩
 ·have e:i=xs.length:=by omega
  subst e
  exact .inl ⟨⟨xs,q,aak _⟩,hd ys _ p⟩
theorem w6:(["_law_cell"]:List Str).Nodup:=by decide +kernel
variable{P:aaI}{w:World}{mg:Str->Option Value}{base:Heap}
theorem sq{xs:List V}(h:H a=some (.lst xs)):Bs K H a xs:=.inl (.inl h)
theorem HM:aB ["_law_state", "_law_many", "_law_digit"] ["_law_state", "_law_many"] (au G0):=⟨rfl,rfl,rfl,by decide +kernel,rfl,by decide +kernel,by decide +kernel⟩
variable{fd:abR}
theorem wW{f:Addr}(F:Hu K "_law_next" "_law_next" G0 f fd):Ae P w K mg base Bn 1 f fd ["_law_state", "_law_many"] HK:=by
 refine F.ok HM (λvs H Q E h=>?_) (λAo A outer s H vs Q E hr h=>?_)
 ·obtain⟨a,b,m,rfl,_⟩:=h
  rfl
 ·obtain⟨a,b,m,rfl,S,m0,m1,k⟩:=h
  have hu:=hr.Kp
  refine⟨_,bT (uh abO (PW.pt (pw_and (gf (kh hu) (bU AG (pv 0) aJ (λ_ _=>rfl)) (lg bN) (C9 _)) (pw_and1 (gf zy (bU AG (bU AG (pv 0) aJ (λ_ _=>rfl)) aJ (λ_ _=>rfl)) aJ (C9 _)))))
    (dk (qe (vH PySem.F.plainAttrs_list PySem.F.slot_list_pop PySem.F.type_list_pop uL (bU AG (pv 0) aJ (λ_ _=>rfl)) (bu aJ bN)))))
   (bT (vE (gf (kh hu) (bU AG (pv 0) aJ (λ_ _=>rfl)) (lg bN) (C9 _))
    (bT (eS (i:=2) HM.nd rfl (Or.inl rfl) (bK eU (bU AG (bU AG (pv 0) aJ (λ_ _=>rfl)) aJ (λ_ _=>rfl)) (pv 1)))
    (bT (kY (bK lZ (bU AG (bU AG (pv 0) aJ (λ_ _=>rfl)) aJ (λ_ _=>rfl)) (pv 1)) (og (bU AG (pv 0) aJ (λ_ _=>rfl)) aJ jY))
    (dk (iL (pv 2)))))
    qd)
   (bT (kY (bK eU (bK iP (bK lj (bU AG (pv 0) aJ (λ_ _=>rfl)) aJ) aJ) aJ) (og (pv 0) aJ jY))
   (dk (iL (bK eU (bK lZ (bK eU (bK lj (bU AG (pv 0) aJ (λ_ _=>rfl)) (bU AG (pv 0) aJ (λ_ _=>rfl))) aJ) aJ) (pv 1)))))),?_⟩
  refine⟨λn σ' H'=>σ'=[some (.ref a),some (.int m),none]/\FR a b H H'/\∃(ns:List Int) (z:Int),H' a=some (.lst [.ref b,.int z])/\H' b=some (.lst (ns.map V.int))/\(∀n∈ns,0<=n)/\0<=z/\z<2305843009213693951/\ns.length=n,?_,?_⟩
  ·obtain⟨ns,z,h1,h2,h3,h4,h5⟩:=S.st
   exact⟨_,rfl,FR.refl a b H,ns,z,h1,h2,h3,h4,h5,rfl⟩
  rintro n σ' H' ⟨rfl,hB,ns,z,ha,hb,hn,z0,z1,hl⟩
  have S':Fh H' a b:=⟨ns,z,ha,hb,hn,z0,z1⟩
  have behind:∀(H1:Hp),FR a b H H1->Fh H1 a b->HJ (MA (GY (DB (EW K) (DB (DZ K) (AR 0) (tC (.int 0))) (Mz Ku))) (HJ (Gb (DB (rI (λ_ j=>0<j) λi j=>.int (i % j)) (DB (DZ K) (DB (DZ K) (AR 0) (tC (.int 0))) (tC (.int 0))) (AR 1)) (CI 2))
    (HJ (Gb (DB (rI L4 λi j=>.int (i / j)) (DB (DZ K) (DB (DZ K) (AR 0) (tC (.int 0))) (tC (.int 0))) (AR 1)) (LF (DB (DZ K) (AR 0) (tC (.int 0))) (tC (.int 0)) G1)) (Kt (AR 2)))) JS)
    (HJ (Gb (DB (rI (λ_ j=>0<j) λi j=>.int (i % j)) (DB (Gj λi j=>.int (i+j)) (DB (rI Hv λi j=>.int (i*j)) (DB (DZ K) (AR 0) (tC (.int 1))) (tC (.int 6364136223846793))) (tC (.int 1442695040888963))) (tC (.int 2305843009213693951))) (LF (AR 0) (tC (.int 1)) G1))
     (Kt (DB (rI (λ_ j=>0<j) λi j=>.int (i % j)) (DB (rI L4 λi j=>.int (i / j)) (DB (rI (λ_ j=>0<j) λi j=>.int (i % j)) (DB (rI Hv λi j=>.int (i*j)) (DB (DZ K) (AR 0) (tC (.int 1))) (DB (DZ K) (AR 0) (tC (.int 1)))) (tC (.int 2305843009213693921))) (tC (.int 65537))) (AR 1))))
    {nx:=λ_ H'=>Q .rW H',rt:=Q} [some (.ref a),some (.int m),none] H1:=by
   intro H1 AH S1
   have Bu:=S1.ne
   obtain⟨ns,z,ha,hb,hn,z0,z1⟩:=S1.st
   refine⟨_,rfl,a,_,_,_,rfl,rfl,sq ha,ai (j:=0) rfl,abd _,λp hp=>?_⟩
   have JB:∀o,(upd H1 p o) a=some (.lst [.ref b,.int z]):=λo=>by rw[ak (aA ha hp)];exact ha
   have Gw:∀o,(upd H1 p o) b=some (.lst (ns.map V.int)):=λo=>by rw[ak (aA hb hp)];exact hb
   have S2:=S1.grow (o:=.lst []) hp
   have B2:=AH.grow (o:=.lst []) hp
   refine⟨b,p,_,rfl,rfl,sq (Gw _),sq ao,_,rfl,?_⟩
   cases ns with
   |nil=>
    refine D6 ?_
    refine⟨_,rfl,a,_,_,_,rfl,rfl,sq (JB _),ai (j:=1) rfl,_,_,rfl,rfl,.inr ⟨by decide,by decide⟩,_,_,rfl,rfl,_,_,rfl,rfl,(by show (0:Int)<_;decide),_,rfl,a,_,_,1,rfl,rfl,JB _,rfl,?_⟩
    have z2:0<=(z*6364136223846793+1442695040888963) % 2305843009213693951:=acl _ (by decide)
    have z3:(z*6364136223846793+1442695040888963) % 2305843009213693951<2305843009213693951:=abQ _ (by decide)
    have S3:=S2.KI z2 z3
    have B3:FR a b H (upd (upd H1 p (.lst [])) a (.lst [.ref b,.int ((z*6364136223846793+1442695040888963) % 2305843009213693951)])):=B2.KI
    refine⟨_,rfl,a,_,_,_,rfl,rfl,sq ao,ai (j:=1) rfl,_,rfl,a,_,_,_,rfl,rfl,sq ao,ai (j:=1) rfl,_,_,rfl,rfl,.inl ⟨by omega,by omega⟩,_,_,rfl,rfl,(by show (0:Int)<_;decide),_,_,rfl,rfl,⟨by decide,by decide⟩,_,rfl,_,_,rfl,rfl,m0,?_⟩
    exact k _ _ (acl _ (by omega)) (abQ _ m0) S3 B3
   |cons x r=>
    refine Ey ?_
    have x0:0<=x:=hn x aay
    refine⟨_,rfl,a,_,_,_,rfl,rfl,sq (JB _),ai (j:=0) rfl,b,_,_,_,rfl,rfl,sq (Gw _),ai (j:=0) rfl,_,rfl,_,_,rfl,rfl,m0,?_⟩
    refine⟨_,rfl,a,_,_,_,rfl,rfl,sq (JB _),ai (j:=0) rfl,b,_,_,_,rfl,rfl,sq (Gw _),ai (j:=0) rfl,_,rfl,_,_,rfl,rfl,⟨m0,m1⟩,_,rfl,a,_,_,_,rfl,rfl,sq (JB _),ai (j:=0) rfl,b,_,_,0,rfl,rfl,Gw _,(by simp[IQ]),_,rfl,?_⟩
    refine k _ _ (acl _ (by omega)) (abQ _ m0) (S2.Ji (ns:=x / m::r) λn hm=>?_) B2.Ji
    rcases List.mem_cons.mp hm with rfl|hm
    ·exact Int.ediv_nonneg x0 (by omega)
    ·exact hn n (aaw _ hm)
  refine⟨_,rfl,a,_,_,_,rfl,rfl,sq ha,ai (j:=0) rfl,abd _,λp hp=>?_⟩
  have JB:∀o,(upd H' p o) a=some (.lst [.ref b,.int z]):=λo=>by rw[ak (aA ha hp)];exact ha
  have Gw:∀o,(upd H' p o) b=some (.lst (ns.map V.int)):=λo=>by rw[ak (aA hb hp)];exact hb
  have S2:=S'.grow (o:=.lst []) hp
  have B2:=hB.grow (o:=.lst []) hp
  refine⟨b,p,_,rfl,rfl,sq (Gw _),sq ao,_,rfl,?_⟩
  cases ns with
  |nil=>
   refine D6 (D6 ?_)
   exact behind _ B2 S2
  |cons x r=>
   refine Ey ?_
   refine⟨_,rfl,a,_,_,_,rfl,rfl,sq (JB _),ai (j:=0) rfl,b,_,_,_,rfl,rfl,sq (Gw _),ai (j:=0) rfl,rfl,_,rfl,?_⟩
   refine Nj (λ_=>?_) (λ_=>behind _ B2 S2)
   refine⟨λσ' O1=>σ'=[some (.ref a),some (.int m),none]/\FR a b H O1/\O1 a=some (.lst [.ref b,.int z])/\O1 b=some (.lst (r.map V.int)),λσ' O1 h=>⟨r.length,by rw[<- hl,abA];exact abF _,h.1,h.2.1,r,z,h.2.2.1,h.2.2.2,λn hm=>hn n (aaw _ hm),z0,z1,rfl⟩,?_⟩
   refine⟨_,rfl,a,_,_,_,rfl,rfl,sq (JB _),ai (j:=0) rfl,.inl ⟨rfl,_,Bs.of (Gw _)⟩,b,_,0,0,_,rfl,rfl,Gw _,by decide,by decide,?_,rfl,rfl,B2.Ji,by rw[ak S'.ne];exact JB _,ao⟩
   simp[seqIndex?]
structure Bt(mg:Str->Option Value):Prop where
 len:mg "len" = none
 abs:mg "abs" = none
 range:mg "range" = none
 max:mg "max" = none
 sorted:mg "sorted" = none
 tuple:mg "tuple" = none
theorem DK:aB ["_law_script", "_law_seed", "_law_cell"] ["_law_script"] (au BO):=⟨rfl,rfl,rfl,by decide +kernel,rfl,by decide +kernel,by decide +kernel⟩
theorem uI{f:Addr}(F:Hu K "_law_begin" "_law_begin" BO f fd)(B:Bt mg):Ae P w K mg base Bn 1 f fd ["_law_script"] (jf K):=by
 refine F.ok DK (λvs H Q E h=>?_) (λAo A outer s H vs Q E hr h=>?_)
 ·obtain⟨a,ns,rfl,_⟩:=h
  rfl
 ·obtain⟨a,ns,rfl,hS,hlen,k⟩:=h
  refine⟨_,bT (eS (i:=1) DK.nd rfl (Or.inl rfl) (bK iP (bE i7 (by rfl) B.len aa7 (bu (pv 0) bN)) aJ))
   (bT (rY abO rfl (qf (j8 lN (pv 0) lX (lW aJ))) (aG (i:=2) DK.nd rfl (Or.inl rfl))
    (dk (eS (i:=1) DK.nd rfl (Or.inl rfl) (bK eU (bK iP (bK iP (bK lj (pv 1) aJ) (bK eU (pv 2) (bK oB aJ aJ))) aJ) aJ))))
   (dk (iL (lg (bu (vG (N:=["_law_cell"]) (js:=[none]) (qf (j8 lN (pv 0) lX (lW aJ))) (λ_ _ _ _ _=>aG (i:=0) w6 rfl (Or.inl rfl))
    (λ_ _ _ _ _=>sd (gf zx (bE pq (by rfl) B.abs PyProof.Rows.boot_abs (bu (pv 0) bN)) (bK oB aJ aJ) (C9 _)))
    (λ_ _ _ _ _=>bE pq (by rfl) B.abs PyProof.Rows.boot_abs (bu (pv 0) bN)) mw) (bu (pv 1) bN)))))),?_⟩
  refine⟨_,rfl,a,_,rfl,.inl hS,_,_,rfl,rfl,?_⟩
  have cut:∀(H':Hp),eQ H H'->Dm (ns.map V.int) none (some 63)=ns.map V.int:=λ_ _=>by
   unfold Dm
   rw[HT.DU]
   have e:HT.AL (ns.map V.int).length (ns.map V.int).length (some 63)=(ns.map V.int).length:=by
    have:=HT.EV (ns.map V.int).length (ns.map V.int).length 63
    refine this.trans ?_
    rw[aad];omega
   rw[e,Nat.sub_zero,afZ,acu]
  have grow:∀{H':Hp} {p:Addr} {o:HO},eQ H H'->H' p=none->eQ H (upd H' p o):=λ{H' p o} hs hp c u h=>by
   have q:=hs c u h
   rw[ak (aA q hp)];exact q
  refine⟨_,rfl,63,rfl,a,_,rfl,hS,λp hp=>?_⟩
  rw[cut H (eQ.refl H)]
  have OJ:Bs K (upd H p (.lst (ns.map V.int))) p (ns.map V.int):=sq ao
  refine⟨p,rfl,⟨_,OJ⟩,u4 (K:=K) (a:=p) (xs:=ns.map V.int) (λi σ H2=>∃(z:Int) (v:Option V),σ=[some (.ref a),some (.int z),v]/\H2=upd H p (.lst (ns.map V.int))/\0<=z/\z<2305843009213693951)
   ⟨_,none,rfl,rfl,by show (0:Int)<=((ns.map V.int).length:Nat)+3;omega,by show ((ns.map V.int).length:Nat)+(3:Int)<_;rw[aad];omega⟩ (λi σ H2 _ ⟨_,_,_,e,_⟩=>by rw[e];exact OJ) ?_ ?_⟩
  ·rintro i y σ H2 hi ⟨z,v,rfl,rfl,z0,z1⟩
   obtain⟨c,rfl⟩:∃c,y=V.int c:=by
    rw[aal]at hi
    cases e:ns[i]? with
    |none=>rw[e]at hi;cases hi
    |some c=>rw[e]at hi;exact⟨c,(aau hi).symm⟩
   refine⟨_,rfl,_,_,rfl,rfl,.inr ⟨by decide,by decide⟩,_,rfl,_,_,rfl,rfl,⟨by decide,by decide,by decide⟩,_,_,rfl,rfl,(by show (0:Int)<10 ^ 30;decide),_,_,rfl,rfl,_,_,rfl,rfl,_,_,rfl,rfl,(by show (0:Int)<_;decide),?_⟩
   exact⟨_,_,rfl,rfl,acl _ (by decide),abQ _ (by decide)⟩
  ·rintro σ H2 ⟨z,v,rfl,rfl,z0,z1⟩
   have Jv:eQ H (upd H p (.lst (ns.map V.int))):=grow (eQ.refl H) hp
   refine⟨_,rfl,63,rfl,a,_,rfl,Jv.seq hS,λp2 Mc=>?_⟩
   rw[cut H (eQ.refl H)]
   have Hy:eQ H (upd (upd H p (.lst (ns.map V.int))) p2 (.lst (ns.map V.int))):=grow Jv Mc
   refine⟨p2,rfl,⟨_,sq ao⟩,λl hl=>?_⟩
   generalize JC:upd (upd H p (.lst (ns.map V.int))) p2 (.lst (ns.map V.int))=H3 at Hy hl ⊢
   have Ny:H3 p2=some (.lst (ns.map V.int)):=by rw[<- JC];exact ao
   refine xf (K:=K) (a:=p2) (l:=l) (xs:=ns.map V.int) (λi ys H4=>∃ms:List Int,ys=ms.map V.int/\(∀n∈ms,0<=n)/\ms.length<=i/\H4=upd H3 l (.lst ys))
    ⟨[],rfl,(λ_ h=>nomatch h),aak _,rfl⟩ (λi ys H4 _ ⟨_,_,_,_,e⟩=>by rw[e];exact sq (by rw[ak (aA Ny hl)];exact Ny)) ?_ ?_
   ·rintro i x ys H4 N hi ⟨ms,rfl,hm,Ub,rfl⟩ hN
    obtain⟨c,rfl⟩:∃c,x=V.int c:=by
     rw[aal]at hi
     cases e:ns[i]? with
     |none=>rw[e]at hi;cases hi
     |some c=>rw[e]at hi;exact⟨c,(aau hi).symm⟩
    have NG:i<(ns.map V.int).length:=(List.getElem?_eq_some_iff.mp hi).1
    rw[aad]at NG
    refine⟨_,rfl,_,rfl,_,_,rfl,rfl,⟨by decide,by decide,by decide⟩,_,_,rfl,rfl,_,rfl,?_⟩
    refine Nj (λ_=>?_) (λ_=>hN _ _ ⟨ms,rfl,hm,by omega,rfl⟩)
    refine⟨_,rfl,c,rfl,ao,by rw[aad,aaz];omega,hN _ _ ⟨ms++[if c<0 then -c else c],by simp,λn hn=>?_,by rw[aat,List.length_singleton];omega,by rw[vW]⟩⟩
    rcases List.mem_append.mp hn with q|q
    ·exact hm n q
    ·have:n=if c<0 then -c else c:=by simpa using q
     rw[this];split<;>omega
   ·rintro ys H4 ⟨ms,rfl,hm,Ub,rfl⟩
    refine⟨_,rfl,(by show 2<=sizeLine;decide),λq hq=>?_⟩
    have Ue:l≠q:=λe=>by rw[e,ao]at hq;cases hq
    refine k q l _ ((grow Hy hl).free hq) (Hy.free hl) ⟨ms,z,ao,by rw[ak Ue,ao],hm,z0,z1⟩ (grow (grow Hy hl) hq)
end Pre
namespace Pre
open PySem L2 Q
structure oR(x:Str):Prop where
 lo:1<=x.cps.toList.length
 hi:x.cps.toList.length<=8
 ok:∀c∈x.cps.toList,97<=c/\c<=122
def ch(i:Nat):Str:=⟨#[97+i]⟩
def wl(b s t f n k:Nat):List Nat:=if n<8/\s=6 then aaK (k+1) (97+b)else (aaK t (97+b)++[97+(f+5*k) % 26,97+(f+k / 26) % 26])++aaK (s - t) (97+b)
def wd(b s t f n k:Nat):Str:=⟨(wl b s t f n k).toArray⟩
variable{b s t f n k:Nat}
theorem vR(hb:b<26)(hs:s<7)(ht:t<=s)(hk:k<n):oR (wd b s t f n k):=by
 have e:(wd b s t f n k).cps.toList=wl b s t f n k:=by simp[wd]
 refine⟨?_,?_,?_⟩
 ·rw[e];unfold wl;split
  ·simp
  ·simp;omega
 ·rw[e];unfold wl;split
  ·simp;omega
  ·simp;omega
 ·rw[e];unfold wl
  intro c hc
  split at hc
  ·have:=adW hc
   omega
  ·rcases List.mem_append.mp hc with h|h
   ·rcases List.mem_append.mp h with h|h
    ·have:=adW h;omega
    ·simp only[aa5,aaQ,or_false]at h
     have:=Nat.mod_lt (f+5*k) (show 0<26 by decide)
     have:=Nat.mod_lt (f+k / 26) (show 0<26 by decide)
     omega
   ·have:=adW h;omega
theorem qi(f a b:Nat)(h:(f+a) % 26=(f+b) % 26):a % 26=b % 26:=by omega
theorem xP:∀k:Nat,k<60->∀k':Nat,k'<60->(5*k) % 26=(5*k') % 26->(k / 26) % 26=(k' / 26) % 26->k=k':=by decide +kernel
theorem xO{k':Nat}(hk:k<60)(Qz:k'<60)(h:wd b s t f n k=wd b s t f n k'):k=k':=by
 have e:wl b s t f n k=wl b s t f n k':=by
  have:=congrArg (λx:Str=>x.cps.toList) h
  simpa[wd]using this
 unfold wl at e
 split at e
 ·have:=congrArg acb e
  rw[aca,aca]at this
  exact aba this
 ·have e1:=List.append_cancel_right e
  have e2:=List.append_cancel_left e1
  simp only[List.cons.injEq,and_true]at e2
  exact xP k hk k' Qz (qi f _ _ (Nat.add_left_cancel e2.1)) (qi f _ _ (Nat.add_left_cancel e2.2))
def Hw(b s t f n:Nat)(m:Nat):List Str:=(aaM m).map (wd b s t f n)
theorem rD{m:Nat}(hm:m<=60):(Hw b s t f n m).Nodup:=by
 unfold Hw
 rw[acL,List.pairwise_map]
 have:=(List.nodup_iff_pairwise_ne.mp (adp (n:=m)))
 refine adY (λ{x y} hx hy Bu e=>?_) this
 exact Bu (xO (by have:=List.mem_range.mp hx;omega) (by have:=List.mem_range.mp hy;omega) e)
theorem tV(hb:b<26)(hs:s<7)(ht:t<=s):∀x∈Hw b s t f n n,oR x:=λx hx=>by
 obtain⟨k,hk,rfl⟩:=List.mem_map.mp hx
 exact vR hb hs ht (List.mem_range.mp hk)
theorem tW(b s t f n m:Nat):Hw b s t f n (m+1)=Hw b s t f n m++[wd b s t f n m]:=by
 unfold Hw
 rw[ady,aaU];rfl
variable{x y:Str}
theorem lK(h:x.cps.toList=y.cps.toList):x=y:=by
 obtain⟨x⟩:=x
 obtain⟨y⟩:=y
 exact congrArg Str.mk (Array.toList_inj.mp h)
theorem kW(b m:Nat):(DE (ch b) m).cps.toList=aaK m (97+b):=by
 unfold DE ch
 induction m with
 |zero=>rfl
 |succ m ih=>
  simp only[abq,ab2]at ih ⊢
  simpa using ih
theorem ib(x y:Str):(x++y).cps.toList=x.cps.toList++y.cps.toList:=by
 show (x.cps++y.cps).toList=_
 simp
def LV:Str := "abcdefghijklmnopqrstuvwxyz"
theorem zk:∀i:Nat,i<26->LV.cps.toList[i]?=some (97+i):=by decide +kernel
structure zQ where
 nm:Str
 one:Str
 Bi:Str
 cost:Int
def t0:zQ:=⟨⟨#[]⟩,⟨#[]⟩,⟨#[]⟩,0⟩
structure Kh(t:zQ):Prop where
 nm:oR t.nm
 one:oR t.one
 Bi:oR t.Bi
 lt:Ai t.one t.Bi
 lo : -(10 ^ 30)<t.cost
 hi:t.cost<10 ^ 30
structure Bp(ps:List Str)(ts:List zQ):Prop where
 rise:ps.Pairwise Ai
 word:∀x∈ps,oR x
 names:(ts.map zQ.nm).Pairwise Ai
 tie:∀t∈ts,Kh t
theorem oM(h1:¬ Ai y x)(h2:x≠y):Ai x y:=by
 unfold Ai at *
 rcases List.le_iff_lt_or_eq.mp (List.not_lt.mp h1)with z|z
 ·exact z
 ·exact absurd (lK z) h2
variable{l:List Str}
theorem xW(hp:l.Perm [x,y])(hs:l.Pairwise λa b=>¬ Ai b a)(hn:x≠y):∃u v,l=[u,v]/\Ai u v/\(u=x\/u=y)/\(v=x\/v=y):=by
 have hl:=hp.length_eq
 match l,hl with
 |[u,v],_=>
  have hu:u=x\/u=y:=by simpa using hp.mem_iff.mp (show u∈[u,v]by simp)
  have hv:v=x\/v=y:=by simpa using hp.mem_iff.mp (show v∈[u,v]by simp)
  have nd:[u,v].Nodup:=hp.nodup_iff.mpr (by simp[hn])
  have Bu:u≠v:=by simpa using nd
  refine⟨u,v,rfl,oM ?_ Bu,hu,hv⟩
  have:=List.rel_of_pairwise_cons hs (show v∈[v]by simp)
  exact this
theorem eu(hs:l.Pairwise λa b=>¬ Ai b a)(hn:l.Nodup):l.Pairwise Ai:=by
 have:=List.nodup_iff_pairwise_ne.mp hn
 exact(hs.and this).imp λ⟨h1,h2⟩=>oM h1 h2
def gE(t:zQ):PV:=.tup [.str t.nm,.str t.one,.str t.Bi,.int t.cost]
def lT(ps:List Str)(ts:List zQ):PV:=.tup [.tup (ps.map .str),.tup (ts.map gE)]
def cP:C4:=λc xs P=>c=.rW/\∃n:Nat,xs=[.int n]/\n<=60/\∀ws:List Str,ws.length=n->ws.Nodup->(∀x∈ws,oR x)->P (.lst (ws.map .str)) .rW
def fy:C4:=λc xs P=>c=.rW/\∃q:Int,xs=[.int q]/\∀c:Int,-(10 ^ 30)<c->c<10 ^ 30->P (.int c) .rW
def mQ:C4:=λc xs P=>c=.rW/\∃M T:Int,xs=[.int M,.int T]/\0<=M/\M<=40/\0<=T/\T<=50/\∀(ps:List Str) (ts:List zQ),Bp ps ts->(ps.length:Int)<=M->(ts.length:Int)<=T->P (lT ps ts) .rW
def kI:C4:=λc xs P=>c=.rW/\∃f m k:Int,xs=[.int f,.int m,.int k]/\2<=m/\m<=100/\∀i j:Int,0<=i->i<m->0<=j->j<m->i≠j->P (.tup [.int i,.int j]) .rW
variable{P:aaI}{w:World}{K:aah}{mg:Str->Option Value}{base:Heap}
theorem vB(Y:Ev K mg):Bt mg:=⟨Y.A0,Y.Kf,Y.CC,Y.Hc,Y.Ah,Y.Ab⟩
theorem aI(Y:Ev K mg):Ae P w K mg base Bn 1 Y.G8.f Y.G8.fd ["_law_state", "_law_many"] (IK ⟨P,w,K,EX K⟩ 2 aE):=uK (wW Y.G8.F)
theorem sX(Y:Ev K mg):Ae P w K mg base Bn 1 Y.CT.f Y.CT.fd ["_law_script"] (jf K):=uI Y.CT.F (vB Y)
def L8(c:Nat):Bool:=decide (97<=c) && decide (c<=122)
def HF(x:Str):Bool:=decide (1<=x.length) && decide (x.length<=8) && x.cps.toList.all L8
theorem A7:HF x=true↔oR x:=by
 unfold HF L8
 rw[aaT,aaT,decide_eq_true_eq,decide_eq_true_eq,abW]
 have e:x.length=x.cps.toList.length:=by simp[adh]
 rw[e]
 constructor
 ·rintro⟨⟨a,b⟩,c⟩
  exact⟨a,b,λd hd=>by have:=c d hd;rw[aaT,decide_eq_true_eq,decide_eq_true_eq]at this;exact this⟩
 ·rintro⟨a,b,c⟩
  exact⟨⟨a,b⟩,λd hd=>by rw[aaT,decide_eq_true_eq,decide_eq_true_eq];exact c d hd⟩
def Jl(ws:List Str):List Bool:=(ws.zip (ws.drop 1)).map λp=>decide (Ai p.1 p.2)
def Ft(ws:List Str):Bool:=(Jl ws).all id
def Plain:PV->Prop
 |.str s=>s.length<=1000
 |.set _=>False
 |.BH _=>False
 |_=>True
def IG:PV->Prop
 |.tup xs=>xs.length<=1000/\∀y∈xs,Plain y
 |x=>Plain x
def B9:PV->Bool
 |.str x=>HF x
 |_=>false
def Km:PV->Bool
 |.int _=>true
 |_=>false
def Co:PV->Bool
 |.tup xs=>xs.all B9 && Ft (xs.filterMap Bo)
 |_=>false
def bG:Fd:=λxs P=>∃x,xs=[x]/\Plain x/\P (.bl (B9 x))
def da:Fd:=λxs P=>∃x,xs=[x]/\Plain x/\P (.bl (Km x))
def ed:Fd:=λxs P=>∃ws:List Str,xs=[.tup (ws.map .str)]/\ws.length<=1000/\P (.bl (Ft ws))
def cC:Fd:=λxs P=>∃x,xs=[x]/\IG x/\P (.bl (Co x))
theorem sC(h:Ai x y):x≠y:=λe=>by subst e;exact aeJ _ h
variable{ps:List Str}{ts:List zQ}
theorem aV(h:Bp ps ts):(ts.map zQ.nm).Nodup:=List.nodup_iff_pairwise_ne.mpr (h.names.imp λz=>sC z)
variable{α:Type}
theorem dG[DecidableEq α]:∀{xs ys:List α},xs.Nodup->(∀x∈xs,x∈ys)->xs.length<=ys.length
 |[],_,_,_=>abd _
 |x::r,ys,nd,h=>by
  obtain⟨n1,n2⟩:=List.nodup_cons.mp nd
  have hx:=h x aay
  have:=dG (xs:=r) (ys:=ys.erase x) n2 λz hz=>by
   have Tx:z≠x:=λe=>n1 (by rw[<- e];exact hz)
   exact(List.mem_erase_of_ne Tx).mpr (h z (aaw _ hz))
  rw[List.length_erase_of_mem hx]at this
  have hp:=List.length_pos_of_mem hx
  rw[abA]
  omega
theorem gp{z:Str}(a:Ai x y)(b:Ai y z):Ai x z:=List.lt_trans a b
theorem jo(x:Str):¬ Ai x x:=aeJ _
theorem lu(a:Ai x y):¬ Ai y x:=λb=>jo x (gp a b)
theorem mj(x y:Str):Ai x y\/x=y\/Ai y x:=by
 by_cases h:Ai y x
 ·exact .inr (.inr h)
 ·by_cases e:x=y
  ·exact .inr (.inl e)
  ·exact .inl (oM h e)
theorem cJ{xs:List Str}(h:xs.Pairwise Ai):xs.Nodup:=List.nodup_iff_pairwise_ne.mpr (h.imp λz=>sC z)
open Classical in
theorem gc:∀{a b:List Str},a.Perm b->a.Pairwise Ai->b.Pairwise Ai->a=b
 |[],b,p,_,_=>(List.nil_perm.mp p).symm
 |x::a,[],p,_,_=>by have:=p.length_eq;simp at this
 |x::a,y::b,p,ha,hb=>by
  have e:x=y:=acd λne=>by
   rw[adK]at ha hb
   have h1:x∈b:=by
    rcases List.mem_cons.mp (p.mem_iff.mp aay)with z|z
    ·exact absurd z ne
    ·exact z
   have h2:y∈a:=by
    rcases List.mem_cons.mp (p.mem_iff.mpr aay)with z|z
    ·exact absurd z.symm ne
    ·exact z
   exact jo _ (gp (ha.1 y h2) (hb.1 x h1))
  subst e
  rw[gc (afX _ |>.mp p) (List.pairwise_cons.mp ha).2 (List.pairwise_cons.mp hb).2]
theorem n5:∀{a b:List zQ},a.Perm b->(a.map zQ.nm).Pairwise Ai->(b.map zQ.nm).Pairwise Ai->a=b
 |[],b,p,_,_=>(List.nil_perm.mp p).symm
 |x::a,[],p,_,_=>by have:=p.length_eq;simp at this
 |x::a,y::b,p,ha,hb=>by
  have e:x=y:=acd λne=>by
   rw[aap,adK]at ha hb
   have h1:x∈b:=by
    rcases List.mem_cons.mp (p.mem_iff.mp aay)with z|z
    ·exact absurd z ne
    ·exact z
   have h2:y∈a:=by
    rcases List.mem_cons.mp (p.mem_iff.mpr aay)with z|z
    ·exact absurd z.symm ne
    ·exact z
   exact jo _ (gp (ha.1 y.nm (abH h2)) (hb.1 x.nm (abH h1)))
  subst e
  rw[aap,adK]at ha hb
  rw[n5 (afX _ |>.mp p) ha.2 hb.2]
variable{us:List zQ}{ix:List Nat}
theorem mr(hl:ix.length=us.length)(nd:ix.Nodup)(lt:∀i∈ix,i<us.length):(ix.map λi=>us.getD i t0).Perm us:=by
 have h1:ix.Perm (aaM us.length):=by
  refine(List.perm_ext_iff_of_nodup nd adp).mpr λi=>?_
  rw[List.mem_range]
  refine⟨lt i,λhi=>?_⟩
  have:=dG nd (λx hx=>List.mem_range.mpr (lt x hx))
  exact acd λhn=>by
   have h2:(i::ix).Nodup:=List.nodup_cons.mpr ⟨hn,nd⟩
   have h3:=dG (ys:=aaM us.length) h2 (λx hx=>by
    rcases List.mem_cons.mp hx with rfl|hx
    ·exact List.mem_range.mpr hi
    ·exact List.mem_range.mpr (lt x hx))
   simp at h3;omega
 have h2:((aaM us.length).map λi=>us.getD i t0)=us:=by
  apply abK
  intro i
  rw[aal]
  by_cases hi:i<us.length
  ·rw[abJ hi];simp[hi]
  ·rw[aan (by simpa using hi),aan (by omega)];rfl
 have h3:=h1.map λi=>us.getD i t0
 rw[h2]at h3
 exact h3
inductive C5 where
 |FU (p:Str)
 |Gn (p:Str)
 |tie (n a b:Str) (c:Int)
 |Fl (n:Str)
 |cos (n:Str) (c:Int)
def Ac:C5->PV
 |.FU p=>.tup [.str "place",.str p]
 |.Gn p=>.tup [.str "leave",.str p]
 |.tie n a b c=>.tup [.str "tie",.str n,.str a,.str b,.int c]
 |.Fl n=>.tup [.str "untie",.str n]
 |.cos n c=>.tup [.str "cost",.str n,.int c]
structure CU(ps:List Str)(ts:List zQ):Prop where
 ok:Bp ps ts
 pl:ps.length<=60
 tl:ts.length<=60
def Bd(n:Int):Prop := -(10 ^ 30)<n/\n<10 ^ 30
def GU(ps:List Str)(ts:List zQ):C5->Prop
 |.FU p=>oR p/\p∉ps
 |.Gn p=>p∈ps
 |.tie n a b c=>oR n/\oR a/\oR b/\a≠b/\n∉ts.map zQ.nm/\Bd c
 |.Fl n=>n∈ts.map zQ.nm
 |.cos n c=>n∈ts.map zQ.nm/\Bd c
def FC(p:Str)(ps:List Str):List Str:=ps.filter (λq=>decide (Ai q p))++p::ps.filter (λq=>!decide (Ai q p))
def Gq(t:zQ)(ts:List zQ):List zQ:=ts.filter (λq=>decide (Ai q.nm t.nm))++t::ts.filter (λq=>!decide (Ai q.nm t.nm))
def J3(n a b:Str)(c:Int):zQ:=⟨n,Cf a b,Cg a b,c⟩
def AA(ps:List Str):C5->List Str
 |.FU p=>FC p ps
 |.Gn p=>ps.filter λq=>!decide (q=p)
 |_=>ps
def Ar(ts:List zQ):C5->List zQ
 |.tie n a b c=>Gq (J3 n a b c) ts
 |.Fl n=>ts.filter λt=>!decide (t.nm=n)
 |.cos n c=>ts.map λt=>if t.nm=n then {t with cost:=c}else t
 |_=>ts
theorem fF(p:Str)(ps:List Str):(FC p ps).Perm (ps++[p]):=by
 unfold FC
 refine List.perm_middle.trans ?_
 refine((aea (λq=>decide (Ai q p)) ps).cons p).trans ?_
 exact(List.perm_append_comm (l₁:=[p]) (l₂:=ps))
theorem fE(t:zQ)(ts:List zQ):(Gq t ts).Perm (ts++[t]):=by
 unfold Gq
 refine List.perm_middle.trans ?_
 refine((aea (λq:zQ=>decide (Ai q.nm t.nm)) ts).cons t).trans ?_
 exact(List.perm_append_comm (l₁:=[t]) (l₂:=ts))
theorem nQ(h1:¬ Ai x y)(h2:x≠y):Ai y x:=by
 rcases mj x y with h|h|h
 ·exact absurd h h1
 ·exact absurd h h2
 ·exact h
variable{p:Str}
theorem m7(h:ps.Pairwise Ai)(hp:p∉ps):(FC p ps).Pairwise Ai:=by
 unfold FC
 rw[List.pairwise_append]
 refine⟨h.sublist abB,List.pairwise_cons.mpr ⟨λy hy=>?_,h.sublist abB⟩,λx hx y hy=>?_⟩
 ·obtain⟨h1,h2⟩:=List.mem_filter.mp hy
  exact nQ (by simpa using h2) (λe=>hp (e ▸ h1))
 ·have FV:Ai x p:=by simpa using (List.mem_filter.mp hx).2
  rcases List.mem_cons.mp hy with rfl|hy
  ·exact FV
  ·obtain⟨h1,h2⟩:=List.mem_filter.mp hy
   exact gp FV (nQ (by simpa using h2) (λe=>hp (e ▸ h1)))
theorem m6{t:zQ}(h:(ts.map zQ.nm).Pairwise Ai)(hp:t.nm∉ts.map zQ.nm):((Gq t ts).map zQ.nm).Pairwise Ai:=by
 unfold Gq
 rw[aaU,aap,List.pairwise_append]
 refine⟨h.sublist (List.filter_sublist.map _),List.pairwise_cons.mpr ⟨λy hy=>?_,h.sublist (List.filter_sublist.map _)⟩,λx hx y hy=>?_⟩
 ·obtain⟨u,hu,rfl⟩:=List.mem_map.mp hy
  obtain⟨h1,h2⟩:=List.mem_filter.mp hu
  exact nQ (by simpa using h2) (λe=>hp (e ▸ abH h1))
 ·obtain⟨v,hv,rfl⟩:=List.mem_map.mp hx
  have FV:Ai v.nm t.nm:=by simpa using (List.mem_filter.mp hv).2
  rcases List.mem_cons.mp hy with rfl|hy
  ·exact FV
  ·obtain⟨u,hu,rfl⟩:=List.mem_map.mp hy
   obtain⟨h1,h2⟩:=List.mem_filter.mp hu
   exact gp FV (nQ (by simpa using h2) (λe=>hp (e ▸ abH h1)))
theorem ls{a b:Str}(h:a≠b):Ai (Cf a b) (Cg a b):=by
 unfold Cf Cg
 rcases mj a b with z|z|z
 ·rw[if_neg (lu z),if_pos z];exact z
 ·exact absurd z h
 ·rw[if_pos z,if_neg (lu z)];exact z
theorem oK{a b:Str}(ha:oR a)(hb:oR b):oR (Cf a b)/\oR (Cg a b):=by
 unfold Cf Cg
 constructor<;>split<;>assumption
theorem zg(ts:List zQ)(n:Str)(c:Int):(ts.map λt=>if t.nm=n then {t with cost:=c}else t).map zQ.nm=ts.map zQ.nm:=by
 rw[aaA]
 refine aaP λt _=>?_
 show zQ.nm (if t.nm=n then {t with cost:=c}else t)=t.nm
 split<;>rfl
variable{d:C5}
theorem tP(h:Bp ps ts)(hd:GU ps ts d):Bp (AA ps d) (Ar ts d):=by
 cases d with
 |FU p=>
  refine⟨m7 h.rise hd.2,λx hx=>?_,h.names,h.tie⟩
  rcases List.mem_append.mp ((fF p ps).mem_iff.mp hx)with z|z
  ·exact h.word x z
  ·rw[List.mem_singleton.mp z];exact hd.1
 |Gn p=>exact⟨h.rise.sublist abB,λx hx=>h.word x (List.mem_filter.mp hx).1,h.names,h.tie⟩
 |tie n a b c=>
  obtain⟨h1,h2,h3,h4,h5,h6⟩:=hd
  refine⟨h.rise,h.word,m6 h.names h5,λt ht=>?_⟩
  rcases List.mem_append.mp ((fE (J3 n a b c) ts).mem_iff.mp ht)with z|z
  ·exact h.tie t z
  ·rw[List.mem_singleton.mp z]
   exact⟨h1,(oK h2 h3).1,(oK h2 h3).2,ls h4,h6.1,h6.2⟩
 |Fl n=>exact⟨h.rise,h.word,h.names.sublist (List.filter_sublist.map _),λt ht=>h.tie t (List.mem_filter.mp ht).1⟩
 |cos n c=>
  refine⟨h.rise,h.word,(by show (List.map zQ.nm (ts.map λt=>if t.nm=n then {t with cost:=c}else t)).Pairwise Ai;rw[zg];exact h.names),λt ht=>?_⟩
  obtain⟨u,hu,rfl⟩:=List.mem_map.mp ht
  have q:=h.tie u hu
  split
  ·exact⟨q.nm,q.one,q.Bi,q.lt,hd.2.1,hd.2.2⟩
  ·exact q
theorem jA(d:C5):(AA ps d).length<=ps.length+1/\(Ar ts d).length<=ts.length+1:=by
 cases d with
 |FU p=>exact⟨by show (FC p ps).length<=_;rw[(fF p ps).length_eq,aat];exact aak _,abU _⟩
 |Gn p=>exact⟨adU (aaS _ _),abU _⟩
 |tie n a b c=>exact⟨abU _,by show (Gq _ ts).length<=_;rw[(fE _ ts).length_eq,aat];exact aak _⟩
 |Fl n=>exact⟨abU _,adU (aaS _ _)⟩
 |cos n c=>exact⟨abU _,by show (ts.map _).length<=_;rw[aad];exact abU _⟩
theorem yD(nd:(ts.map zQ.nm).Nodup):∀{t u:zQ},t∈ts->u∈ts->t.nm=u.nm->t=u:=by
 induction ts with
 |nil=>intro t u h;cases h
 |cons a ts ih=>
  rw[aap,List.nodup_cons]at nd
  intro t u ht hu e
  rcases List.mem_cons.mp ht with z1|z1<;>rcases List.mem_cons.mp hu with z2|z2
  ·rw[z1,z2]
  ·exact absurd (List.mem_map.mpr ⟨u,z2,(z1 ▸ e).symm⟩) nd.1
  ·exact absurd (List.mem_map.mpr ⟨t,z1,z2 ▸ e⟩) nd.1
  ·exact ih nd.2 z1 z2 e
def CN(ps:List Str)(t:zQ):Bool:=decide (t.one∈ps) && decide (t.Bi∈ps)
theorem DL{t:zQ}:CN ps t=true↔t.one∈ps/\t.Bi∈ps:=by unfold CN;simp
def jl(ps:List Str)(ts:List zQ):List Str:=(ts.filter (CN ps)).map zQ.nm
def fY:Fd:=λxs P=>∃(ps:List Str) (ts:List zQ) (t:zQ),xs=[lT ps ts,gE t]/\P (.bl (CN ps t))
def dZ:Fd:=λxs P=>∃(ps:List Str) (ts:List zQ),xs=[lT ps ts]/\ts.length<=1000/\P (.tup ((jl ps ts).map .str))
def AZ(ps:List Str)(L:Str->Str):PV:=.Av (ps.map λp=>(aao p,.str (L p)))
def Ho(t u:zQ):Prop:=t.cost<u.cost\/(t.cost=u.cost/\Ai t.nm u.nm)
theorem xL(t:zQ):¬ Ho t t:=by
 rintro(h|⟨_,h⟩)
 ·omega
 ·exact jo _ h
theorem zh{t u v:zQ}(h:Ho t u)(k:Ho u v):Ho t v:=by
 rcases h with h|⟨h1,h2⟩<;>rcases k with k|⟨k1,k2⟩
 ·exact .inl (by omega)
 ·exact .inl (by omega)
 ·exact .inl (by omega)
 ·exact .inr ⟨by omega,gp h2 k2⟩
instance (t u:zQ):Decidable (Ho t u):=inferInstanceAs (Decidable (t.cost<u.cost\/(t.cost=u.cost/\Ai t.nm u.nm)))
theorem fo{g:WG}{fk ff:WE}{js:List (Option Nat)}{P:PV->En->Prop}{env:En}(f:α->Str)(v:α->PV)(X:α->PV):∀{l done:List α},((done++l).map f).Nodup ->
  (∀a∈l,∀R:PV->PV->En->Prop,R (.str (f a)) (v a) env->g (X a) (EC js env) λb1=>fk b1 λkk b3=>ff b3 λy b4=>R kk y (AU js env b4))->done.length+l.length<=100000 ->
  P (.Av ((done++l).map λx=>((aao (f x):Key),v x))) env->Dl g Ds fk ff js P (l.map X) env (done.map λx=>((aao (f x):Key),v x))
 |[],done,_,_,_,k=>by rw[aby]at k;exact k
 |a::l,done,nd,h,hl,k=>by
  have FX:done.length+l.length+1<=100000:=by simpa[adr]using hl
  rw[aap]
  simp only[Dl,Ds,if_true]
  refine h a (by simp) (λkk y e=>(done.map λx=>((aao (f x):Key),v x)).length<=100000/\opt (D5 kk) λkey=>Dl g Ds fk ff js P (l.map X) e (B6 (done.map λx=>((aao (f x):Key),v x)) key y)) ⟨by rw[aad];omega,ac (z:=aao (f a)) rfl ?_⟩
  have hn:f a∉done.map f:=λz=>by
   rw[aaU,acj]at nd
   exact nd.2.2 _ z _ (by simp) rfl
  rw[gX hn]
  have e:(done.map λx=>((aao (f x):Key),v x))++[(aao (f a),v a)]=(done++[a]).map λx=>((aao (f x):Key),v x):=by rw[aaU];rfl
  rw[e]
  refine fo f v X (by rwa [acK]) (λb hb=>h b (aaw _ hb)) (by simp;omega) ?_
  rw[acK];exact k
def Tr:Nat->PV->Prop
 |0,_=>False
 |d+1,x=>(∃s,x=.str s)\/(∃n,x=.int n)\/∃l,x=.tup l/\l.length<=1000/\∀y∈l,Tr d y
def bw:Fd:=λxs P=>∃(ps:List Str) (ts:List zQ),xs=[lT ps ts]/\ts.length<=1000/\(ts.map zQ.nm).Nodup/\P (.Av (ts.map λt=>(aao t.nm,gE t)))
def bD:Fd:=λxs P=>∃(a b:Str) (c:Int),xs=[.tup [.str a,.str b,.int c]]/\oR a/\oR b/\a≠b/\P (.bl true)
def DW:C5->Prop
 |.FU p=>oR p
 |.Gn p=>oR p
 |.tie n a b _=>oR n/\oR a/\oR b/\a≠b
 |.Fl n=>oR n
 |.cos n _=>oR n
def fZ:Fd:=λxs P=>∃d:C5,xs=[Ac d]/\DW d/\P (.bl true)
def b9:Fd:=λxs P=>∃(ps:List Str) (ts:List zQ) (p:Str),xs=[lT ps ts,Ac (.FU p)]/\CU ps ts/\GU ps ts (.FU p)/\P (lT (FC p ps) ts)
def bZ:Fd:=λxs P=>∃(ps:List Str) (ts:List zQ) (p:Str),xs=[lT ps ts,Ac (.Gn p)]/\CU ps ts/\GU ps ts (.Gn p)/\P (lT (AA ps (.Gn p)) ts)
def cB:Fd:=λxs P=>∃(ps:List Str) (ts:List zQ) (n a b:Str) (c:Int),xs=[lT ps ts,Ac (.tie n a b c)]/\CU ps ts/\GU ps ts (.tie n a b c)/\P (lT ps (Gq (J3 n a b c) ts))
def cZ:Fd:=λxs P=>∃(ps:List Str) (ts:List zQ) (n:Str),xs=[lT ps ts,Ac (.Fl n)]/\CU ps ts/\GU ps ts (.Fl n)/\P (lT ps (Ar ts (.Fl n)))
def cA:Fd:=λxs P=>∃(ps:List Str) (ts:List zQ) (n:Str) (c:Int),xs=[lT ps ts,Ac (.cos n c)]/\CU ps ts/\GU ps ts (.cos n c)/\P (lT ps (Ar ts (.cos n c)))
def f7:Fd:=λxs P=>∃(ps:List Str) (ts:List zQ) (d:C5),xs=[lT ps ts,Ac d]/\CU ps ts/\GU ps ts d/\P (lT (AA ps d) (Ar ts d))
def dz:Fd:=λxs P=>∃(ps:List Str) (ts:List zQ) (d:C5),xs=[lT ps ts,Ac d]/\CU ps ts/\GU ps ts d/\P (lT (AA ps d) (Ar ts d))
def dP:C4:=λc xs P=>c=.rW/\∃ys:List PV,(xs=[.lst ys]\/xs=[.tup ys])/\ys≠[]/\ys.length<=1000/\∀y∈ys,P y .rW
def fL:C4:=λc xs P=>c=.rW/\∃tk:List Str,(xs=[.lst (tk.map .str)]\/xs=[.tup (tk.map .str)])/\tk.length<=30/\∀x:Str,oR x->x∉tk->P (.str x) .rW
def f9:C4:=λc xs P=>c=.rW/\∃(ps:List Str) (ts:List zQ) (Em:List Str),xs=[lT ps ts,.lst (Em.map .str)]/\Bp ps ts/\ps.length<=12/\ts.length<30/\Em.length<=60/\Em.Nodup/\(∀x∈Em,oR x/\x∉ps) /\
 ∀(n a b:Str) (c:Int),GU ps ts (.tie n a b c)->P (Ac (.tie n a b c)) .rW
def kJ:C4:=λc xs P=>c=.rW/\∃(ps:List Str) (ts:List zQ),xs=[lT ps ts]/\Bp ps ts/\ps.length<=12/\ts.length<=30/\∀d:C5,GU ps ts d->(AA ps d).length<=12->(Ar ts d).length<=30->P (Ac d) .rW
abbrev P7:Str := "cheaper_first.<locals>.<lambda>"
abbrev BI(T:Addr):PV:=CG P7 P8 P9 T
def AQ(s:(Str->Str)×List Str)(t:zQ):(Str->Str)×List Str:=if s.1 t.one=s.1 t.Bi then s else (λp=>if s.1 p=s.1 t.Bi then s.1 t.one else s.1 p,s.2++[t.nm])
def wr(vs:List zQ):(Str->Str)×List Str:=vs.foldl AQ (id,[])
theorem nS:∀(vs:List zQ) (s:(Str->Str)×List Str),∃l,l.Sublist (vs.map zQ.nm)/\(vs.foldl AQ s).2=s.2++l
 |[],s=>⟨[],.slnil,by simp⟩
 |t::vs,s=>by
  obtain⟨l,h1,h2⟩:=nS vs (AQ s t)
  by_cases e:s.1 t.one=s.1 t.Bi
  ·refine⟨l,h1.cons _,?_⟩
   rw[abC,h2]
   unfold AQ;rw[if_pos e]
  ·refine⟨t.nm::l,h1.cons₂ _,?_⟩
   rw[abC,h2]
   unfold AQ;rw[if_neg e];simp
variable{vs:List zQ}
theorem gH(h:(vs.map zQ.nm).Nodup):(wr vs).2.Nodup/\(wr vs).2.length<=vs.length:=by
 obtain⟨l,h1,h2⟩:=nS vs (id,[])
 have e:(wr vs).2=l:=by unfold wr;rw[h2];rfl
 rw[e]
 exact⟨h1.nodup h,by have:=h1.length_le;rwa [aad]at this⟩
theorem pV(vs:List zQ)(t:zQ):wr (vs++[t])=AQ (wr vs) t:=by unfold wr;rw[adV];rfl
theorem o8:∀{a b:List zQ},a.Perm b->a.Pairwise Ho->b.Pairwise Ho->a=b
 |[],b,p,_,_=>(List.nil_perm.mp p).symm
 |x::a,[],p,_,_=>by have:=p.length_eq;simp at this
 |x::a,y::b,p,ha,hb=>by
  have e:x=y:=acd λne=>by
   rw[adK]at ha hb
   have h1:x∈b:=by
    rcases List.mem_cons.mp (p.mem_iff.mp aay)with z|z
    ·exact absurd z ne
    ·exact z
   have h2:y∈a:=by
    rcases List.mem_cons.mp (p.mem_iff.mpr aay)with z|z
    ·exact absurd z.symm ne
    ·exact z
   exact xL _ (zh (ha.1 y h2) (hb.1 x h1))
  subst e
  rw[o8 (afX _ |>.mp p) (List.pairwise_cons.mp ha).2 (List.pairwise_cons.mp hb).2]
def EM(ps:List Str)(ts:List zQ)(gs:List Str):Prop:=∃vs:List zQ,vs.Perm (ts.filter (CN ps))/\vs.Pairwise Ho/\gs.Perm (wr vs).2/\gs.Pairwise Ai
variable{a:List Str}
theorem EM.uniq{b:List Str}(x:EM ps ts a)(y:EM ps ts b):a=b:=by
 obtain⟨v,p1,p2,p3,p4⟩:=x
 obtain⟨u,q1,q2,q3,q4⟩:=y
 obtain rfl:=o8 (p1.trans q1.symm) p2 q2
 exact gc (p3.trans q3.symm) p4 q4
open Classical in
noncomputable def zS(ps:List Str)(ts:List zQ):List Str:=if h:∃gs,EM ps ts gs then Classical.choose h else []
theorem o9{gs:List Str}(h:EM ps ts gs):gs=zS ps ts:=by
 unfold zS
 rw[dif_pos ⟨gs,h⟩]
 exact h.uniq (aex (⟨gs,h⟩:∃gs,EM ps ts gs))
theorem bS(ps:List Str)(ts:List zQ)(hn:(ts.map zQ.nm).Nodup):(zS ps ts).length<=ts.length:=by
 unfold zS
 split
 ·rename_i h
  obtain⟨vs,p1,p2,p3,p4⟩:=aex h
  rw[p3.length_eq]
  have hv:(vs.map zQ.nm).Nodup:=(p1.map zQ.nm).nodup_iff.mpr (hn.sublist (List.filter_sublist.map _))
  have:=(gH hv).2
  rw[p1.length_eq]at this
  exact aa2 this (aaS _ _)
 ·exact abd _
def i9:Fd:=λxs P=>∃(ps:List Str) (ts:List zQ),xs=[lT ps ts]/\ts.length<=1000/\(ts.map zQ.nm).Nodup/\P (.Av (ts.map λt=>(aao t.nm,.tup [.int t.cost,.str t.nm])))
def cv(T:Addr):C4:=λc xs P=>c=BI T/\∃(ps:List Str) (ts us:List zQ),xs=[lT ps ts,.tup ((us.map zQ.nm).map .str)]/\ts.length<=1000/\(ts.map zQ.nm).Nodup/\us.length<64/\(us.map zQ.nm).Nodup/\(∀u∈us,u∈ts) /\
 ∀vs:List zQ,vs.Perm us->vs.Pairwise Ho->P (.lst ((vs.map zQ.nm).map .str)) (BI T)
def cu:Fd:=λxs P=>∃(ps:List Str) (ts vs:List zQ),xs=[lT ps ts,.lst ((vs.map zQ.nm).map .str)]/\Bp ps ts/\ps.length<=60/\ts.length<=60/\vs.Perm (ts.filter (CN ps))/\vs.Pairwise Ho/\P (.tup ((zS ps ts).map .str))
def db(T:Addr):C4:=λc xs P=>c=BI T/\∃(ps:List Str) (ts:List zQ),xs=[lT ps ts]/\Bp ps ts/\ps.length<=60/\ts.length<=60/\P (.tup ((zS ps ts).map .str)) (BI T)
def EJ(as bs:List Str):PV:=.tup [.tup ((as.filter λa=>!decide (a∈bs)).map .str),.tup ((bs.filter λb=>!decide (b∈as)).map .str)]
def f8:Fd:=λxs P=>∃as bs:List Str,xs=[.tup (as.map .str),.tup (bs.map .str)]/\as.length<=1000/\bs.length<=1000/\P (EJ as bs)
def fu(T:Addr):C4:=λc xs P=>c=BI T/\∃(ps:List Str) (ts:List zQ) (d:C5),xs=[lT ps ts,Ac d]/\CU ps ts/\GU ps ts d/\CU (AA ps d) (Ar ts d)/\P (EJ (zS ps ts) (zS (AA ps d) (Ar ts d))) (BI T)
def de:Fd:=λxs P=>∃(ps:List Str) (ts:List zQ),xs=[lT ps ts]/\Bp ps ts/\ps.length<=60/\ts.length<=60/\P (.tup ((zS ps ts).map .str))
def fx:Fd:=λxs P=>∃(ps:List Str) (ts:List zQ) (d:C5),xs=[lT ps ts,Ac d]/\CU ps ts/\GU ps ts d/\CU (AA ps d) (Ar ts d)/\P (EJ (zS ps ts) (zS (AA ps d) (Ar ts d)))
open Classical in
noncomputable def eqB(a b:PV):Bool:=decide (a=b)
def Th:Nat->PV->Prop
 |0,_=>False
 |_+1,.str s=>s.length<=1000
 |d+1,.tup l=>l.length<=1000/\∀y∈l,Th d y
 |_+1,.set _=>False
 |_+1,.BH _=>False
 |_+1,_=>True
def Ts:Nat->PV->Prop
 |0,_=>False
 |d+1,x=>(∃s,x=.str s)\/∃l,x=.tup l/\l.length<=1000/\∀y∈l,Ts d y
def jc:Fd:=λxs P=>∃a b,xs=[a,b]/\Th 1 a/\Ts 1 b/\P (.bl (eqB a b))
def jb:Fd:=λxs P=>∃a b,xs=[a,b]/\Th 2 a/\Ts 2 b/\P (.bl (eqB a b))
def ja:Fd:=λxs P=>∃a b,xs=[a,b]/\Th 3 a/\Ts 3 b/\P (.bl (eqB a b))
def kH:Fd:=λxs P=>∃a b,xs=[a,b]/\Th 4 a/\Ts 4 b/\P (.bl (eqB a b))
def cg(T:Addr):C4:=λc xs P=>c=BI T/\∃(ps:List Str) (ts:List zQ) (d:C5) (a:PV),xs=[lT ps ts,Ac d,a]/\CU ps ts/\GU ps ts d/\CU (AA ps d) (Ar ts d)/\Th 4 a/\P (.bl (eqB a (EJ (zS ps ts) (zS (AA ps d) (Ar ts d))))) (BI T)
def ic:C4:=λc xs P=>c=.rW/\∃(ps:List Str) (ts:List zQ) (as bs:List Str),xs=[lT ps ts,.tup [.tup (as.map .str),.tup (bs.map .str)]]/\Bp ps ts/\ts.length<=60/\as.length<=60/\bs.length<=60/\(∀x∈as,oR x)/\(∀x∈bs,oR x) /\
 ∀ys:List PV,(∀y∈ys,Th 4 y)->ys.length<=100->P (.lst ys) .rW
def fM:WS :=
  (oF (BN (Fp (B4 (BS (Cy "str" (An 0)))) (B4 (zO (Dj Gp Gp (eC (.int 1)) (AJ AS (a1 (An 0))) (eC (.int 8)))))) (zX (eC (.bl false))) AF)
  (zX (AJ Dx (aS (BQ (Ij (eV 0)) (.nm 0) Ds (Dj Gp Gp (eC (.str "a")) (eV 0) (eC (.str "z"))) [none]) bY))))
def eG:WS :=
  (zX (Ee (Cy "int" (An 0)) (JE (Cy "bool" (An 0)))))
def dU:WS :=
  (zX (AJ Dx (aS (BQ (iZ (aS (eV 0) (aS (Fb (eV 0) (AY (eC (.int 1))) Bc) bY))) (.tp [0,1]) Ds (iN Ew (eV 0) (An 1)) [none,none]) bY)))
def dW:WS :=
  (oF (BN (Fp (B4 (BS (Cy "tuple" (An 0)))) (B4 (BS (AJ Dx (aS (BQ (iS (eV 0)) (.nm 0) Ds (Ak bG (aS (eV 0) bY)) [none]) bY))))) (zX (eC (.bl false))) AF)
  (zX (Ak ed (aS (eV 0) bY))))
def fN:WS :=
  (zX (Ee (iN C0 (iN iF (eV 1) (eC (.int 1))) (iN iF (eV 0) (eC (.int 0)))) (iN C0 (iN iF (eV 1) (eC (.int 2))) (iN iF (eV 0) (eC (.int 0))))))
def cD:WS :=
  (zX (JF (iS (iN iF (eV 0) (eC (.int 1)))) (.nm 0) Ds (iN iF (eV 0) (eC (.int 0))) (eV 0) [none]))
def dS:WS :=
  (zX (AJ ba (aS (BQ (iS (iN iF (eV 0) (eC (.int 1)))) (.nm 0) (BS (Ak fY (aS (eV 1) (aS (eV 0) bY)))) (iN iF (eV 0) (eC (.int 0))) [none,some 0]) bY)))
def im:WS :=
  (zX (JF (iS (iN iF (eV 0) (eC (.int 1)))) (.nm 0) Ds (iN iF (eV 0) (eC (.int 0))) (zN (aS (iN iF (eV 0) (eC (.int 3))) (aS (iN iF (eV 0) (eC (.int 0))) bY))) [none]))
def cq(T:Addr):WS :=
  (oF (Ad 2 (Ak i9 (aS (eV 0) bY)))
  (zX (GJ 3 2 "cheaper_first.<locals>.<lambda>" 26 29 T (eV 1))))
def cp:WS :=
  (oF (Ad 2 (Ak bw (aS (eV 0) bY)))
  (oF (Bw 3 (JF (iS (iN iF (eV 0) (eC (.int 0)))) (.nm 0) Ds (eV 0) (eV 0) [none]))
  (oF (Bw 4 (BK bY))
  (oF (DV (iS (eV 1)) (gN 5) (oF (Ad 6 (iN iF (eV 2) (An 5)))
  (oF (Fs (zN (aS (Cm iF 3 (iN iF (eV 6) (eC (.int 1)))) (aS (Cm iF 3 (iN iF (eV 6) (eC (.int 2)))) bY))) (gT (Ap (gN 7) (Ap (gN 8) CH))))
  (BN (zO (iN B7 (eV 7) (An 8))) (oF (Ct (J9 cj 4 (aS (eV 5) bY)))
  (Bw 3 (JF (mt 3) (.tp [0,1]) Ds (eV 0) (OS (zO (iN Ag (eV 1) (An 3))) (eV 2) (eV 1)) [none,none,some 7,some 8]))) AF))))
  (zX (AJ ba (aS (BC (a1 (An 4))) bY)))))))
def eJ(T:Addr):WS :=
  (zX (Ak cu (aS (eV 0) (aS (BD (cv T) 1 (aS (eV 0) (aS (Ak dZ (aS (eV 0) bY)) bY))) bY))))
def bP:WS :=
  (oF (BN (Fp (zO (iN B7 (AJ AS (a1 (An 0))) (eC (.int 3)))) (Fp (B4 (BS (Ak bG (aS (iN iF (eV 0) (eC (.int 0))) bY)))) (B4 (BS (Ak bG (aS (iN iF (eV 0) (eC (.int 1))) bY)))))) (zX (eC (.bl false))) AF)
  (zX (Ee (iN B7 (iN iF (eV 0) (eC (.int 0))) (iN iF (eV 0) (eC (.int 1)))) (Ak da (aS (iN iF (eV 0) (eC (.int 2))) bY)))))
def dv:WS :=
  (oF (BN (Fp (B4 (BS (Cy "tuple" (An 0)))) (Fp (zO (iN Ew (AJ AS (a1 (An 0))) (eC (.int 2)))) (Fp (B4 (BS (Ak bG (aS (iN iF (eV 0) (eC (.int 0))) bY)))) (B4 (BS (Ak bG (aS (iN iF (eV 0) (eC (.int 1))) bY))))))) (zX (eC (.bl false))) AF)
  (oF (Ad 1 (Fb (eV 0) (AY (eC (.int 2))) Bc))
  (oF (BN (zO (iN Ag (iN iF (eV 0) (eC (.int 0))) (eC (.str "tie")))) (zX (Ak bD (aS (eV 1) bY))) AF)
  (oF (BN (zO (iN Ag (iN iF (eV 0) (eC (.int 0))) (eC (.str "cost")))) (zX (Ee (iN Ag (AJ AS (a1 (An 1))) (eC (.int 1))) (Ak da (aS (iN iF (eV 1) (eC (.int 0))) bY)))) AF)
  (zX (Ee (iN C0 (iN iF (eV 0) (eC (.int 0))) (zN (aS (eC (.str "place")) (aS (eC (.str "leave")) (aS (eC (.str "untie")) bY))))) (iN Ag (AJ AS (a1 (An 1))) (eC (.int 0)))))))))
def cQ:WS :=
  (oF (Ad 2 (iN iF (eV 1) (eC (.int 1))))
  (oF (BN (zO (iN C0 (eV 2) (iN iF (eV 0) (eC (.int 0))))) Gi AF)
  (zX (zN (aS (AJ ba (aS (B8 (aS (iN zR (iN iF (eV 0) (eC (.int 0))) (zN (aS (eV 2) bY))) bY)) bY)) (aS (iN iF (eV 0) (eC (.int 1))) bY))))))
def cE:WS :=
  (oF (Ad 2 (iN iF (eV 1) (eC (.int 1))))
  (oF (BN (zO (iN Be (eV 2) (iN iF (eV 0) (eC (.int 0))))) Gi AF)
  (zX (zN (aS (AJ ba (aS (BQ (iS (iN iF (eV 0) (eC (.int 0)))) (.nm 0) (zO (iN B7 (eV 0) (An 1))) (eV 0) [none,some 2]) bY)) (aS (iN iF (eV 0) (eC (.int 1))) bY))))))
def dR:WS :=
  (oF (Fs (Fb (eV 1) (AY (eC (.int 1))) Bc) (gT (Ap (gN 2) (Ap (gN 3) (Ap (gN 4) (Ap (gN 5) CH))))))
  (oF (BN (zO (iN C0 (eV 2) (Ak bw (aS (eV 0) bY)))) Gi AF)
  (oF (Ad 6 (zN (aS (eV 2) (aS (AJ Ib (aS (eV 3) (aS (eV 4) bY))) (aS (AJ Fy (aS (eV 3) (aS (eV 4) bY))) (aS (eV 5) bY))))))
  (zX (zN (aS (iN iF (eV 0) (eC (.int 0))) (aS (AJ ba (aS (mF (aS (iN zR (iN iF (eV 0) (eC (.int 1))) (zN (aS (eV 6) bY))) bY)) bY)) bY)))))))
def eF:WS :=
  (oF (Ad 2 (iN iF (eV 1) (eC (.int 1))))
  (oF (BN (zO (iN Be (eV 2) (Ak bw (aS (eV 0) bY)))) Gi AF)
  (zX (zN (aS (iN iF (eV 0) (eC (.int 0))) (aS (AJ ba (aS (BQ (iS (iN iF (eV 0) (eC (.int 1)))) (.nm 0) (zO (iN B7 (iN iF (eV 0) (eC (.int 0))) (An 1))) (eV 0) [none,some 2]) bY)) bY))))))
def dQ:WS :=
  (oF (Fs (Fb (eV 1) (AY (eC (.int 1))) Bc) (gT (Ap (gN 2) (Ap (gN 3) CH))))
  (oF (BN (zO (iN Be (eV 2) (Ak bw (aS (eV 0) bY)))) Gi AF)
  (zX (zN (aS (iN iF (eV 0) (eC (.int 0))) (aS (AJ ba (aS (BQ (iS (iN iF (eV 0) (eC (.int 1)))) (.nm 0) Ds (OS (zO (iN Ag (iN iF (eV 0) (eC (.int 0))) (An 1))) (iN zR (Fb (eV 0) Bc (AY (eC (.int 3)))) (zN (aS (eV 2) bY))) (eV 0)) [none,some 2,some 3]) bY)) bY))))))
def fO:WS :=
  (oF (BN (B4 (BS (Ak fZ (aS (eV 1) bY)))) Gi AF)
  (HR 2 [("place",b9),("leave",bZ),("tie",cB),("untie",cZ),("cost",cA)] (iN iF (eV 1) (eC (.int 0))) (aS (eV 0) (aS (eV 1) bY))))
def fQ:WS :=
  (oF (Ad 2 (AJ ba (aS (BQ (iS (eV 0)) (.nm 0) (zO (iN Be (eV 0) (An 1))) (eV 0) [none,some 1]) bY)))
  (oF (Ad 3 (AJ ba (aS (BQ (iS (eV 1)) (.nm 0) (zO (iN Be (eV 0) (An 1))) (eV 0) [none,some 0]) bY)))
  (zX (zN (aS (eV 2) (aS (eV 3) bY))))))
def eI(T:Addr):WS :=
  (zX (Ak f8 (aS (BD (db T) 2 (aS (eV 0) bY)) (aS (BD (db T) 2 (aS (Ak f7 (aS (eV 0) (aS (eV 1) bY))) bY)) bY))))
def ca(T:Addr):WS :=
  (oF (BN (Fp (B4 (BS (Cy "tuple" (An 2)))) (Fp (zO (iN B7 (AJ AS (a1 (An 2))) (eC (.int 2)))) (Fp (B4 (BS (Ak cC (aS (iN iF (eV 2) (eC (.int 0))) bY)))) (B4 (BS (Ak cC (aS (iN iF (eV 2) (eC (.int 1))) bY))))))) (zX (eC (.bl false))) AF)
  (zX (iN Ag (eV 2) (BD (fu T) 3 (aS (eV 0) (aS (eV 1) bY))))))
def io:WS :=
  (oF (Ad 2 (eC (.str "abcdefghijklmnopqrstuvwxyz")))
  (oF (Ad 3 (iN iF (eV 2) (tO aE 0 (aS (eC (.int 26)) bY))))
  (oF (Ad 4 (tO aE 0 (aS (eC (.int 7)) bY)))
  (oF (Ad 5 (tO aE 0 (aS (iN zR (eV 4) (eC (.int 1))) bY)))
  (oF (Ad 6 (tO aE 0 (aS (eC (.int 26)) bY)))
  (oF (Bw 7 (BK bY))
  (oF (DV (Lk (aS (eV 1) bY)) (gN 8) (oF (Ad 9 (iN zR (iN iF (eV 2) (iN CZ (iN zR (eV 6) (iN BV (eC (.int 5)) (An 8))) (eC (.int 26)))) (iN iF (eV 2) (iN CZ (iN zR (eV 6) (iN G9 (eV 8) (eC (.int 26)))) (eC (.int 26))))))
  (BN (C6 (zO (iN Ew (eV 1) (eC (.int 8)))) (zO (iN Ag (eV 4) (eC (.int 6))))) (Ct (J9 cj 7 (aS (iN BV (eV 3) (iN zR (eV 8) (eC (.int 1)))) bY))) (Ct (J9 cj 7 (aS (iN zR (iN zR (iN BV (eV 3) (An 5)) (An 9)) (iN BV (eV 3) (iN Ca (eV 4) (An 5)))) bY))))))
  (zX (eV 7)))))))))
def jU:WS :=
  (oF (BN (zO (iN Ag (eV 1) (eC (.int 0)))) (zX (eC (.int 5))) AF)
  (oF (BN (zO (iN Ag (eV 1) (eC (.int 1)))) (zX (iN Ca (tO aE 0 (aS (eC (.int 3)) bY)) (eC (.int 1)))) AF)
  (oF (BN (zO (iN Ag (eV 1) (eC (.int 2)))) (zX (iN Ca (tO aE 0 (aS (eC (.int 200)) bY)) (eC (.int 100)))) AF)
  (zX (iN iF (BK (aS (iN Ca (iN D0 (eC (.int 10)) (eC (.int 30))) (eC (.int 1))) (aS (iN Ca (eC (.int 1)) (iN D0 (eC (.int 10)) (eC (.int 30)))) (aS (eC (.int 0)) (aS (tO aE 0 (aS (iN D0 (eC (.int 10)) (eC (.int 9))) bY)) bY))))) (tO aE 0 (aS (eC (.int 4)) bY)))))))
def jS:WS :=
  (oF (BN (zO (iN Ag (eV 1) (eC (.int 2)))) (zX (zN (aS (iN CZ (eV 3) (An 2)) (aS (iN CZ (iN zR (eV 3) (eC (.int 1))) (An 2)) bY)))) AF)
  (oF (BN (zO (iN Ag (eV 1) (eC (.int 3)))) (zX (zN (aS (eC (.int 0)) (aS (iN zR (eC (.int 1)) (tO aE 0 (aS (iN Ca (eV 2) (eC (.int 1))) bY))) bY)))) AF)
  (oF (BN (C6 (zO (iN Ag (eV 1) (eC (.int 4)))) (zO (iN Iv (eV 2) (eC (.int 3))))) (oF (Ad 4 (iN G9 (eV 2) (eC (.int 2))))
  (oF (Ad 5 (tO aE 0 (aS (eC (.int 2)) bY)))
  (oF (Ad 6 (tO aE 0 (aS (eV 4) bY)))
  (zX (zN (aS (iN zR (iN BV (eV 5) (An 4)) (An 6)) (aS (iN zR (iN BV (eV 5) (An 4)) (iN CZ (iN zR (iN zR (eV 6) (eC (.int 1))) (tO aE 0 (aS (iN Ca (eV 4) (eC (.int 1))) bY))) (An 4))) bY))))))) AF)
  (oF (Ad 6 (tO aE 0 (aS (eV 2) bY)))
  (zX (zN (aS (eV 6) (aS (iN CZ (iN zR (iN zR (eV 6) (eC (.int 1))) (tO aE 0 (aS (iN Ca (eV 2) (eC (.int 1))) bY))) (An 2)) bY))))))))
def lJ:WS :=
  (oF (Ad 3 (tO aE 0 (aS (iN zR (eV 1) (eC (.int 1))) bY)))
  (oF (Ad 4 (tO cP 0 (aS (iN zR (eV 3) (eC (.int 2))) bY)))
  (oF (Ad 5 (Fb (eV 4) Bc (AY (AJ Fy (aS (eC (.int 2)) (aS (iN zR (eV 3) (tO aE 0 (aS (eC (.int 3)) bY))) bY))))))
  (oF (Ad 6 (tO aE 0 (aS (iN zR (eV 2) (eC (.int 1))) bY)))
  (oF (Ad 7 (tO cP 0 (aS (eV 6) bY)))
  (oF (HP 8 9 (aS (tO aE 0 (aS (eC (.int 5)) bY)) (aS (tO aE 0 (aS (eC (.int 4)) bY)) bY)))
  (oF (Bw 10 (BK bY))
  (oF (DV (Lk (aS (eV 6) bY)) (gN 11) (oF (Fs (tO kI 0 (aS (eV 8) (aS (AJ AS (a1 (An 5))) (aS (eV 11) bY)))) (gT (Ap (gN 12) (Ap (gN 13) CH))))
  (oF (Ad 14 (BC (aS (BK (aS (iN iF (eV 5) (An 12)) (aS (iN iF (eV 5) (An 13)) bY))) bY)))
  (Ct (J9 cj 10 (aS (zN (aS (iN iF (eV 7) (An 11)) (aS (iN iF (eV 14) (eC (.int 0))) (aS (iN iF (eV 14) (eC (.int 1))) (aS (tO fy 0 (aS (eV 9) bY)) bY))))) bY))))))
  (zX (zN (aS (AJ ba (aS (BC (aS (Fb (eV 4) Bc (AY (An 3))) bY)) bY)) (aS (AJ ba (aS (GH (a1 (An 10))) bY)) bY))))))))))))
def nV:WS :=
  (zX (iN iF (eV 1) (tO aE 0 (aS (AJ AS (a1 (An 1))) bY))))
def ip:WS :=
  (zX (iN iF (BQ (iS (tO cP 0 (aS (eC (.int 31)) bY))) (.nm 0) (zO (iN Be (eV 0) (An 1))) (eV 0) [none,some 1]) (eC (.int 0))))
def fR:WS :=
  (oF (Ad 3 (iN zR (AJ D4 (aS (iN iF (eV 1) (eC (.int 0))) bY)) (An 2)))
  (oF (BN (Fp (zO (iN Ew (AJ AS (a1 (An 3))) (eC (.int 2)))) (zO (iN Ag (tO aE 0 (aS (eC (.int 8)) bY)) (eC (.int 0))))) (Ad 3 (iN zR (eV 3) (Fb (BQ (iS (tO cP 0 (aS (eC (.int 14)) bY))) (.nm 0) (zO (iN Be (eV 0) (An 1))) (eV 0) [none,some 3]) Bc (AY (eC (.int 2)))))) AF)
  (oF (Ad 4 (tO aE 0 (aS (AJ AS (a1 (An 3))) bY)))
  (oF (Ad 5 (iN iF (eV 3) (iN CZ (iN zR (iN zR (eV 4) (eC (.int 1))) (tO aE 0 (aS (iN Ca (AJ AS (a1 (An 3))) (eC (.int 1))) bY))) (AJ AS (a1 (An 3))))))
  (oF (Ad 6 (tO fL 0 (aS (BQ (iS (iN iF (eV 1) (eC (.int 1)))) (.nm 0) Ds (iN iF (eV 0) (eC (.int 0))) [none]) bY)))
  (zX (zN (aS (eC (.str "tie")) (aS (eV 6) (aS (iN iF (eV 3) (An 4)) (aS (eV 5) (aS (tO fy 0 (aS (tO aE 0 (aS (eC (.int 4)) bY)) bY)) bY))))))))))))
def jT:WS :=
  (oF (Ad 2 (BQ (iS (iN iF (eV 1) (eC (.int 1)))) (.nm 0) Ds (iN iF (eV 0) (eC (.int 0))) [none]))
  (oF (Ad 3 (kG (aS (iN zR (BQ (iS (iN iF (eV 1) (eC (.int 1)))) (.nm 0) Ds (iN iF (eV 0) (eC (.int 1))) [none]) (BQ (iS (iN iF (eV 1) (eC (.int 1)))) (.nm 0) Ds (iN iF (eV 0) (eC (.int 2))) [none])) bY)))
  (oF (Ad 4 (BQ (iS (eV 3)) (.nm 0) (zO (iN Be (eV 0) (iN iF (eV 1) (eC (.int 0))))) (eV 0) [none,some 1]))
  (oF (Ad 5 (tO aE 0 (aS (eC (.int 7)) bY)))
  (oF (BN (C6 (zO (iN Ag (eV 5) (eC (.int 0)))) (zO (iN Ew (AJ AS (aS (iN iF (eV 1) (eC (.int 0))) bY)) (eC (.int 12))))) (oF (BN (C6 (zO (iN B7 (eV 4) (BK bY))) (zO (iN Iv (tO aE 0 (aS (eC (.int 4)) bY)) (eC (.int 0))))) (zX (zN (aS (eC (.str "place")) (aS (tO dP 0 (aS (eV 4) bY)) bY)))) AF)
  (zX (zN (aS (eC (.str "place")) (aS (tO fL 0 (aS (iN iF (eV 1) (eC (.int 0))) bY)) bY))))) AF)
  (oF (BN (C6 (zO (iN Ag (eV 5) (eC (.int 1)))) (zO (iN neT (iN iF (eV 1) (eC (.int 0))) (zN bY)))) (zX (zN (aS (eC (.str "leave")) (aS (tO dP 0 (aS (iN iF (eV 1) (eC (.int 0))) bY)) bY)))) AF)
  (oF (BN (C6 (zO (iN Ag (eV 5) (eC (.int 2)))) (zO (iN B7 (eV 2) (BK bY)))) (zX (zN (aS (eC (.str "untie")) (aS (tO dP 0 (aS (eV 2) bY)) bY)))) AF)
  (oF (BN (C6 (zO (iN C0 (eV 5) (zN (aS (eC (.int 3)) (aS (eC (.int 4)) bY))))) (zO (iN B7 (eV 2) (BK bY)))) (zX (zN (aS (eC (.str "cost")) (aS (tO dP 0 (aS (eV 2) bY)) (aS (tO fy 0 (aS (tO aE 0 (aS (eC (.int 4)) bY)) bY)) bY))))) AF)
  (oF (BN (zO (iN Ew (AJ AS (a1 (An 2))) (eC (.int 30)))) (zX (tO f9 0 (aS (eV 1) (aS (eV 4) bY)))) AF)
  (zX (zN (aS (eC (.str "untie")) (aS (tO dP 0 (aS (eV 2) bY)) bY)))))))))))))
def fS:WS :=
  (oF (Bw 2 (AJ Dk (aS (BQ (iS (iN iF (eV 0) (eC (.int 0)))) (.nm 0) Ds (zN (aS (eV 0) (aS (eC (.bl true)) bY))) [none]) bY)))
  (oF (Bw 3 (AJ Dk (aS (BQ (iS (iN iF (eV 0) (eC (.int 1)))) (.nm 0) Ds (zN (aS (iN iF (eV 0) (eC (.int 0))) (aS (eV 0) bY))) [none]) bY)))
  (oF (BN (zO (iN Ag (iN iF (eV 1) (eC (.int 0))) (eC (.str "place")))) (EU 2 (eC (.bl true)) (iN iF (eV 1) (eC (.int 1)))) (BN (zO (iN Ag (iN iF (eV 1) (eC (.int 0))) (eC (.str "leave")))) (Ct (FJ 2 (iN iF (eV 1) (eC (.int 1))))) (BN (zO (iN Ag (iN iF (eV 1) (eC (.int 0))) (eC (.str "untie")))) (Ct (FJ 3 (iN iF (eV 1) (eC (.int 1))))) (BN (zO (iN Ag (iN iF (eV 1) (eC (.int 0))) (eC (.str "cost")))) (EU 3 (iN zR (Fb (Cm iF 3 (iN iF (eV 1) (eC (.int 1)))) Bc (AY (eC (.int 3)))) (zN (aS (iN iF (eV 1) (eC (.int 2))) bY))) (iN iF (eV 1) (eC (.int 1)))) (oF (Ad 4 (B8 (aS (Fb (eV 1) (AY (eC (.int 2))) (AY (eC (.int 4)))) bY)))
  (EU 3 (zN (aS (iN iF (eV 1) (eC (.int 1))) (aS (iN iF (eV 4) (eC (.int 0))) (aS (iN iF (eV 4) (eC (.int 1))) (aS (iN iF (eV 1) (eC (.int 4))) bY))))) (iN iF (eV 1) (eC (.int 1)))))))))
  (zX (zN (aS (AJ ba (aS (BC (a1 (An 2))) bY)) (aS (AJ ba (aS (E9 3) bY)) bY)))))))
def eN:WS :=
  (oF (Bw 1 (AJ Dk (aS (BQ (iS (iN iF (eV 0) (eC (.int 0)))) (.nm 0) Ds (zN (aS (eV 0) (aS (eV 0) bY))) [none]) bY)))
  (oF (Bw 2 (BK bY))
  (oF (DV (iS (GI (aS (BQ (iS (iN iF (eV 0) (eC (.int 1)))) (.nm 0) Ds (zN (aS (iN iF (eV 0) (eC (.int 3))) (aS (iN iF (eV 0) (eC (.int 0))) (aS (iN iF (eV 0) (eC (.int 1))) (aS (iN iF (eV 0) (eC (.int 2))) bY))))) [none]) bY))) (gT (Ap (gN 3) (Ap (gN 4) (Ap (gN 5) (Ap (gN 6) CH))))) (BN (C6 (zO (iN C0 (eV 5) (An 1))) (C6 (zO (iN C0 (eV 6) (An 1))) (zO (iN B7 (Cm iF 1 (An 5)) (Cm iF 1 (An 6)))))) (oF (HP 7 8 (aS (Cm iF 1 (An 6)) (aS (Cm iF 1 (An 5)) bY)))
  (oF (DV (iS (AJ jq (a1 (An 1)))) (gN 9) (BN (zO (iN Ag (Cm iF 1 (An 9)) (An 7))) (EU 1 (eV 8) (eV 9)) AF))
  (Ct (J9 cj 2 (aS (eV 4) bY))))) AF))
  (zX (AJ ba (aS (BC (a1 (An 2))) bY))))))
def eM:WS :=
  (oF (Fs (zN (aS (Ak de (aS (eV 0) bY)) (aS (Ak de (aS (Ak dz (aS (eV 0) (aS (eV 1) bY))) bY)) bY))) (gT (Ap (gN 2) (Ap (gN 3) CH))))
  (oF (Ad 4 (AJ ba (aS (BQ (iS (eV 2)) (.nm 0) (zO (iN Be (eV 0) (An 1))) (eV 0) [none,some 3]) bY)))
  (zX (zN (aS (eV 4) (aS (AJ ba (aS (BQ (iS (eV 3)) (.nm 0) (zO (iN Be (eV 0) (An 1))) (eV 0) [none,some 2]) bY)) bY))))))
def cb(D:Fd):WS :=
  (oF (BN (BS (Cy "tuple" (An 1))) (oF (BN (Fp (B4 (BS (Cy "tuple" (An 0)))) (zO (iN B7 (AJ AS (a1 (An 0))) (AJ AS (a1 (An 1)))))) (zX (eC (.bl false))) AF)
  (zX (AJ Dx (aS (BQ (iZ (aS (eV 0) (aS (eV 1) bY))) (.tp [0,1]) Ds (Ak D (aS (eV 0) (aS (eV 1) bY))) [none,none]) bY)))) AF)
  (oF (BN (zO (iN Jr (eV 1) (eC .rW))) (zX (iN Jr (eV 0) (eC .rW))) AF)
  (oF (BN (BS (Cy "bool" (An 1))) (zX (Ee (Cy "bool" (An 0)) (iN Ag (eV 0) (An 1)))) AF)
  (oF (BN (BS (Cy "str" (An 1))) (zX (Ee (Cy "str" (An 0)) (iN Ag (eV 0) (An 1)))) AF)
  (zX (Ee (Cy "int" (An 0)) (Ee (JE (Cy "bool" (An 0))) (iN Ag (eV 0) (An 1)))))))))
def gK:WS :=
  (oF (Fs (eV 2) (gT (Ap (gN 3) (Ap (gN 4) CH))))
  (oF (Ad 5 (iN zR (BQ (iS (iN iF (eV 1) (eC (.int 1)))) (.nm 0) Ds (iN iF (eV 0) (eC (.int 0))) [none]) (BK (aS (eC (.str "zz")) bY))))
  (oF (Ad 6 (tO dP 0 (aS (eV 5) bY)))
  (oF (Ad 7 (BK (aS (zN (aS (iN zR (eV 3) (zN (aS (eV 6) bY))) (aS (eV 4) bY))) (aS (zN (aS (eV 3) (aS (iN zR (eV 4) (zN (aS (eV 6) bY))) bY))) (aS (zN (aS (Fb (eV 3) (AY (eC (.int 1))) Bc) (aS (eV 4) bY))) (aS (zN (aS (eV 3) (aS (Fb (eV 4) (AY (eC (.int 1))) Bc) bY))) (aS (zN (aS (eV 4) (aS (eV 3) bY))) bY)))))))
  (oF (Ad 7 (iN zR (eV 7) (BK (aS (zN (aS (iN zR (eV 3) (Fb (eV 3) Bc (AY (eC (.int 1))))) (aS (eV 4) bY))) (aS (zN (aS (eV 3) (aS (iN zR (Fb (eV 4) Bc (AY (eC (.int 1)))) (An 4)) bY))) (aS (zN (aS (NT Fu (eV 3)) (aS (eV 4) bY))) (aS (zN (aS (eV 3) (aS (NT Fu (eV 4)) bY))) bY)))))))
  (oF (Ad 7 (iN zR (eV 7) (BK (aS (zN (aS (zN bY) (aS (zN bY) bY))) (aS (zN (aS (iN zR (eV 3) (An 4)) (aS (zN bY) bY))) (aS (zN (aS (zN bY) (aS (iN zR (eV 3) (An 4)) bY))) (aS (zN (aS (AJ ba (aS (B8 (aS (iN zR (eV 3) (zN (aS (eV 6) bY))) bY)) bY)) (aS (eV 4) bY))) bY)))))))
  (oF (Ad 7 (iN zR (eV 7) (BK (aS (zN (aS (eV 3) (aS (AJ ba (aS (B8 (aS (iN zR (eV 4) (zN (aS (eV 6) bY))) bY)) bY)) bY))) (aS (zN (aS (AJ D4 (a1 (An 3))) (aS (eV 4) bY))) (aS (zN (aS (eV 3) (aS (AJ D4 (a1 (An 4))) bY))) (aS (BK (aS (eV 3) (aS (eV 4) bY))) bY)))))))
  (oF (Ad 7 (iN zR (eV 7) (BK (aS (zN (aS (eV 3) (aS (eV 4) (aS (zN bY) bY)))) (aS (zN (aS (eV 3) bY)) (aS (iN zR (eV 3) (An 4)) (aS (eC .rW) (aS (eC (.bl true)) (aS (eC (.int 0)) (aS (eC (.str "")) (aS (eC (.Av [])) (aS (zN (aS (eC .rW) (aS (eC .rW) bY))) (aS (zN (aS (eV 3) (aS (eC .rW) bY))) bY)))))))))))))
  (zX (iN zR (eV 7) (BK (aS (zN (aS (GK (eC (.str "")) (An 3)) (aS (eV 4) bY))) (aS (zN (aS (zN (aS (eV 3) bY)) (aS (eV 4) bY))) (aS (zN (aS (eV 3) (aS (zN (aS (eV 4) bY)) bY))) (aS (zN (aS (zN (aS (eC (.int 5)) bY)) (aS (zN bY) bY))) (aS (zN (aS (zN bY) (aS (zN (aS (eC .rW) bY)) bY))) (aS (zN (aS (zN (aS (eC (.bl true)) bY)) (aS (zN bY) bY))) bY)))))))))))))))))
def jd(T:Addr):WS :=
  (oF (Q.BO 1 0)
  (oF (DV (Lk (aS (iN zR (eC (.int 2)) (AJ AS (aS (Fb (eV 0) Bc (AY (eC (.int 9)))) bY))) bY)) (gN 2) (oF (Ad 3 (tO mQ 1 (aS (eC (.int 11)) (aS (eC (.int 29)) bY))))
  (DV (Lk (aS (eC (.int 3)) bY)) (gN 4) (oF (Ad 5 (tO kJ 1 (aS (eV 3) bY)))
  (oF (Ad 6 (Ak fx (aS (eV 3) (aS (eV 5) bY))))
  (oF (DV (iS (iN zR (BK (aS (eV 6) bY)) (tO ic 1 (aS (eV 3) (aS (eV 6) bY))))) (gN 7) (oF (Ad 8 (BD (cg T) 9 (aS (eV 3) (aS (eV 5) (aS (eV 7) bY)))))
  (BN (Fp (B4 (BS (Cy "bool" (An 8)))) (zO (iN B7 (eV 8) (Ak kH (aS (eV 7) (aS (eV 6) bY)))))) (zX (eC (.bl false))) AF)))
  (Ad 3 (Ak dz (aS (eV 3) (aS (eV 5) bY))))))))))
  (zX (eC (.bl true)))))
theorem bM(i j:Int):Ag (.int i) (.int j)=some (.bl (decide (i=j))):=by
 show some (PV.bl (i==j))=_
 rfl
variable{i j:Int}
theorem e7(h:0<j):CZ (.int i) (.int j)=some (.int (i % j)):=if_pos (decide_eq_true h)
theorem tF(h:0<j)(h2:j<1073741824):G9 (.int i) (.int j)=some (.int (i / j)):=if_pos (by simp[h,h2])
theorem oI(h : -(2 ^ 64)<j)(h2:j<2 ^ 64):BV (.int i) (.int j)=some (.int (i*j)):=if_pos (by unfold LS;simp only[aey,aaT,decide_eq_true_eq];exact .inr ⟨h,h2⟩)
theorem rZ(h:(decide (0<=j) && decide (j<=1000000) && decide (i.natAbs<2 ^ 64))=true):D0 (.int i) (.int j)=some (.int (i ^ j.toNat)):=if_pos h
theorem cR:Ca (.int i) (.int j)=some (.int (i - j)):=rfl
theorem bt:zR (.int i) (.int j)=some (.int (i+j)):=rfl
theorem pB(h:i=k)(hk:k<26):iF (.str LV) (.int i)=some (.str (ch k)):=by
 subst h
 show (if LV.length<=100000 then (GL LV.cps.toList (k:Int)).map (λc=>PV.str ⟨#[c]⟩)else none)=_
 rw[if_pos (by decide +kernel),ai (zk k hk)];rfl
theorem lU(b m:Nat):(DE (ch b) m).length=m:=by
 have:=congrArg acb (kW b m)
 rw[aca]at this
 show (DE (ch b) m).cps.size=m
 rw[<- aav];exact this
theorem xb(x y:Str):(x++y).length=x.length+y.length:=by show (x.cps++y.cps).size=_;exact afk
theorem add_str(h:x.length+y.length<=100000):zR (.str x) (.str y)=some (.str (x++y)):=if_pos h
theorem oJ{m:Nat}(h:i=m)(hm:m<=1000):BV (.str (ch b)) (.int i)=some (.str (DE (ch b) m)):=by
 subst h
 refine(if_pos ⟨by omega,by omega,?_⟩).trans ?_
 ·rw[show ((m:Int)).toNat=m by omega]
 ·show 1<=1000;decide
theorem rS{j:Nat}{x:PV}(h:(DD 0 n)[j]?=some x):j<n/\x=.int j:=by
 unfold DD at h
 rw[aal]at h
 rcases aaZ j n with z|z
 ·rw[abJ z]at h
  refine⟨z,?_⟩
  have:x=.int (0+(j:Int)):=by simpa using h.symm
  rw[this];congr 1;omega
 ·rw[aan (by simpa using z)]at h;cases h
theorem qb(n:Nat):(DD 0 n).length=n:=by unfold DD;rw[aad,ack]
theorem draw{m:Int}{P:PV->PV->Prop}(h0:0<m)(h1:m<1073741824)(k:∀r:Nat,(r:Int)<m->P (.int r) .rW):aE .rW [.int m] P :=
 ⟨rfl,m,rfl,h0,h1,λr r0 r1=>by
  obtain⟨i,rfl⟩:∃i:Nat,r=(i:Int):=⟨r.toNat,by omega⟩
  exact k i r1⟩
theorem sf(c:PV)(xs:List PV)(P:PV->PV->Prop)(h:cP c xs P):Q.DX 10 io c xs P:=by
 obtain⟨rfl,n,rfl,hn,h⟩:=h
 unfold io
 refine ah λN hN=>?_
 try lia
 subst hN
 refine ah λN hN=>?_
 lia
 refine draw (by decide) (by decide) λb hb=>?_
 refine ac (pB rfl (by omega)) ?_
 try lia
 subst hN
 refine ah λN hN=>?_
 lia
 refine draw (by decide) (by decide) λs hs=>?_
 try lia
 subst hN
 refine ah λN hN=>?_
 lia
 refine ac bt ?_
 refine draw (by omega) (by omega) λt ht=>?_
 try lia
 subst hN
 refine ah λN hN=>?_
 lia
 refine draw (by decide) (by decide) λf hf=>?_
 try lia
 subst hN
 refine ah λN hN=>?_
 try lia
 subst hN
 refine ah λN hN=>cM λG B hG hB=>?_
 lia
 refine⟨by omega,by omega,?_⟩
 subst hG
 refine bO (λi e=>∃v8 v9,e=[some ⟨2,.rW⟩,some ⟨0,.int n⟩,some ⟨0,.str LV⟩,some ⟨0,.str (ch b)⟩,some ⟨0,.int s⟩,some ⟨0,.int t⟩,some ⟨0,.int f⟩,some ⟨1,.lst ((Hw b s t f n i).map .str)⟩,v8,v9]) (i:=0) ⟨none,none,rfl⟩ ?_ ?_
 case refine_2=>
  rintro e ⟨v8,v9,rfl⟩
  show N _
  subst hN
  rw[qb,show ((n:Int)).toNat=n by omega,abE]
  lia
  exact h _ (by unfold Hw;rw[aad,ack]) (rD hn) (tV (by omega) (by omega) (by omega))
 rintro j x e M hj ⟨v8,v9,rfl⟩ k
 obtain⟨Uj,rfl⟩:=rS hj
 rw[abE]at k ⊢
 subst hB
 have Lv:j<n:=by omega
 refine ah λN' LC=>?_
 lia
 refine ac (oI (by omega) (by omega)) ?_
 refine ac bt ?_
 refine ac (e7 (by decide)) ?_
 refine ac (pB (k:=(f+5*j) % 26) (by omega) (by omega)) ?_
 refine ac (tF (by decide) (by decide)) ?_
 refine ac bt ?_
 refine ac (e7 (by decide)) ?_
 refine ac (pB (k:=(f+j / 26) % 26) (by omega) (by omega)) ?_
 refine ac (add_str (by show 1+1<=100000;decide)) ?_
 subst LC
 have push:∀y:Str,y=wd b s t f n j->M [some ⟨2,.rW⟩,some ⟨0,.int n⟩,some ⟨0,.str LV⟩,some ⟨0,.str (ch b)⟩,some ⟨0,.int s⟩,some ⟨0,.int t⟩,some ⟨0,.int f⟩,some ⟨1,.lst ((Hw b s t f n j).map .str++[.str y])⟩,some ⟨0,.int j⟩,some ⟨0,.str (ch ((f+5*j) % 26)++ch ((f+j / 26) % 26))⟩]:=λy hy=>by
  refine k _ ⟨some ⟨0,.int j⟩,some ⟨0,.str (ch ((f+5*j) % 26)++ch ((f+j / 26) % 26))⟩,?_⟩
  rw[hy,tW,aaU];rfl
 have len:((Hw b s t f n j).map PV.str).length<=100000:=by rw[aad];unfold Hw;rw[aad,ack];omega
 have two:(ch ((f+5*j) % 26)++ch ((f+j / 26) % 26)).cps.toList=[97+(f+5*j) % 26,97+(f+j / 26) % 26]:=by rw[ib];rfl
 lia
 by_cases c:n<8/\s=6
 ·have c1:((n:Int)<8):=by omega
  have c2:((s:Int)=6):=by omega
  rw[decide_eq_true c1]
  lia
  refine ac (bM _ _) ?_
  rw[decide_eq_true c2]
  lia
  refine ac bt ?_
  refine ac (oJ (m:=j+1) (by omega) (by omega)) ?_
  refine ac (Ie len) ?_
  refine push _ (lK ?_)
  rw[kW]
  unfold wd wl
  rw[if_pos c]
 ·have word:DE (ch b) t++(ch ((f+5*j) % 26)++ch ((f+j / 26) % 26))++DE (ch b) (s - t)=wd b s t f n j:=by
   refine lK ?_
   rw[ib,ib,two,kW,kW]
   unfold wd wl
   rw[if_neg c]
  have l2:(ch ((f+5*j) % 26)++ch ((f+j / 26) % 26)).length=2:=rfl
  have Sj:opt (BV (.str (ch b)) (.int t)) λz=>opt (zR z (.str (ch ((f+5*j) % 26)++ch ((f+j / 26) % 26)))) λz=>opt (Ca (.int s) (.int t)) λz1=>opt (BV (.str (ch b)) z1) λz1=>opt (zR z z1) λz=>opt (cj ((Hw b s t f n j).map .str) [z]) λr=>M [some ⟨2,.rW⟩,some ⟨0,.int n⟩,some ⟨0,.str LV⟩,some ⟨0,.str (ch b)⟩,some ⟨0,.int s⟩,some ⟨0,.int t⟩,some ⟨0,.int f⟩,some ⟨1,.lst r.2⟩,some ⟨0,.int j⟩,some ⟨0,.str (ch ((f+5*j) % 26)++ch ((f+j / 26) % 26))⟩]:=by
   refine ac (oJ rfl (by omega)) (ac (add_str (by rw[lU,l2];omega)) (ac cR (ac (oJ (m:=s - t) (by omega) (by omega)) (ac (add_str ?_) (ac (Ie len) (push _ word))))))
   rw[xb,lU,lU,l2];omega
  by_cases c1:(n:Int)<8
  ·have c2:¬ ((s:Int)=6):=by omega
   rw[decide_eq_true c1]
   lia
   refine ac (bM _ _) ?_
   rw[decide_eq_false c2]
   lia
   exact Sj
  ·rw[decide_eq_false c1]
   lia
   exact Sj
theorem uE(c:PV)(xs:List PV)(P:PV->PV->Prop)(h:fy c xs P):Q.DX 2 jU c xs P:=by
 obtain⟨rfl,q,rfl,h⟩:=h
 have VM:(1000000000:Int)<10 ^ 30:=by decide
 unfold jU
 refine ah λN hN=>?_
 lia
 refine ac (bM _ _) ?_
 lia
 split
 ·exact h _ (by omega) (by omega)
 subst hN
 refine ah λN hN=>?_
 lia
 refine ac (bM _ _) ?_
 lia
 split
 ·refine draw (by decide) (by decide) λr hr=>?_
  exact ac cR (h _ (by omega) (by omega))
 subst hN
 refine ah λN hN=>?_
 lia
 refine ac (bM _ _) ?_
 lia
 split
 ·refine draw (by decide) (by decide) λr hr=>?_
  exact ac cR (h _ (by omega) (by omega))
 subst hN
 lia
 have c30:(10:Int) ^ (30:Int).toNat=10 ^ 30:=by decide
 have c9:(10:Int) ^ (9:Int).toNat=1000000000:=by decide
 have pw:D0 (.int 10) (.int 30)=some (.int (10 ^ 30)):=(rZ (by decide)).trans (by rw[c30])
 have p9:D0 (.int 10) (.int 9)=some (.int 1000000000):=(rZ (by decide)).trans (by rw[c9])
 refine ac pw (ac cR (ac pw (ac cR (ac p9 ?_))))
 refine draw (by decide) (by decide) λr hr=>?_
 try lia
 refine draw (by decide) (by decide) λx hx=>?_
 match x,hx with
 |0,_=>exact ac (ai (j:=0) rfl) (h _ (by omega) (by omega))
 |1,_=>exact ac (ai (j:=1) rfl) (h _ (by omega) (by omega))
 |2,_=>exact ac (ai (j:=2) rfl) (h _ (by omega) (by omega))
 |3,_=>exact ac (ai (j:=3) rfl) (h _ (by omega) (by omega))
 |n+4,h=>omega
theorem turn(x d t:Int)(h0:0<t)(h1:0<=x)(h2:x<t)(h3:0<=d)(h4:d<t - 1):0<=(x+1+d) % t/\(x+1+d) % t<t/\x≠(x+1+d) % t:=by
 refine⟨acl _ (by omega),abQ _ h0,λe=>?_⟩
 have q:=Int.emod_add_mul_ediv (x+1+d) t
 rw[<- e]at q
 have:t*((x+1+d) / t)=1+d:=by omega
 generalize (x+1+d) / t=y at this
 rcases(show y<=0\/1<=y by omega)with z|z
 ·have:t*y<=0:=Int.mul_nonpos_of_nonneg_of_nonpos (by omega) (by omega)
  omega
 ·have:t*1<=t*y:=afx z (by omega)
  omega
theorem BE{m:Int}{P:PV->PV->Prop}(h0:0<m)(h1:m<1073741824)(k:∀r:Int,0<=r->r<m->P (.int r) .rW):aE .rW [.int m] P:=⟨rfl,m,rfl,h0,h1,k⟩
theorem uC(c:PV)(xs:List PV)(P:PV->PV->Prop)(h:kI c xs P):Q.DX 7 jS c xs P:=by
 obtain⟨rfl,f,m,kk,rfl,m2,m9,h⟩:=h
 have m0:(0:Int)<m:=by omega
 unfold jS
 refine ah λN hN=>?_
 lia
 refine ac (bM _ _) ?_
 lia
 split
 ·refine ac (e7 m0) (ac bt (ac (e7 m0) ?_))
  refine h _ _ (acl _ (by omega)) (abQ _ m0) (acl _ (by omega)) (abQ _ m0) λe=>?_
  refine(turn (kk % m) 0 m m0 (acl _ (by omega)) (abQ _ m0) (by omega) (by omega)).2.2 (e.trans ?_)
  rw[Int.add_zero,Int.emod_add_emod]
 subst hN
 refine ah λN hN=>?_
 lia
 refine ac (bM _ _) ?_
 lia
 split
 ·refine ac cR ?_
  refine BE (by omega) (by omega) λr p0 q0=>?_
  exact ac bt (h _ _ (by omega) m0 (by omega) (by omega) (by omega))
 subst hN
 refine ah λN hN=>aH λA B hA hB=>?_
 have last:B {IC P with nx:=N} [some ⟨2,.rW⟩,some ⟨0,.int f⟩,some ⟨0,.int m⟩,some ⟨0,.int kk⟩,none,none,none]:=by
  subst hB
  show N _
  subst hN
  refine ah λN hN=>?_
  lia
  refine BE (by omega) (by omega) λr p0 q0=>?_
  try lia
  subst hN
  lia
  refine ac bt (ac cR ?_)
  refine BE (by omega) (by omega) λd p1 q1=>?_
  try lia
  refine ac bt (ac (e7 m0) ?_)
  have t:=turn r d m m0 p0 q0 p1 q1
  exact h _ _ p0 q0 t.1 t.2.1 t.2.2
 lia
 refine ac (bM _ _) ?_
 lia
 by_cases c1:f=4
 case neg=>
  rw[decide_eq_false c1]
  exact last
 rw[decide_eq_true c1]
 lia
 by_cases c2:3<m
 case neg=>
  rw[decide_eq_false c2]
  exact last
 rw[decide_eq_true c2]
 lia
 subst hA
 refine ah λN hN=>?_
 lia
 refine ac (tF (by decide) (by decide)) ?_
 subst hN
 refine ah λN hN=>?_
 lia
 refine BE (by omega) (by omega) λr p0 q0=>?_
 try lia
 subst hN
 refine ah λN hN=>?_
 lia
 refine BE (by omega) (by omega) λr2 p2 q2=>?_
 try lia
 subst hN
 have bd:∀y:Int,0<=y->y<m / 2->0<=r*(m / 2)+y/\r*(m / 2)+y<m:=λy y0 y1=>by
  have:r=0\/r=1:=by omega
  rcases this with rfl|rfl<;>omega
 lia
 refine ac (oI (by omega) (by omega)) (ac bt (ac (oI (by omega) (by omega)) (ac bt (ac cR ?_))))
 refine BE (by omega) (by omega) λr3 p3 q3=>?_
 try lia
 refine ac bt (ac (e7 (by omega)) (ac bt ?_))
 have t:=turn r2 r3 (m / 2) (by omega) p2 q2 p3 q3
 exact h _ _ (bd _ p2 q2).1 (bd _ p2 q2).2 (bd _ t.1 t.2.1).1 (bd _ t.1 t.2.1).2 λe=>t.2.2 (by omega)
theorem yE(h:(if j > i then j else i)=k):Fy [.int i,.int j]=some (.int k):=by rw[<- h];rfl
theorem nZ{i:Nat}(h:i<l.length):iF (.lst (l.map .str)) (.int i)=some (.str l[i]):=ai (by rw[aal,aab h];rfl)
theorem kR:∀ss:List Str,(ss.map PV.str).mapM Bo=some ss
 |[]=>rfl
 |s::ss=>by rw[aap,aa8,kR ss];rfl
theorem nW:∀ts:List zQ,(ts.map gE).mapM Gy=some (ts.map zQ.nm)
 |[]=>rfl
 |t::ts=>by rw[aap,aa8,nW ts];rfl
theorem oe{β:Type}{f:α->β}{l:List α}{a:α}{b:β}(h:∀i∈ix,i<l.length):(ix.map λi=>(l.map f).getD i b)=(ix.map λi=>l.getD i a).map f:=by
 rw[aaA]
 refine aaP λi hi=>?_
 show _=f (l.getD i a)
 rw[aae,aae,aal,aab (h i hi)];rfl
theorem wM(c:PV)(xs:List PV)(P:PV->PV->Prop)(h:mQ c xs P):Q.DX 15 lJ c xs P:=by
 obtain⟨rfl,M,T,rfl,M0,M1,T0,T1,h⟩:=h
 unfold lJ
 refine ah λN hN=>?_
 lia
 refine ac bt ?_
 refine draw (by omega) (by omega) λmm VB=>?_
 subst hN
 refine ah λN hN=>?_
 lia
 refine ac bt ?_
 refine⟨rfl,mm+2,rfl,by omega,λws wl wn ww=>?_⟩
 subst hN
 refine ah λN hN=>?_
 lia
 refine draw (by decide) (by decide) λr hr=>?_
 refine ac bt ?_
 obtain⟨pn,TY,Mc,Vz⟩:∃pn:Nat,(if (mm:Int)+r > 2 then (mm:Int)+r else 2)=(pn:Int)/\2<=pn/\pn<=mm+2:=by
  refine⟨(if (mm:Int)+r > 2 then (mm:Int)+r else 2).toNat,?_,?_,?_⟩<;>split<;>omega
 refine ac (yE TY) ?_
 try lia
 rw[cO,<- ad9]
 subst hN
 have pl:(ws.take pn).length=pn:=by rw[aa9,wl];omega
 have RJ:(ws.take pn).Nodup:=wn.sublist (acI _ _)
 have pw:∀x∈ws.take pn,oR x:=λx hx=>ww x (acO hx)
 generalize ws.take pn=Ax at pl RJ pw ⊢
 refine ah λN hN=>?_
 lia
 refine ac bt ?_
 refine draw (by omega) (by omega) λcc QL=>?_
 subst hN
 refine ah λN hN=>?_
 lia
 refine⟨rfl,cc,rfl,by omega,λns nl nn nw=>?_⟩
 subst hN
 refine ah λN hN=>?_
 simp only[HP]
 lia
 refine BE (by decide) (by decide) λSg p0 q0=>?_
 refine BE (by decide) (by decide) λRC p1 q1=>?_
 subst hN
 refine ah λN hN=>?_
 lia
 subst hN
 refine ah λN hN=>cM λG B hG hB=>?_
 lia
 refine⟨by omega,by omega,?_⟩
 subst hG
 refine bO (λi e=>∃ts v11 Pk Pj Ph,e=[some ⟨2,.rW⟩,some ⟨0,.int M⟩,some ⟨0,.int T⟩,some ⟨0,.int mm⟩,some ⟨0,.lst (ws.map .str)⟩,some ⟨0,.lst (Ax.map .str)⟩,some ⟨0,.int cc⟩,some ⟨0,.lst (ns.map .str)⟩,some ⟨0,.int Sg⟩,some ⟨0,.int RC⟩,some ⟨1,.lst (ts.map gE)⟩,v11,Pk,Pj,Ph]/\ts.map zQ.nm=ns.take i/\ts.length=i/\∀t∈ts,Kh t) (i:=0) ⟨[],none,none,none,none,rfl,rfl,rfl,by simp⟩ ?_ ?_
 case refine_2=>
  rintro e ⟨ts,v11,Pk,Pj,Ph,rfl,g1,g2,g3⟩
  rw[qb,show ((cc:Int)).toNat=cc by omega,abE]at g1 g2
  show N _
  subst hN
  have Qv:ts.map zQ.nm=ns:=by rw[g1,<- nl,acu]
  simp only[zX,zN,AJ,aS,BC,GH]
  lia
  rw[cO,<- ad9]
  refine⟨_,kR _,by rw[aa9];omega,λss up=>ac rfl ?_⟩
  try lia
  refine⟨_,nW ts,by rw[Qv];exact nn,by rw[aad];omega,λix il OG iw=>ac rfl ?_⟩
  rw[aad]at OG il
  rw[oe (a:=t0) OG]
  refine h ss _ ⟨eu up.2 (up.1.nodup_iff.mpr (wn.sublist (acI _ _))),λx hx=>ww x (acO (up.1.mem_iff.mp hx)),?_,λt ht=>?_⟩ ?_ ?_
  ·rw[oe (a:=t0) OG]at iw;exact iw
  ·obtain⟨j,hj,rfl⟩:=List.mem_map.mp ht
   have:=OG j hj
   rw[aae,aab this]
   exact g3 _ (abV _)
  ·rw[up.1.length_eq,aa9];omega
  ·rw[aad,il,g2];omega
 rintro j x e M' hj ⟨ts,v11,Pk,Pj,Ph,rfl,g1,g2,g3⟩ k
 obtain⟨Uj,rfl⟩:=rS hj
 rw[abE]at g1 g2 k
 subst hB
 have Lv:j<ns.length:=by omega
 refine ah λN hN=>?_
 lia
 refine⟨rfl,Sg,Ax.length,j,by rw[aad],by omega,by omega,λx y x0 x1 y0 y1 xy=>?_⟩
 obtain⟨x,rfl⟩:∃z:Nat,x=(z:Int):=⟨x.toNat,by omega⟩
 obtain⟨y,rfl⟩:∃z:Nat,y=(z:Int):=⟨y.toNat,by omega⟩
 have hx:x<Ax.length:=by omega
 have hy:y<Ax.length:=by omega
 lia
 subst hN
 refine ah λN hN=>?_
 simp only[Ad,BC]
 lia
 refine ac (nZ hx) (ac (nZ hy) ?_)
 refine⟨[Ax[x],Ax[y]],rfl,(by show 2<64;decide),λss up=>?_⟩
 have Qi:Ax[x]≠Ax[y]:=λe=>xy (by
  have:=(ab7 RJ).mp e
  omega)
 obtain⟨u,v,rfl,uv,hu,hv⟩:=xW up.1 up.2 Qi
 have wu:oR u:=pw u (by rcases hu with e|e<;>rw[e]<;>exact abV _)
 have wv:oR v:=pw v (by rcases hv with e|e<;>rw[e]<;>exact abV _)
 subst hN
 lia
 refine ac (nZ Lv) (ac (z:=.str u) (ai (j:=0) rfl) (ac (z:=.str v) (ai (j:=1) rfl) ?_))
 refine⟨rfl,RC,rfl,λc c0 c1=>?_⟩
 lia
 refine ac (Ie (by rw[aad];omega)) ?_
 refine k _ ⟨ts++[⟨ns[j],u,v,c⟩],some ⟨0,.int j⟩,some ⟨0,.int x⟩,some ⟨0,.int y⟩,some ⟨0,.lst [.str u,.str v]⟩,by rw[aaU];rfl,?_,by rw[aat,g2];rfl,λt ht=>?_⟩
 ·rw[aaU,g1]
  show ns.take j++[ns[j]]=ns.take (j+1)
  rw[acQ,aab Lv];rfl
 ·rcases List.mem_append.mp ht with z|z
  ·exact g3 t z
  ·have:t=⟨ns[j],u,v,c⟩:=by simpa using z
   subst this
   exact⟨nw _ (abV _),wu,wv,uv,c0,c1⟩
theorem yF(a b:Nat):Ai (⟨#[a]⟩:Str) (⟨#[b]⟩:Str)↔a<b:=by
 show [a]<[b]↔a<b
 constructor
 ·intro h
  cases h with
  |rel h=>exact h
  |cons h=>cases h
 ·intro h;exact .rel h
theorem wo(c:Nat):((!decide (Ai ⟨#[c]⟩ (aax "a"))) && (!decide (Ai (aax "z") ⟨#[c]⟩)))=L8 c:=by
 have e1:(aax "a")=⟨#[97]⟩:=by decide +kernel
 have e2:(aax "z")=⟨#[122]⟩:=by decide +kernel
 unfold L8
 rw[e1,e2]
 simp only[yF]
 rw[abt]
 simp
theorem pE(xs:List PV)(P:PV->Prop)(h:bG xs P):Q.run 1 fM xs P:=by
 obtain⟨x,rfl,hx,h⟩:=h
 unfold fM
 cases x with
 |str s=>
  have hs:s.length<=1000:=hx
  have TV:s.length<=100000:=by omega
  have hc:s.cps.toList.length=s.length:=by simp[adh]
  lia
  rw[if_pos TV]
  lia
  have hw:B9 (.str s)=(decide (1<=s.length) && decide (s.length<=8) && s.cps.toList.all L8):=rfl
  rw[hw]at h
  by_cases h1:1<=s.length
  ·by_cases h2:s.length<=8
   ·have NR:(1:Int)<=(s.length:Int):=by omega
    have IZ:(s.length:Int)<=8:=by omega
    simp only[NR,IZ,decide_true,if_true,abY,aa0,if_false,dl]
    refine be (λx=>match x with|.str s=>.bl ((!decide (Ai s (aax "a"))) && (!decide (Ai (aax "z") s)))|_=>.rW) (λx hx R hR=>?_) (by simp[Cs,hc];omega) ?_
    ·unfold Cs at hx
     obtain⟨c,hc,rfl⟩:=List.mem_map.mp hx
     simp only[EC,aap,afp,List.set_cons_zero]
     lia
     replace hR:R (.bl ((!decide (Ai ⟨#[c]⟩ (aax "a"))) && (!decide (Ai (aax "z") ⟨#[c]⟩)))) [some ⟨0,.str s⟩]:=hR
     cases q:decide (Ai ⟨#[c]⟩ (aax "a"))with
     |true=>rw[q]at hR;exact hR
     |false=>rw[q]at hR;exact hR
    ·have e:(Cs s).map (λx=>match x with|.str s=>PV.bl ((!decide (Ai s (aax "a"))) && (!decide (Ai (aax "z") s)))|_=>.rW)=(s.cps.toList.map L8).map PV.bl:=by
      unfold Cs
      rw[aaA,aaA]
      exact aaP λc _=>congrArg PV.bl (wo c)
     rw[aaH,e]
     refine ac (fK _) ?_
     simpa[h1,h2,List.all_map]using h
   ·have IZ:¬ (s.length:Int)<=8:=by omega
    have NR:(1:Int)<=(s.length:Int):=by omega
    simp only[NR,IZ,decide_true,decide_false,if_true,ab0,dl]
    simpa[h1,h2]using h
  ·have NR:¬ (1:Int)<=(s.length:Int):=by omega
   simp only[NR,decide_false,aa0,if_false,ab0,if_true,dl]
   simpa[h1]using h
 |set _=>exact hx.elim
 |BH _=>exact hx.elim
 |_=>lia;exact h
theorem ol(xs:List PV)(P:PV->Prop)(h:da xs P):Q.run 1 eG xs P:=by
 obtain⟨x,rfl,hx,h⟩:=h
 unfold eG
 cases x with
 |set _=>exact hx.elim
 |BH _=>exact hx.elim
 |_=>lia;exact h
theorem pX:∀{ys:List PV},(∀y∈ys,B9 y=true)->ys=(ys.filterMap Bo).map PV.str
 |[],_=>rfl
 |y::ys,e=>by
  have h:=e y (by simp)
  cases y with
  |str s=>exact congrArg (PV.str s::·) (pX λx hx=>e x (by simp[hx]))
  |_=>cases h
theorem qO(h:oR x):Plain (.str x):=by
 have:=h.hi
 have e:x.length=x.cps.toList.length:=by simp[adh]
 show x.length<=1000
 omega
theorem t6(us:List Str):(us.map PV.str).filterMap Bo=us:=by
 induction us with
 |nil=>rfl
 |cons u us ih=>exact congrArg (u::·) ih
theorem eq_str(i j:Str):Ag (.str i) (.str j)=some (.bl (i==j)):=rfl
theorem CY(ps:List Str)(ts:List zQ):iF (lT ps ts) (.int 1)=some (.tup (ts.map gE)):=ai (j:=1) rfl
theorem CF(ps:List Str)(ts:List zQ):iF (lT ps ts) (.int 0)=some (.tup (ps.map .str)):=ai (j:=0) rfl
theorem pF(xs:List PV)(P:PV->Prop)(h:fY xs P):Q.run 2 fN xs P:=by
 obtain⟨ps,ts,t,rfl,h⟩:=h
 unfold fN lT gE
 lia
 refine ac (z:=.str t.one) (ai (j:=1) rfl) (ac (z:=.tup (ps.map .str)) (ai (j:=0) rfl) (ac fG ?_))
 lia
 unfold CN at h
 cases e:decide (t.one∈ps)with
 |false=>rw[e]at h;exact h
 |true=>
  rw[e,Bool.true_and]at h
  exact ac (z:=.str t.Bi) (ai (j:=2) rfl) (ac (z:=.tup (ps.map .str)) (ai (j:=0) rfl) (ac fG h))
theorem iY{β:Type}(p:α->Bool)(f:α->β):∀(l:List α),l.filterMap (λa=>if p a=true then some (f a)else none)=(l.filter p).map f
 |[]=>rfl
 |a::l=>by
  rw[abm,ab8,iY p f l]
  cases p a<;>rfl
theorem nC(xs:List PV)(P:PV->Prop)(h:dZ xs P):Q.run 1 dS xs P:=by
 obtain⟨ps,ts,rfl,hl,h⟩:=h
 unfold dS
 have e1:iF (lT ps ts) (.int 1)=some (.tup (ts.map gE)):=ai (j:=1) rfl
 lia
 refine ac e1 ?_
 lia
 refine bH (λx=>match x with|.tup [.str a,.str b,.str c,.int d]=>if CN ps ⟨a,b,c,d⟩=true then some (.str a)else none|_=>none) (λx hx R hR=>?_) (by simp;omega) ?_
 ·obtain⟨t,ht,rfl⟩:=List.mem_map.mp hx
  refine⟨ps,ts,t,rfl,?_⟩
  replace hR:R (if CN ps t=true then some (.str t.nm)else none) [some ⟨0,lT ps ts⟩]:=hR
  show opt (some (CN ps t)) _
  rw[dl]
  cases e:CN ps t with
  |false=>rw[e]at hR;exact hR
  |true=>
   rw[e]at hR
   show opt (iF (gE t) (.int 0)) _
   refine ac (z:=.str t.nm) (ai (j:=0) rfl) ?_
   exact hR
 ·rw[aaH,List.filterMap_map]
  have e:ts.filterMap ((λx=>match x with|PV.tup [.str a,.str b,.str c,.int d]=>if CN ps ⟨a,b,c,d⟩=true then some (PV.str a)else none|_=>none) ∘ gE)=(jl ps ts).map .str:=by
   unfold jl
   rw[aaA]
   exact iY (CN ps) (λt=>PV.str t.nm) ts
  rw[e]
  exact ac rfl h
variable{L:Str->Str}
theorem dn(nd:ps.Nodup)(h:p∈ps):iF (AZ ps L) (.str p)=some (.str (L p)):=by
 show A4 _ (aao p)=_
 exact dh (f:=id) (g:=λp=>PV.str (L p)) (l:=ps) (a:=p) (by simpa using nd) h
theorem uH(ok:Bp ps ts):(jl ps ts).Nodup:=(aV ok).sublist (List.filter_sublist.map _)
theorem cI(fs:List Str):(fs.map PV.str).mapM Bo=some fs:=by
 induction fs with
 |nil=>rfl
 |cons f fs ih=>rw[aap,aa8,ih];rfl
theorem wt{x:PV}{ns:List Int}(m:Nat)(hx:x=.BH ns\/x=.lst (ns.map .int)):∃zs,Jh x none (some (m:Int))=some (.lst zs)/\zs.length<=m:=by
 rcases hx with rfl|rfl
 ·exact⟨_,rfl,by rw[cO];simp;omega⟩
 ·exact⟨_,rfl,by rw[cO];simp;omega⟩
theorem se(xs:List PV)(P:PV->Prop)(h:i9 xs P):Q.run 1 im xs P:=by
 obtain⟨ps,ts,rfl,hl,nd,h⟩:=h
 unfold im
 lia
 simp only[JF]
 lia
 refine ac (CY ps ts) ?_
 lia
 refine fo (done:=[]) zQ.nm (λt=>.tup [.int t.cost,.str t.nm]) gE nd (λt ht R hR=>?_) (by simp;omega) h
 show opt (iF (gE t) (.int 0)) _
 refine ac (z:=.str t.nm) (ai (j:=0) rfl) ?_
 show opt (iF (gE t) (.int 3)) _
 refine ac (z:=.int t.cost) (ai (j:=3) rfl) ?_
 show opt (iF (gE t) (.int 0)) _
 refine ac (z:=.str t.nm) (ai (j:=0) rfl) ?_
 exact hR
theorem qk{i j:Nat}(hi:i<us.length)(hj:j<us.length):D3 (us.map λu=>(u.cost,u.nm)) i j=true↔Ho (us.getD i t0) (us.getD j t0):=by
 have g:∀i,i<us.length->(us.map λu=>(u.cost,u.nm)).getD i (0,⟨#[]⟩)=((us.getD i t0).cost,(us.getD i t0).nm):=λi hi=>by
  rw[aae,aal,aab hi,aae,aab hi];rfl
 unfold D3 Ho
 rw[g i hi,g j hj,decide_eq_true_eq]
theorem lr{i:Nat}(hi:i<us.length):(us.map zQ.nm).getD i ⟨#[]⟩=(us.getD i t0).nm:=by
 rw[aae,aal,aab hi,aae,aab hi];rfl
theorem jD(T:Addr)(c:PV)(xs:List PV)(P:PV->PV->Prop)(h:cv T c xs P):Q.DC 3 (cq T) c xs P:=by
 obtain⟨rfl,ps,ts,us,rfl,hl,nd,Ck,SR,QB,h⟩:=h
 unfold cq
 simp only[DC,GG,HA]
 refine ah λN hN=>?_
 lia
 refine⟨ps,ts,rfl,hl,nd,?_⟩
 lia
 subst hN
 simp only[zX,GJ,eV,acs,ac9]
 refine⟨us.map zQ.nm,us.map λu=>(u.cost,u.nm),(by first|trivial|rfl),cI _,by simpa using Ck,by simp,by rw[aaA];exact SR,λm hm=>?_,λix ok=>?_⟩
 ·rw[aad]at hm
  have hu:us.getD m t0∈us:=by rw[aae,aab hm];exact abV _
  have e:(us.map λu=>(u.cost,u.nm)).getD m k0=((us.getD m t0).cost,(us.getD m t0).nm):=by
   rw[aae,aal,aab hm,aae,aab hm];rfl
  rw[e,lr hm]
  exact dh (f:=zQ.nm) (g:=λt=>PV.tup [.int t.cost,.str t.nm]) nd (QB _ hu)
 ·have lt:∀i∈ix,i<us.length:=λi hi=>by have:=ok.lt i hi;rwa [aad]at this
  have e:(ix.map λm=>PV.str ((us.map zQ.nm).getD m ⟨#[]⟩))=((ix.map λi=>us.getD i t0).map zQ.nm).map .str:=by
   rw[aaA,aaA]
   exact aaP λi hi=>by show PV.str _=PV.str _;rw[lr (lt i hi)]
  rw[e]
  refine h _ (mr (by have:=ok.len;rwa [aad]at this) ok.nd lt) ?_
  refine List.pairwise_map.mpr (adY (λhx hy hq=>?_) ok.up)
  exact(qk (lt _ hx) (lt _ hy)).mp hq
theorem oq(T:Addr)(c:PV)(xs:List PV)(P:PV->PV->Prop)(h:db T c xs P):Q.DC 1 (eJ T) c xs P:=by
 obtain⟨rfl,ps,ts,rfl,ok,hp,ht,h⟩:=h
 unfold eJ
 have hf:=aaS (CN ps) ts
 simp only[DC,GG,HA]
 lia
 simp only[BD]
 lia
 refine⟨ps,ts,rfl,by omega,?_⟩
 lia
 refine⟨rfl,ps,ts,ts.filter (CN ps),rfl,by omega,aV ok,by omega,uH ok,λu hu=>(List.mem_filter.mp hu).1,λvs pm up=>?_⟩
 lia
 refine⟨ps,ts,vs,rfl,ok,hp,ht,pm,up,?_⟩
 exact h
theorem gi(a b:Str):B7 (.str a) (.str b)=some (.bl (!decide (a=b))):=by
 show some (PV.bl (!decide (V.str a=V.str b)))=_
 congr 3
 simp
theorem jC(xs:List PV)(P:PV->Prop)(h:cu xs P):Q.run 9 cp xs P:=by
 obtain⟨ps,ts,vs,rfl,ok,hp,ht,pm,up,h⟩:=h
 have pn:=cJ ok.rise
 have tn:=aV ok
 have vl:vs.length<=60:=by rw[pm.length_eq];exact aa2 (aaS _ _) ht
 have oo:∀u∈ts.filter (CN ps),CN ps u=true:=λu hu=>(List.mem_filter.mp hu).2
 have vo:∀u∈vs,CN ps u=true:=λu hu=>oo u (pm.mem_iff.mp hu)
 have vt:∀u∈vs,u∈ts:=λu hu=>(List.mem_filter.mp (pm.mem_iff.mp hu)).1
 have vn:(vs.map zQ.nm).Nodup:=(pm.map zQ.nm).nodup_iff.mpr (tn.sublist (List.filter_sublist.map _))
 unfold cp
 refine ah λN hN=>?_
 lia
 refine⟨ps,ts,rfl,by omega,tn,?_⟩
 lia
 subst hN
 refine ah λN hN=>?_
 lia
 simp only[JF]
 lia
 refine ac (CF ps ts) ?_
 lia
 refine fo (done:=[]) (α:=Str) (λp=>p) PV.str PV.str (by simpa using pn) (λp hp R hR=>hR) (by simp;omega) ?_
 show N [some ⟨0,lT ps ts⟩,some ⟨0,.lst ((vs.map zQ.nm).map .str)⟩,some ⟨0,.Av (ts.map λt=>(aao t.nm,gE t))⟩,some ⟨1,AZ ps id⟩,none,none,none,none,none]
 subst hN
 refine ah λN hN=>?_
 lia
 subst hN
 refine ah λN hN=>cM λG B hG hB=>?_
 lia
 refine bO (λj e=>∃(v5 v6 v7 v8:Option Sl),e=[some ⟨0,lT ps ts⟩,some ⟨0,.lst ((vs.map zQ.nm).map .str)⟩,some ⟨0,.Av (ts.map λt=>(aao t.nm,gE t))⟩,some ⟨1,AZ ps (wr (vs.take j)).1⟩,some ⟨1,.lst ((wr (vs.take j)).2.map .str)⟩,v5,v6,v7,v8]) (i:=0)
  ⟨none,none,none,none,rfl⟩ ?_ ?_
 case refine_2=>
  rintro e ⟨v5,v6,v7,v8,rfl⟩
  show N _
  rw[aad,aad,abE,acu]
  subst hN
  simp only[zX,AJ,aS]
  lia
  simp only[BC]
  lia
  refine⟨_,cI _,?_,λgs us=>ac rfl ?_⟩
  ·have:=(gH vn).2
   omega
  ·rw[o9 ⟨vs,pm,up,us.1,eu us.2 (us.1.nodup_iff.mpr (gH vn).1)⟩]
   exact h
 rintro j x e M hx ⟨v5,v6,v7,v8,rfl⟩ k
 rw[abE]at k ⊢
 have hj:j<vs.length:=by have:=(List.getElem?_eq_some_iff.mp hx).1;simpa using this
 obtain⟨t,et⟩:∃t,vs[j]?=some t:=⟨_,aab hj⟩
 have ex:x=.str t.nm:=by
  rw[aal,aal,et]at hx
  exact(aau hx).symm
 have tv:t∈vs:=abh et
 have ot:=vo t tv
 obtain⟨o1,o2⟩:=DL.mp ot
 have UL:vs.take (j+1)=vs.take j++[t]:=by rw[acQ,et];rfl
 have ew:wr (vs.take (j+1))=AQ (wr (vs.take j)) t:=by rw[UL,pV]
 have kl:(wr (vs.take j)).2.length<=60:=by
  have:=(gH (vs:=vs.take j) (vn.sublist ((acI _ _).map _))).2
  rw[aa9]at this
  omega
 rw[ew]at k
 generalize wr (vs.take j)=gk at k kl ⊢
 obtain⟨g,kp⟩:=gk
 subst ex hG hB
 show oF _ _ _ [some ⟨0,lT ps ts⟩,some ⟨0,.lst ((vs.map zQ.nm).map .str)⟩,some ⟨0,.Av (ts.map λt=>(aao t.nm,gE t))⟩,some ⟨1,AZ ps g⟩,some ⟨1,.lst (kp.map .str)⟩,some ⟨0,.str t.nm⟩,v6,v7,v8]
 refine ah λN' LC=>?_
 lia
 refine ac (z:=gE t) (dh (f:=zQ.nm) (g:=gE) tn (vt t tv)) ?_
 show N' _
 subst LC
 refine ah λN' LC=>?_
 lia
 simp only[Cm]
 lia
 refine ac (z:=PV.str t.one) (ai (j:=1) rfl) ?_
 try lia
 refine ac (dn pn o1) ?_
 try lia
 refine ac (z:=PV.str t.Bi) (ai (j:=2) rfl) ?_
 try lia
 refine ac (dn pn o2) ?_
 try lia
 show N' _
 subst LC
 refine aH λA1 B1 Bf AH=>?_
 lia
 refine ac (gi _ _) ?_
 lia
 by_cases hg:g t.one=g t.Bi
 ·rw[decide_eq_true hg,abY,if_neg (by simp)]
  subst AH
  have es:AQ (g,kp) t=(g,kp):=by unfold AQ;rw[if_pos hg]
  rw[es]at k
  exact k _ ⟨some ⟨0,.str t.nm⟩,some ⟨0,gE t⟩,some ⟨0,.str (g t.one)⟩,some ⟨0,.str (g t.Bi)⟩,rfl⟩
 ·rw[decide_eq_false hg,ab0,if_pos rfl]
  subst Bf
  have es:AQ (g,kp) t=(λp=>if g p=g t.Bi then g t.one else g p,kp++[t.nm]):=by unfold AQ;rw[if_neg hg]
  rw[es]at k
  refine ah λN' LC=>?_
  lia
  refine ac (Ie (by rw[aad];have:kp.length<=60:=kl;omega)) ?_
  show N' [some ⟨0,lT ps ts⟩,some ⟨0,.lst ((vs.map zQ.nm).map .str)⟩,some ⟨0,.Av (ts.map λt=>(aao t.nm,gE t))⟩,some ⟨1,AZ ps g⟩,some ⟨1,.lst (kp.map .str++[.str t.nm])⟩,some ⟨0,.str t.nm⟩,some ⟨0,gE t⟩,some ⟨0,.str (g t.one)⟩,some ⟨0,.str (g t.Bi)⟩]
  subst LC
  show Dl _ _ _ _ _ _ ((ps.map λp=>((aao p:Key),PV.str (g p))).map Fw) _ []
  rw[aaA]
  refine fo (done:=[]) (α:=Str) (λp=>p) (λp=>PV.str (if g p=g t.Bi then g t.one else g p)) (Fw ∘ λp=>((aao p:Key),PV.str (g p))) (by simpa using pn) (λp hp R hR=>?_) (by simp;omega) ?_
  ·refine⟨rfl,?_⟩
   show opt (Ag (.str (g p)) (.str (g t.Bi))) _
   refine ac (eq_str _ _) ?_
   show opt (some (g p==g t.Bi)) _
   refine Fx.mpr ?_
   by_cases z:g p=g t.Bi
   ·rw[if_pos z]at hR
    rw[beq_iff_eq.mpr z]
    exact hR
   ·rw[if_neg z]at hR
    rw[beq_eq_false_iff_ne.mpr z]
    exact hR
  ·refine k _ ⟨some ⟨0,.str t.nm⟩,some ⟨0,gE t⟩,some ⟨0,.str (g t.one)⟩,some ⟨0,.str (g t.Bi)⟩,?_⟩
   have e:(kp++[t.nm]).map PV.str=kp.map PV.str++[.str t.nm]:=by rw[aaU];rfl
   rw[e]
   rfl
theorem j9(xs:List PV)(P:PV->Prop)(h:bw xs P):Q.run 1 cD xs P:=by
 obtain⟨ps,ts,rfl,hl,nd,h⟩:=h
 unfold cD
 lia
 simp only[JF]
 lia
 refine ac (CY ps ts) ?_
 lia
 refine fo (done:=[]) zQ.nm gE gE nd (λt ht R hR=>?_) (by simp;omega) h
 show opt (iF (gE t) (.int 0)) _
 refine ac (z:=.str t.nm) (ai (j:=0) rfl) ?_
 exact hR
theorem kL{w:Str}{P:PV->Prop}(h:oR w)(k:P (.bl true)):bG [.str w] P:=⟨_,rfl,qO h,by rw[show B9 (.str w)=true from A7.mpr h];exact k⟩
theorem gg(xs:List PV)(P:PV->Prop)(h:bD xs P):Q.run 1 bP xs P:=by
 obtain⟨a,b,c,rfl,ha,hb,ne,h⟩:=h
 unfold bP
 refine ah λN hN=>aH λA1 B1 Bf AH=>?_
 lia
 refine ac (z:=.bl false) rfl ?_
 lia
 refine ac (z:=.str a) (ai (j:=0) rfl) (kL ha (ac (z:=true) rfl ?_))
 rw[if_neg (by simp)]
 refine ac (z:=.str b) (ai (j:=1) rfl) (kL hb (ac (z:=true) rfl ?_))
 rw[if_neg (by simp)]
 subst AH
 show N _
 subst hN
 lia
 refine ac (z:=.str a) (ai (j:=0) rfl) (ac (z:=.str b) (ai (j:=1) rfl) (ac (gi a b) ?_))
 rw[decide_eq_false ne]
 refine ac (z:=true) rfl ?_
 rw[if_pos rfl]
 exact ac (z:=.int c) (ai (j:=2) rfl) ⟨.int c,rfl,trivial,h⟩
theorem cm(h:(x==y)=false):Ag (.str x) (.str y)=some (.bl false):=by rw[eq_str,h]
theorem gC(x:Str):Ag (.str x) (.str x)=some (.bl true):=by rw[eq_str];simp
theorem dM{k w:Str}{rest:List PV}{P:PV->Prop}(hk:oR k)(hw:oR w)(hl:rest.length<=10)
  (h:(k = "tie" /\ bD [.tup rest] P)\/(k = "cost" /\ ∃c:Int,rest=[.int c]/\P (.bl true))\/(((k == "tie")=false/\(k == "cost")=false/\k∈[aax "place", "leave", "untie"])/\rest=[]/\P (.bl true))) :
  Q.run 2 dv [.tup (.str k::.str w::rest)] P:=by
 unfold dv
 refine ah λN hN=>aH λA1 B1 Bf AH=>?_
 lia
 refine ac (z:=.str k) (ai (j:=0) rfl) (kL hk (ac (z:=true) rfl ?_))
 rw[if_neg (by simp)]
 refine ac (z:=.str w) (ai (j:=1) rfl) (kL hw (ac (z:=true) rfl ?_))
 rw[if_neg (by simp)]
 subst AH
 show N _
 subst hN
 refine ah λN hN=>?_
 lia
 have ec:Br (.str k::.str w::rest) (some (2:Int)) none=rest:=by rw[show (2:Int)=((2:Nat):Int)from rfl,dN];rfl
 rw[ec]
 show N [some ⟨0,.tup (.str k::.str w::rest)⟩,some ⟨0,.tup rest⟩]
 subst hN
 refine ah λN hN=>aH λA1 B1 Bf AH=>?_
 lia
 refine ac (z:=.str k) (ai (j:=0) rfl) ?_
 rcases h with ⟨rfl,h⟩|⟨rfl,c,rfl,h⟩|⟨⟨n1,n2,hm⟩,rfl,h⟩
 ·refine ac (gC _) ?_
  lia
  subst Bf
  lia
  exact h
 ·refine ac (cm (by decide +kernel)) ?_
  lia
  subst AH
  show N _
  subst hN
  refine ah λN hN=>aH λA1 B1 Bf AH=>?_
  lia
  refine ac (z:=.str "cost") (ai (j:=0) rfl) (ac (gC _) ?_)
  lia
  subst Bf
  lia
  refine ac (z:=.bl true) rfl ?_
  lia
  exact ac (z:=.int c) (ai (j:=0) rfl) ⟨.int c,rfl,trivial,h⟩
 ·refine ac (cm n1) ?_
  lia
  subst AH
  show N _
  subst hN
  refine ah λN hN=>aH λA1 B1 Bf AH=>?_
  lia
  refine ac (z:=.str k) (ai (j:=0) rfl) (ac (cm n2) ?_)
  lia
  subst AH
  show N _
  subst hN
  lia
  refine ac (z:=.str k) (ai (j:=0) rfl) (ac (fG (ys:=["place", "leave", "untie"])) ?_)
  rw[decide_eq_true (by simpa using hm)]
  lia
  exact ac (z:=.bl true) rfl h
theorem vU:oR "place" := A7.mp (by decide +kernel)
theorem vV:oR "leave" := A7.mp (by decide +kernel)
theorem zl:oR "tie" := A7.mp (by decide +kernel)
theorem vS:oR "untie" := A7.mp (by decide +kernel)
theorem xQ:oR "cost" := A7.mp (by decide +kernel)
theorem pG(xs:List PV)(P:PV->Prop)(h:fZ xs P):Q.run 2 dv xs P:=by
 obtain⟨d,rfl,hd,h⟩:=h
 cases d with
 |FU p=>exact dM vU hd (by simp) (.inr (.inr ⟨⟨by decide +kernel,by decide +kernel,by simp⟩,rfl,h⟩))
 |Gn p=>exact dM vV hd (by simp) (.inr (.inr ⟨⟨by decide +kernel,by decide +kernel,by simp⟩,rfl,h⟩))
 |tie n a b c=>exact dM zl hd.1 (by simp) (.inl ⟨rfl,a,b,c,rfl,hd.2.1,hd.2.2.1,hd.2.2.2,h⟩)
 |Fl n=>exact dM vS hd (by simp) (.inr (.inr ⟨⟨by decide +kernel,by decide +kernel,by simp⟩,rfl,h⟩))
 |cos n c=>exact dM xQ hd (by simp) (.inr (.inl ⟨rfl,c,rfl,h⟩))
theorem t7{b:List Str}(h:a.length+b.length<=100000):zR (.tup (a.map .str)) (.tup (b.map .str))=some (.tup ((a++b).map .str)):=by
 show (if (a.map PV.str).length+(b.map PV.str).length<=100000 then some (PV.tup (a.map .str++b.map .str))else none)=_
 rw[aad,aad,if_pos h,aaU]
def Jp(p:Str):PV->Option PV
 |.str q=>if q=p then none else some (.str q)
 |_=>none
def Jo(n:Str):PV->Option PV
 |.tup (.str q::r)=>if q=n then none else some (.tup (.str q::r))
 |_=>none
def NV(n:Str)(c:Int):PV->PV
 |.tup [.str q,a,b,d]=>if q=n then .tup [.str q,a,b,.int c]else .tup [.str q,a,b,d]
 |x=>x
theorem kj(p:Str):∀ps:List Str,(ps.map PV.str).filterMap (Jp p)=(ps.filter λq=>!decide (q=p)).map .str
 |[]=>rfl
 |q::qs=>by
  rw[aap,abm,ab8]
  by_cases e:q=p
  ·simp only[Jp,e,if_true,decide_true,abY,aa0,if_false];exact kj p qs
  ·simp only[Jp,e,if_false,decide_false,ab0,if_true,aap];rw[kj p qs]
theorem ki(n:Str):∀ts:List zQ,(ts.map gE).filterMap (Jo n)=(ts.filter λt=>!decide (t.nm=n)).map gE
 |[]=>rfl
 |t::us=>by
  rw[aap,abm,ab8]
  by_cases e:t.nm=n
  ·simp only[Jo,gE,e,if_true,decide_true,abY,aa0,if_false];exact ki n us
  ·simp only[Jo,gE,e,if_false,decide_false,ab0,if_true,aap];exact congrArg _ (ki n us)
theorem lh(xs:List PV)(P:PV->Prop)(h:b9 xs P):Q.run 3 cQ xs P:=by
 obtain⟨ps,ts,p,rfl,S,⟨hw,hp⟩,h⟩:=h
 unfold cQ
 refine ah λN hN=>?_
 lia
 refine ac (z:=.str p) (ai (j:=1) rfl) ?_
 show N [some ⟨0,lT ps ts⟩,some ⟨0,Ac (.FU p)⟩,some ⟨0,.str p⟩]
 subst hN
 refine ah λN hN=>aH λA1 B1 Bf AH=>?_
 lia
 refine ac (CF ps ts) (ac fG ?_)
 rw[decide_eq_false hp]
 lia
 subst AH
 show N _
 subst hN
 simp only[zX,zN,AJ,aS,B8]
 lia
 refine ac (CF ps ts) (ac (t7 (b:=[p]) (by have:=S.pl;simp;omega)) ?_)
 refine⟨_,kR _,by rw[aat];have:=S.pl;simp;omega,λgs up=>ac rfl (ac (CY ps ts) ?_)⟩
 have nd:(ps++[p]).Nodup:=by
  rw[acj]
  exact⟨cJ S.ok.rise,by simp,λa ha b hb e=>hp (by rw[<- List.mem_singleton.mp hb,<- e];exact ha)⟩
 have e:gs=FC p ps:=gc (up.1.trans (fF p ps).symm) (eu up.2 (up.1.nodup_iff.mpr nd)) (m7 S.ok.rise hp)
 subst e
 exact h
theorem kf(xs:List PV)(P:PV->Prop)(h:bZ xs P):Q.run 3 cE xs P:=by
 obtain⟨ps,ts,p,rfl,S,hp,h⟩:=h
 have hp:p∈ps:=hp
 have hl:=S.pl
 unfold cE
 refine ah λN hN=>?_
 lia
 refine ac (z:=.str p) (ai (j:=1) rfl) ?_
 show N [some ⟨0,lT ps ts⟩,some ⟨0,Ac (.Gn p)⟩,some ⟨0,.str p⟩]
 subst hN
 refine ah λN hN=>aH λA1 B1 Bf AH=>?_
 lia
 refine ac (CF ps ts) (ac (z:=.bl false) ?_ ?_)
 ·show (IS (.str p) (.tup (ps.map .str))).map (λb=>PV.bl (!b))=_
  rw[jt,decide_eq_true hp];rfl
 lia
 subst AH
 show N _
 subst hN
 simp only[zX,zN,AJ,aS,BQ]
 lia
 refine ac (CF ps ts) ?_
 lia
 refine bH (Jp p) (λx hx R hR=>?_) (by simp;omega) ?_
 ·obtain⟨q,hq,rfl⟩:=List.mem_map.mp hx
  show opt (B7 (.str q) (.str p)) _
  refine ac (gi q p) ?_
  have hR:R (if q=p then none else some (.str q)) _:=hR
  by_cases e:q=p
  ·rw[decide_eq_true e]
   rw[if_pos e]at hR
   exact ac (z:=false) rfl hR
  ·rw[decide_eq_false e]
   rw[if_neg e]at hR
   exact ac (z:=true) rfl hR
 rw[aaH]
 rw[kj]
 exact ac rfl (ac (CY ps ts) h)
theorem tG{n:Str}:(A4 (ts.map λt=>((aao t.nm:Key),gE t)) (aao n)).isSome=decide (n∈ts.map zQ.nm):=by
 induction ts with
 |nil=>rfl
 |cons t ts ih=>
  rw[aap]
  by_cases e:t.nm=n
  ·rw[show A4 ((aao t.nm,gE t)::ts.map λt=>((aao t.nm:Key),gE t)) (aao n)=some (gE t)from by simp[A4,abx,e]]
   simp[e]
  ·have e2:A4 ((aao t.nm,gE t)::ts.map λt=>((aao t.nm:Key),gE t)) (aao n)=A4 (ts.map λt=>((aao t.nm:Key),gE t)) (aao n):=by simp[A4,abx,e]
   rw[e2,ih]
   simp[abG e]
theorem zB{n:Str}:C0 (.str n) (.Av (ts.map λt=>((aao t.nm:Key),gE t)))=some (.bl (decide (n∈ts.map zQ.nm))):=by
 show some (PV.bl (A4 (ts.map λt=>((aao t.nm:Key),gE t)) (aao n)).isSome)=_
 rw[tG]
theorem sy{n:Str}:Be (.str n) (.Av (ts.map λt=>((aao t.nm:Key),gE t)))=some (.bl (!decide (n∈ts.map zQ.nm))):=by
 show some (PV.bl (!(A4 (ts.map λt=>((aao t.nm:Key),gE t)) (aao n)).isSome))=_
 rw[tG]
theorem oi(xs:List PV)(P:PV->Prop)(h:cZ xs P):Q.run 3 eF xs P:=by
 obtain⟨ps,ts,n,rfl,S,hn,h⟩:=h
 have hn:n∈ts.map zQ.nm:=hn
 have hl:=S.tl
 unfold eF
 refine ah λN hN=>?_
 lia
 refine ac (z:=.str n) (ai (j:=1) rfl) ?_
 show N [some ⟨0,lT ps ts⟩,some ⟨0,Ac (.Fl n)⟩,some ⟨0,.str n⟩]
 subst hN
 refine ah λN hN=>aH λA1 B1 Bf AH=>?_
 lia
 refine⟨ps,ts,rfl,by omega,aV S.ok,ac sy ?_⟩
 rw[decide_eq_true hn]
 lia
 subst AH
 show N _
 subst hN
 simp only[zX,zN,AJ,aS,BQ]
 lia
 refine ac (CF ps ts) (ac (CY ps ts) ?_)
 lia
 refine bH (Jo n) (λx hx R hR=>?_) (by simp;omega) ?_
 ·obtain⟨t,ht,rfl⟩:=List.mem_map.mp hx
  show opt (iF (gE t) (.int 0)) _
  refine ac (z:=.str t.nm) (ai (j:=0) rfl) ?_
  refine ac (gi t.nm n) ?_
  have hR:R (if t.nm=n then none else some (gE t)) _:=hR
  by_cases e:t.nm=n
  ·rw[decide_eq_true e]
   rw[if_pos e]at hR
   exact ac (z:=false) rfl hR
  ·rw[decide_eq_false e]
   rw[if_neg e]at hR
   exact ac (z:=true) rfl hR
 rw[aaH]
 rw[ki]
 exact ac rfl h
theorem nA(xs:List PV)(P:PV->Prop)(h:cA xs P):Q.run 4 dQ xs P:=by
 obtain⟨ps,ts,n,c,rfl,S,⟨hn,hc⟩,h⟩:=h
 have hl:=S.tl
 unfold dQ
 refine ah λN hN=>?_
 lia
 have ec:Br [PV.str "cost",.str n,.int c] (some (1:Int)) none=[.str n,.int c]:=by rw[show (1:Int)=((1:Nat):Int)from rfl,dN];rfl
 refine ac (z:=.tup [.str n,.int c]) (by show some (PV.tup (Br [PV.str "cost",.str n,.int c] (some (1:Int)) none))=_;rw[ec]) ?_
 lia
 show N [some ⟨0,lT ps ts⟩,some ⟨0,Ac (.cos n c)⟩,some ⟨0,.str n⟩,some ⟨0,.int c⟩]
 subst hN
 refine ah λN hN=>aH λA1 B1 Bf AH=>?_
 lia
 refine⟨ps,ts,rfl,by omega,aV S.ok,ac sy ?_⟩
 rw[decide_eq_true hn]
 lia
 subst AH
 show N _
 subst hN
 simp only[zX,zN,AJ,aS,BQ,OS]
 lia
 refine ac (CF ps ts) (ac (CY ps ts) ?_)
 lia
 refine be (NV n c) (λx hx R hR=>?_) (by simp;omega) ?_
 ·obtain⟨t,ht,rfl⟩:=List.mem_map.mp hx
  show opt (iF (gE t) (.int 0)) _
  refine ac (z:=.str t.nm) (ai (j:=0) rfl) ?_
  refine ac (eq_str t.nm n) ?_
  have hR:R (if t.nm=n then .tup [.str t.nm,.str t.one,.str t.Bi,.int c]else gE t) _:=hR
  by_cases e:t.nm=n
  ·rw[if_pos e]at hR
   rw[show (t.nm==n)=true from by simpa using e]
   lia
   refine ac (z:=.tup [.str t.nm,.str t.one,.str t.Bi]) ?_ (ac rfl hR)
   show some (PV.tup (Br [PV.str t.nm,.str t.one,.str t.Bi,.int t.cost] none (some (3:Int))))=_
   rw[show (3:Int)=((3:Nat):Int)from rfl,cO];rfl
  ·rw[if_neg e]at hR
   rw[show (t.nm==n)=false from by simpa using e]
   lia
   exact hR
 rw[aaH]
 have e:(ts.map gE).map (NV n c)=(Ar ts (.cos n c)).map gE:=by
  show _=(ts.map λt=>if t.nm=n then {t with cost:=c}else t).map gE
  rw[aaA,aaA]
  refine aaP λt _=>?_
  show (if t.nm=n then PV.tup [.str t.nm,.str t.one,.str t.Bi,.int c]else gE t)=gE (if t.nm=n then {t with cost:=c}else t)
  split<;>rfl
 rw[e]
 exact ac rfl h
theorem t4(ts:List zQ):(ts.map gE).mapM Gy=some (ts.map zQ.nm):=by
 induction ts with
 |nil=>rfl
 |cons t ts ih=>rw[aap,aa8,ih];rfl
theorem rJ(h:∀i∈ix,i<ts.length):(ix.map λi=>(ts.map gE).getD i .rW)=(ix.map λi=>ts.getD i t0).map gE:=by
 rw[aaA]
 refine aaP λi hi=>?_
 show (ts.map gE).getD i .rW=gE (ts.getD i t0)
 rw[aae,aae,aal,aab (h i hi)];rfl
theorem wY(h:∀i∈ix,i<ts.length):(ix.map λi=>(ts.map zQ.nm).getD i ⟨#[]⟩)=(ix.map λi=>ts.getD i t0).map zQ.nm:=by
 rw[aaA]
 refine aaP λi hi=>?_
 show (ts.map zQ.nm).getD i ⟨#[]⟩=(ts.getD i t0).nm
 rw[aae,aae,aal,aab (h i hi)];rfl
theorem jI(hp:us.Perm vs)(hv:(vs.map zQ.nm).Pairwise Ai)(hl:ix.length=us.length)(lt:∀i∈ix,i<us.length)(up:(ix.map λi=>(us.map zQ.nm).getD i ⟨#[]⟩).Pairwise Ai):
  (ix.map λi=>(us.map gE).getD i .rW)=vs.map gE:=by
 rw[rJ lt]
 rw[wY lt]at up
 have nd:ix.Nodup:=by
  have h1:=cJ up
  rw[aaA]at h1
  exact List.nodup_iff_pairwise_ne.mpr ((List.pairwise_map.mp (List.nodup_iff_pairwise_ne.mp h1)).imp λh e=>h (congrArg _ e))
 rw[n5 ((mr hl nd lt).trans hp) up hv]
theorem yY{t:zQ}(h:ts.length<=60):zR (.tup (ts.map gE)) (.tup [gE t])=some (.tup ((ts++[t]).map gE)):=by
 show (if (ts.map gE).length+1<=100000 then some (PV.tup (ts.map gE++[gE t]))else none)=_
 rw[aad,if_pos (by omega),aaU];rfl
theorem nB(xs:List PV)(P:PV->Prop)(h:cB xs P):Q.run 7 dR xs P:=by
 obtain⟨ps,ts,n,a,b,c,rfl,S,⟨hn,ha,hb,R6,Qu,hc⟩,h⟩:=h
 have hl:=S.tl
 unfold dR
 refine ah λN hN=>?_
 lia
 have ec:Br [PV.str "tie",.str n,.str a,.str b,.int c] (some (1:Int)) none=[.str n,.str a,.str b,.int c]:=by rw[show (1:Int)=((1:Nat):Int)from rfl,dN];rfl
 refine ac (z:=.tup [.str n,.str a,.str b,.int c]) (by show some (PV.tup (Br [PV.str "tie",.str n,.str a,.str b,.int c] (some (1:Int)) none))=_;rw[ec]) ?_
 lia
 show N [some ⟨0,lT ps ts⟩,some ⟨0,Ac (.tie n a b c)⟩,some ⟨0,.str n⟩,some ⟨0,.str a⟩,some ⟨0,.str b⟩,some ⟨0,.int c⟩,none]
 subst hN
 refine ah λN hN=>aH λA1 B1 Bf AH=>?_
 lia
 refine⟨ps,ts,rfl,by omega,aV S.ok,ac zB ?_⟩
 rw[decide_eq_false Qu]
 lia
 subst AH
 show N _
 subst hN
 refine ah λN hN=>?_
 lia
 refine ac (z:=.str (Cf a b)) rfl (ac (z:=.str (Cg a b)) rfl ?_)
 show N [some ⟨0,lT ps ts⟩,some ⟨0,Ac (.tie n a b c)⟩,some ⟨0,.str n⟩,some ⟨0,.str a⟩,some ⟨0,.str b⟩,some ⟨0,.int c⟩,some ⟨0,gE (J3 n a b c)⟩]
 subst hN
 simp only[zX,zN,AJ,aS,mF]
 lia
 refine ac (CF ps ts) (ac (CY ps ts) (ac (yY hl) ?_))
 have nd:((ts++[J3 n a b c]).map zQ.nm).Nodup:=by
  rw[aaU,acj]
  exact⟨aV S.ok,by simp,λx hx y hy e=>Qu (by rw[show y=n from List.mem_singleton.mp hy]at e;rw[<- e];exact hx)⟩
 refine⟨_,t4 _,nd,by rw[aad,aat];simp;omega,λix i1 i2 i3=>ac rfl ?_⟩
 rw[jI (fE (J3 n a b c) ts).symm (m6 S.ok.names Qu) (by simpa using i1) (by simpa using i2) i3]
 exact h
theorem zE(S:Bp ps ts)(h:GU ps ts d):DW d:=by
 have nm:∀n,n∈ts.map zQ.nm->oR n:=λn hn=>by
  obtain⟨t,ht,rfl⟩:=List.mem_map.mp hn
  exact(S.tie t ht).nm
 cases d with
 |FU p=>exact h.1
 |Gn p=>exact S.word p h
 |tie n a b c=>exact⟨h.1,h.2.1,h.2.2.1,h.2.2.2.1⟩
 |Fl n=>exact nm n h
 |cos n c=>exact nm n h.1
theorem pH(xs:List PV)(P:PV->Prop)(h:f7 xs P):Q.run 3 fO xs P:=by
 obtain⟨ps,ts,d,rfl,S,hd,h⟩:=h
 unfold fO
 refine ah λN hN=>aH λA1 B1 Bf AH=>?_
 lia
 refine⟨d,rfl,zE S.ok hd,?_⟩
 refine ac (z:=true) rfl ?_
 rw[if_neg (by simp)]
 subst AH
 show N _
 subst hN
 simp only[HR]
 lia
 cases d with
 |FU p=>
  refine ac (z:=.str "place") (ai (j:=0) rfl) ?_
  exact⟨_,rfl,ps,ts,p,rfl,S,hd,h⟩
 |Gn p=>
  refine ac (z:=.str "leave") (ai (j:=0) rfl) ?_
  exact⟨_,rfl,ps,ts,p,rfl,S,hd,h⟩
 |tie n a b c=>
  refine ac (z:=.str "tie") (ai (j:=0) rfl) ?_
  exact⟨_,rfl,ps,ts,n,a,b,c,rfl,S,hd,h⟩
 |Fl n=>
  refine ac (z:=.str "untie") (ai (j:=0) rfl) ?_
  exact⟨_,rfl,ps,ts,n,rfl,S,hd,h⟩
 |cos n c=>
  refine ac (z:=.str "cost") (ai (j:=0) rfl) ?_
  exact⟨_,rfl,ps,ts,n,c,rfl,S,hd,h⟩
theorem yt(c:PV)(xs:List PV)(P:PV->PV->Prop)(h:dP c xs P):Q.DX 2 nV c xs P:=by
 obtain⟨rfl,ys,hx,Bu,hl,h⟩:=h
 have hp:0<ys.length:=List.length_pos_iff.mpr Bu
 unfold nV
 rcases hx with rfl|rfl
 ·lia
  refine draw (by omega) (by omega) λr hr=>?_
  refine ac (z:=ys[r]'(by omega)) (ai (aab (by omega))) ?_
  exact h _ (abV _)
 ·lia
  refine draw (by omega) (by omega) λr hr=>?_
  refine ac (z:=ys[r]'(by omega)) (ai (aab (by omega))) ?_
  exact h _ (abV _)
variable{ws tk:List Str}
theorem xc(nd:ws.Nodup)(h:tk.length<ws.length):ws.filter (λw=>!decide (w∈tk))≠[]:=λe=>by
 have:∀w∈ws,w∈tk:=λw hw=>acd λhn=>by
  have:w∈ws.filter (λw=>!decide (w∈tk)):=List.mem_filter.mpr ⟨hw,by simp[hn]⟩
  rw[e]at this;cases this
 have:=dG nd this
 omega
def Cb(tk:List Str):PV->Option PV
 |.str w=>if w∈tk then none else some (.str w)
 |_=>none
theorem bF(tk:List Str):∀ws:List Str,(ws.map PV.str).filterMap (Cb tk)=(ws.filter λw=>!decide (w∈tk)).map .str
 |[]=>rfl
 |w::ws=>by
  rw[aap,abm,ab8]
  by_cases e:w∈tk
  ·simp only[Cb,e,if_true,decide_true,abY,aa0,if_false];exact bF tk ws
  ·simp only[Cb,e,if_false,decide_false,ab0,if_true,aap];rw[bF tk ws]
theorem jm{w:Str}:Be (.str w) (.tup (tk.map .str))=some (.bl (!decide (w∈tk))):=by
 show (IS (.str w) (.tup (tk.map .str))).map (λb=>PV.bl (!b))=_
 rw[jt];rfl
theorem vK{w:Str}:Be (.str w) (.lst (tk.map .str))=some (.bl (!decide (w∈tk))):=by
 show (IS (.str w) (.lst (tk.map .str))).map (λb=>PV.bl (!b))=_
 rw[uT];rfl
variable{e:En}
theorem cf{x:PV}{w:Str}{R:Option PV->En->Prop}{E1 E2:En}(hx:Be (.str w) x=some (.bl (!decide (w∈tk))))(hR:R (Cb tk (.str w)) e)(h1:E1=e)(h2:E2=e):
  opt (Be (.str w) x) λz=>opt (match z with|.bl b=>some b|_=>none) λok=>if ok=true then R (some (.str w)) E1 else R none E2:=by
 subst h1 h2
 refine ac hx ?_
 have hR:R (if w∈tk then none else some (.str w)) _:=hR
 by_cases z:w∈tk
 ·rw[decide_eq_true z];rw[if_pos z]at hR;exact ac (z:=false) rfl hR
 ·rw[decide_eq_false z];rw[if_neg z]at hR;exact ac (z:=true) rfl hR
theorem sj(c:PV)(xs:List PV)(P:PV->PV->Prop)(h:fL c xs P):Q.DX 2 ip c xs P:=by
 obtain⟨rfl,tk,hx,hl,h⟩:=h
 unfold ip
 have fin:∀ws:List Str,ws.length=31->ws.Nodup->(∀x∈ws,oR x)->∃w,iF (.lst ((ws.filter λw=>!decide (w∈tk)).map .str)) (.int 0)=some (.str w)/\oR w/\w∉tk:=λws hw nd ww=>by
  cases e:ws.filter (λw=>!decide (w∈tk))with
  |nil=>exact absurd e (xc nd (by omega))
  |cons w r=>
   have hm:w∈ws.filter (λw=>!decide (w∈tk)):=by rw[e];exact aay
   obtain⟨m1,m2⟩:=List.mem_filter.mp hm
   exact⟨w,ai (j:=0) rfl,ww w m1,by simpa using m2⟩
 rcases hx with rfl|rfl
 ·lia
  try simp only[BQ]
  try lia
  refine⟨rfl,31,rfl,by decide,λws hw nd ww=>?_⟩
  try lia
  refine bH (Cb tk) (λx hx R hR=>?_) (by simp;omega) ?_
  ·obtain⟨w,hw,rfl⟩:=List.mem_map.mp hx
   exact cf vK hR rfl rfl
  rw[aaH,bF]
  obtain⟨w,w1,w2,w3⟩:=fin ws hw nd ww
  exact ac w1 (h w w2 w3)
 ·lia
  try simp only[BQ]
  try lia
  refine⟨rfl,31,rfl,by decide,λws hw nd ww=>?_⟩
  try lia
  refine bH (Cb tk) (λx hx R hR=>?_) (by simp;omega) ?_
  ·obtain⟨w,hw,rfl⟩:=List.mem_map.mp hx
   exact cf jm hR rfl rfl
  rw[aaH,bF]
  obtain⟨w,w1,w2,w3⟩:=fin ws hw nd ww
  exact ac w1 (h w w2 w3)
theorem jp{b:List Str}(h:a.length+b.length<=100000):zR (.lst (a.map .str)) (.lst (b.map .str))=some (.lst ((a++b).map .str)):=by
 show (if (a.map PV.str).length+(b.map PV.str).length<=100000 then some (PV.lst (a.map .str++b.map .str))else none)=_
 rw[aad,aad,if_pos h,aaU]
theorem qE(h0:0<=i)(h1:i<ws.length):∃w,ws[i.toNat]?=some w/\w∈ws/\iF (.lst (ws.map .str)) (.int i)=some (.str w):=by
 have hl:i.toNat<ws.length:=by omega
 obtain⟨w,hw⟩:∃w,ws[i.toNat]?=some w:=⟨_,aab hl⟩
 refine⟨w,hw,abh hw,?_⟩
 have e:i=((i.toNat:Nat):Int):=by omega
 rw[e]
 exact ai (by rw[aal,hw];rfl)
theorem pJ(c:PV)(xs:List PV)(P:PV->PV->Prop)(h:f9 c xs P):Q.DX 7 fR c xs P:=by
 obtain⟨rfl,ps,ts,Em,rfl,ok,hp,ht,hf,fn,fw,h⟩:=h
 unfold fR
 refine ah λN hN=>?_
 lia
 refine ac (CF ps ts) (ac rfl (ac (jp (by omega)) ?_))
 show N [some ⟨2,.rW⟩,some ⟨0,lT ps ts⟩,some ⟨0,.lst (Em.map .str)⟩,some ⟨0,.lst ((ps++Em).map .str)⟩,none,none,none]
 subst hN
 have pn:(ps++Em).Nodup:=by
  rw[acj]
  exact⟨cJ ok.rise,fn,λa ha b hb e=>(fw b hb).2 (e ▸ ha)⟩
 have pw:∀x∈ps++Em,oR x:=λx hx=>by
  rcases List.mem_append.mp hx with z|z
  ·exact ok.word x z
  ·exact(fw x z).1
 have pl:(ps++Em).length<=72:=by rw[aat];omega
 generalize ps++Em=Ax at pn pw pl ⊢
 refine ah λN hN=>aH λA1 B1 Bf AH=>?_
 have tail:∀Ax:List Str,Ax.Nodup->(∀x∈Ax,oR x)->Ax.length<=100->2<=Ax.length->N [some ⟨2,.rW⟩,some ⟨0,lT ps ts⟩,some ⟨0,.lst (Em.map .str)⟩,some ⟨0,.lst (Ax.map .str)⟩,none,none,none]:=by
  intro Ax pn pw pl p2
  subst hN
  refine ah λN hN=>?_
  lia
  rw[aad]
  refine BE (by omega) (by omega) λa a0 a1=>?_
  try lia
  show N [some ⟨2,.rW⟩,some ⟨0,lT ps ts⟩,some ⟨0,.lst (Em.map .str)⟩,some ⟨0,.lst (Ax.map .str)⟩,some ⟨0,.int a⟩,none,none]
  subst hN
  refine ah λN hN=>?_
  lia
  rw[aad]
  refine ac bt (ac cR ?_)
  refine BE (by omega) (by omega) λd d0 d1=>?_
  refine ac bt (ac (e7 (by omega)) ?_)
  have t:=turn a d Ax.length (by omega) a0 a1 d0 d1
  obtain⟨y,y1,y2,y3⟩:=qE t.1 t.2.1
  refine ac y3 ?_
  show N [some ⟨2,.rW⟩,some ⟨0,lT ps ts⟩,some ⟨0,.lst (Em.map .str)⟩,some ⟨0,.lst (Ax.map .str)⟩,some ⟨0,.int a⟩,some ⟨0,.str y⟩,none]
  subst hN
  obtain⟨x,x1,x2,x3⟩:=qE a0 a1
  have Qi:x≠y:=λe=>by
   subst e
   have l1:a.toNat<Ax.length:=by omega
   have l2:((a+1+d) % (Ax.length:Int)).toNat<Ax.length:=by have:=t.1;have:=t.2.1;omega
   rw[aab l1]at x1
   rw[aab l2]at y1
   have:=(ab7 pn).mp ((aau x1).trans (aau y1).symm)
   have:=t.1
   exact t.2.2 (by omega)
  refine ah λN hN=>?_
  simp only[Ad,tO,aS,BQ]
  lia
  refine ac (CY ps ts) ?_
  lia
  refine be (λz=>match z with|.tup (.str q::_)=>.str q|_=>.rW) (λz hz R hR=>?_) (by simp;omega) ?_
  ·obtain⟨t,ht,rfl⟩:=List.mem_map.mp hz
   exact ac (z:=.str t.nm) (ai (j:=0) rfl) hR
  rw[aaH]
  have en:(ts.map gE).map (λz=>match z with|.tup (.str q::_)=>PV.str q|_=>.rW)=(ts.map zQ.nm).map .str:=by
   rw[aaA,aaA];rfl
  rw[en]
  refine⟨rfl,ts.map zQ.nm,.inl rfl,by rw[aad];omega,λn n1 n2=>?_⟩
  show N [some ⟨2,.rW⟩,some ⟨0,lT ps ts⟩,some ⟨0,.lst (Em.map .str)⟩,some ⟨0,.lst (Ax.map .str)⟩,some ⟨0,.int a⟩,some ⟨0,.str y⟩,some ⟨0,.str n⟩]
  subst hN
  lia
  refine ac x3 ?_
  try lia
  refine BE (by omega) (by omega) λq q0 q1=>?_
  refine⟨rfl,q,rfl,λco c0 c1=>?_⟩
  exact h n x y co ⟨n1,pw x x2,pw y y2,Qi,n2,c0,c1⟩
 have grow:∀w0:En,w0=[some ⟨2,.rW⟩,some ⟨0,lT ps ts⟩,some ⟨0,.lst (Em.map .str)⟩,some ⟨0,.lst (Ax.map .str)⟩,none,none,none]->A1 {IC P with nx:=N} w0:=by
  rintro _ rfl
  subst Bf
  simp only[Ad,Fb,BQ]
  lia
  refine⟨rfl,14,rfl,by decide,λws hw wn ww=>?_⟩
  try lia
  refine bH (Cb Ax) (λx hx R hR=>?_) (by simp;omega) ?_
  ·obtain⟨w,hw,rfl⟩:=List.mem_map.mp hx
   exact cf vK hR rfl rfl
  rw[aaH,bF]
  refine ac (z:=.lst (((ws.filter λw=>!decide (w∈Ax)).take 2).map .str)) ?_ (ac (jp (by rw[aa9];omega)) ?_)
  ·show some (PV.lst (Br ((ws.filter λw=>!decide (w∈Ax)).map PV.str) none (some (2:Int))))=_
   rw[show (2:Int)=((2:Nat):Int)from rfl,cO,ad9]
  have m0:∀x∈(ws.filter λw=>!decide (w∈Ax)).take 2,x∈ws/\x∉Ax:=λx hx=>by
   obtain⟨m1,m2⟩:=List.mem_filter.mp (acO hx)
   exact⟨m1,by simpa using m2⟩
  refine tail _ ?_ (λx hx=>?_) (by rw[aat,aa9];omega) ?_
  ·rw[acj]
   exact⟨pn,(wn.sublist abB).sublist (acI _ _),λa ha b hb e=>(m0 b hb).2 (e ▸ ha)⟩
  ·rcases List.mem_append.mp hx with z|z
   ·exact pw x z
   ·exact ww x (m0 x z).1
  ·rw[aat,aa9]
   rcases aaZ Ax.length 2 with z|z
   ·have:14<=(ws.filter λw=>!decide (w∈Ax)).length+Ax.length:=by
     have p1:=(aea (λw=>decide (w∈Ax)) ws).length_eq
     rw[aat,hw]at p1
     have p2:(ws.filter λw=>decide (w∈Ax)).length<=Ax.length:=dG (wn.sublist abB) λx hx=>by simpa using (List.mem_filter.mp hx).2
     omega
    omega
   ·omega
 lia
 rw[aad]
 by_cases z:Ax.length<2
 ·have e:decide (((Ax.length:Nat):Int)<2)=true:=decide_eq_true (by omega)
  rw[e,if_pos rfl]
  exact grow _ rfl
 ·have e:decide (((Ax.length:Nat):Int)<2)=false:=decide_eq_false (by omega)
  rw[e,if_neg (by simp)]
  refine BE (by omega) (by omega) λr r0 r1=>ac (bM _ _) ?_
  lia
  split
  ·exact grow _ rfl
  ·subst AH
   exact tail Ax pn pw (by omega) (by omega)
def LH:PV->PV
 |.tup (.str q::_)=>.str q
 |_=>.rW
def MG:PV->PV
 |.tup (_::x::_)=>x
 |_=>.rW
def Mv:PV->PV
 |.tup (_::_::x::_)=>x
 |_=>.rW
theorem xp(ts:List zQ):(ts.map gE).map LH=(ts.map zQ.nm).map .str:=by rw[aaA,aaA];rfl
theorem wk(ts:List zQ):(ts.map gE).map MG=(ts.map zQ.one).map .str:=by rw[aaA,aaA];rfl
theorem vZ(ts:List zQ):(ts.map gE).map Mv=(ts.map zQ.Bi).map .str:=by rw[aaA,aaA];rfl
theorem oG(l:List Str):B7 (.lst (l.map .str)) (.lst [])=some (.bl (!(l.map PV.str).isEmpty)):=rfl
theorem w4(l:List Str):neT (.tup (l.map .str)) (.tup [])=some (.bl (!decide (l=[]))):=wZ l []
theorem Qe(r:Int):∃b,C0 (.int r) (.tup [.int 3,.int 4])=some (.bl b):=⟨_,rfl⟩
theorem uD(c:PV)(xs:List PV)(P:PV->PV->Prop)(h:kJ c xs P):Q.DX 6 jT c xs P:=by
 obtain⟨rfl,ps,ts,rfl,ok,hp,ht,h⟩:=h
 unfold jT
 refine ah λN hN=>?_
 simp only[Ad,BQ]
 lia
 refine ac (CY ps ts) ?_
 lia
 refine be LH (λz hz R hR=>?_) (by simp;omega) ?_
 ·obtain⟨t,ht,rfl⟩:=List.mem_map.mp hz
  exact ac (z:=.str t.nm) (ai (j:=0) rfl) hR
 rw[aaH,xp]
 show N [some ⟨2,.rW⟩,some ⟨0,lT ps ts⟩,some ⟨0,.lst ((ts.map zQ.nm).map .str)⟩,none,none,none]
 subst hN
 refine ah λN hN=>?_
 simp only[Ad,kG,aS,BQ]
 lia
 refine ac (CY ps ts) ?_
 lia
 refine be MG (λz hz R hR=>?_) (by simp;omega) ?_
 ·obtain⟨t,ht,rfl⟩:=List.mem_map.mp hz
  exact ac (z:=.str t.one) (ai (j:=1) rfl) hR
 rw[aaH,wk]
 try lia
 refine ac (CY ps ts) ?_
 try lia
 refine be Mv (λz hz R hR=>?_) (by simp;omega) ?_
 ·obtain⟨t,ht,rfl⟩:=List.mem_map.mp hz
  exact ac (z:=.str t.Bi) (ai (j:=2) rfl) hR
 rw[aaH,vZ]
 refine ac (jp (by simp;omega)) ?_
 have le:(ts.map zQ.one++ts.map zQ.Bi).length<=60:=by rw[aat,aad,aad];omega
 have we:∀x∈ts.map zQ.one++ts.map zQ.Bi,oR x:=λx hx=>by
  rcases List.mem_append.mp hx with z|z
  ·obtain⟨t,ht,rfl⟩:=List.mem_map.mp z;exact(ok.tie t ht).one
  ·obtain⟨t,ht,rfl⟩:=List.mem_map.mp z;exact(ok.tie t ht).Bi
 generalize ts.map zQ.one++ts.map zQ.Bi=en at le we ⊢
 have ld:=qw en
 refine⟨en,kR en,by omega,by omega,λgs up=>?_⟩
 show N [some ⟨2,.rW⟩,some ⟨0,lT ps ts⟩,some ⟨0,.lst ((ts.map zQ.nm).map .str)⟩,some ⟨0,.lst (gs.map .str)⟩,none,none]
 subst hN
 have gl:gs.length<=60:=by rw[up.1.length_eq];omega
 have gn:gs.Nodup:=up.1.nodup_iff.mpr (tH en)
 have gw:∀x∈gs,oR x:=λx hx=>we x ((xF x en).mp (up.1.mem_iff.mp hx))
 refine ah λN hN=>?_
 simp only[Ad,BQ]
 lia
 refine bH (Cb ps) (λx hx R hR=>?_) (by simp;omega) ?_
 ·obtain⟨w,hw,rfl⟩:=List.mem_map.mp hx
  refine ac (CF ps ts) ?_
  exact cf jm hR rfl rfl
 rw[aaH,bF]
 have fl:(gs.filter λw=>!decide (w∈ps)).length<=60:=aa2 (aaS _ _) gl
 have fn:(gs.filter λw=>!decide (w∈ps)).Nodup:=gn.sublist abB
 have fw:∀x∈gs.filter (λw=>!decide (w∈ps)),oR x/\x∉ps:=λx hx=>⟨gw x (List.mem_filter.mp hx).1,by simpa using (List.mem_filter.mp hx).2⟩
 generalize gs.filter (λw=>!decide (w∈ps))=Em at fl fn fw ⊢
 show N [some ⟨2,.rW⟩,some ⟨0,lT ps ts⟩,some ⟨0,.lst ((ts.map zQ.nm).map .str)⟩,some ⟨0,.lst (gs.map .str)⟩,some ⟨0,.lst (Em.map .str)⟩,none]
 subst hN
 refine ah λN hN=>?_
 lia
 refine BE (by omega) (by omega) λr r0 r1=>?_
 try lia
 show N [some ⟨2,.rW⟩,some ⟨0,lT ps ts⟩,some ⟨0,.lst ((ts.map zQ.nm).map .str)⟩,some ⟨0,.lst (gs.map .str)⟩,some ⟨0,.lst (Em.map .str)⟩,some ⟨0,.int r⟩]
 generalize hE:[some (⟨2,.rW⟩:Sl),some ⟨0,lT ps ts⟩,some ⟨0,.lst ((ts.map zQ.nm).map .str)⟩,some ⟨0,.lst (gs.map .str)⟩,some ⟨0,.lst (Em.map .str)⟩,some ⟨0,.int r⟩]=E0
 subst hN
 have RV:∀n,n∈ts.map zQ.nm->(Ar ts (.Fl n)).length<=30:=λn _=>aa2 (aaS _ _) ht
 refine ah λN hN=>aH λA1 B1 Bf AH=>?_
 have rest:N E0:=by
  subst hN
  refine ah λN hN=>aH λA1 B1 Bf AH=>?_
  have rest:N E0:=by
   subst hN
   refine ah λN hN=>aH λA1 B1 Bf AH=>?_
   have rest:N E0:=by
    subst hN
    refine ah λN hN=>aH λA1 B1 Bf AH=>?_
    have rest:N E0:=by
     subst hN
     refine ah λN hN=>aH λA1 B1 Bf AH=>?_
     subst hE
     lia
     rw[aad,aad]
     by_cases z:ts.length<30
     ·rw[decide_eq_true (show ((ts.length:Nat):Int)<30 by omega),if_pos rfl]
      subst Bf
      lia
      refine⟨rfl,ps,ts,Em,rfl,ok,hp,z,fl,fn,fw,λn a b co hd=>?_⟩
      exact h _ hd hp (by have:=(jA (ps:=ps) (ts:=ts) (.tie n a b co)).2;omega)
     ·rw[decide_eq_false (show ¬ ((ts.length:Nat):Int)<30 by omega),if_neg (by simp)]
      subst AH
      show N _
      subst hN
      lia
      refine⟨rfl,_,.inl rfl,?_,by simp;omega,λy hy=>?_⟩
      ·intro e
       have e2:=congrArg acb e
       rw[aad,aad]at e2
       exact absurd e2 (show ts.length≠0 by omega)
      ·obtain⟨n,hn,rfl⟩:=List.mem_map.mp hy
       exact h (.Fl n) hn hp (RV n hn)
    subst hE
    lia
    obtain⟨b,hb⟩:=Qe r
    refine ac hb ?_
    lia
    split
    ·refine ac (oG _) (ac rfl ?_)
     split
     ·rename_i Bu
      subst Bf
      lia
      refine⟨rfl,_,.inl rfl,(λe=>by rw[e]at Bu;cases Bu),by simp;omega,λy hy=>?_⟩
      obtain⟨n,hn,rfl⟩:=List.mem_map.mp hy
      try lia
      refine BE (by omega) (by omega) λq q0 q1=>?_
      refine⟨rfl,q,rfl,λco c0 c1=>?_⟩
      exact h (.cos n co) ⟨hn,c0,c1⟩ hp (by show (ts.map _).length<=30;rw[aad];exact ht)
     ·subst AH;exact rest
    ·subst AH;exact rest
   subst hE
   lia
   refine ac (bM _ _) ?_
   lia
   split
   ·refine ac (oG _) (ac rfl ?_)
    split
    ·rename_i Bu
     subst Bf
     lia
     refine⟨rfl,_,.inl rfl,(λe=>by rw[e]at Bu;cases Bu),by simp;omega,λy hy=>?_⟩
     obtain⟨n,hn,rfl⟩:=List.mem_map.mp hy
     exact h (.Fl n) hn hp (RV n hn)
    ·subst AH;exact rest
   ·subst AH;exact rest
  subst hE
  lia
  refine ac (bM _ _) ?_
  lia
  split
  ·refine ac (CF ps ts) (ac (w4 ps) (ac rfl ?_))
   split
   ·rename_i Bu
    subst Bf
    lia
    refine ac (CF ps ts) ?_
    try lia
    refine⟨rfl,_,.inr rfl,λe=>?_,by simp;omega,λy hy=>?_⟩
    ·have:ps=[]:=List.map_eq_nil_iff.mp e
     rw[this]at Bu;simp at Bu
    ·obtain⟨n,hn,rfl⟩:=List.mem_map.mp hy
     exact h (.Gn n) hn (aa2 (aaS _ _) hp) ht
   ·subst AH;exact rest
  ·subst AH;exact rest
 subst hE
 lia
 refine ac (bM _ _) ?_
 lia
 split
 ·refine ac (CF ps ts) ?_
  lia
  rw[aad]
  by_cases z:ps.length<12
  ·rw[decide_eq_true (show ((ps.length:Nat):Int)<12 by omega),if_pos rfl]
   have A5:∀w,oR w->w∉ps->P (Ac (.FU w)) .rW:=λw w1 w2=>h (.FU w) ⟨w1,w2⟩ (by have:=(jA (ps:=ps) (ts:=ts) (.FU w)).1;omega) ht
   subst Bf
   refine ah λN2 NM=>aH λA2 B2 OQ OP=>?_
   have JV:∀e2:En,e2=[some ⟨2,.rW⟩,some ⟨0,lT ps ts⟩,some ⟨0,.lst ((ts.map zQ.nm).map .str)⟩,some ⟨0,.lst (gs.map .str)⟩,some ⟨0,.lst (Em.map .str)⟩,some ⟨0,.int r⟩]->N2 e2:=by
    rintro _ rfl
    subst NM
    lia
    refine ac (CF ps ts) ?_
    try lia
    exact⟨rfl,ps,.inr rfl,by omega,λw w1 w2=>A5 w w1 w2⟩
   lia
   refine ac (oG _) (ac rfl ?_)
   split
   ·rename_i Bu
    refine BE (by omega) (by omega) λq q0 q1=>?_
    try lia
    split
    ·subst OQ
     lia
     refine⟨rfl,_,.inl rfl,(λe=>by rw[e]at Bu;cases Bu),by simp;omega,λy hy=>?_⟩
     obtain⟨n,hn,rfl⟩:=List.mem_map.mp hy
     exact A5 n (fw n hn).1 (fw n hn).2
    ·subst OP;exact JV _ rfl
   ·subst OP;exact JV _ rfl
  ·rw[decide_eq_false (show ¬ ((ps.length:Nat):Int)<12 by omega),if_neg (by simp)]
   subst AH;exact rest
 ·subst AH;exact rest
theorem mB(ws:List Str):(DA (ws.map PV.str) ((ws.drop 1).map PV.str))=(ws.zip (ws.drop 1)).map λp=>PV.tup [.str p.1,.str p.2]:=by
 unfold DA
 rw[List.zip_map,aaA]
 rfl
theorem nF(xs:List PV)(P:PV->Prop)(h:ed xs P):Q.run 1 dU xs P:=by
 obtain⟨ws,hw,hl,h⟩:=h
 unfold dU
 have cut:Br (ws.map PV.str) (some 1) none=(ws.drop 1).map PV.str:=by
  rw[show (1:Int)=((1:Nat):Int)from rfl,dN,List.map_drop]
 have main:∀(x:PV),Ci (Fn (.tp [0,1])) Ds (iN Ew (eV 0) (An 1)) [none,none] (λx e1=>opt (Dx [x]) λz=>P z) (DA (ws.map PV.str) ((ws.drop 1).map PV.str)) [some ⟨0,x⟩] []:=λx=>by
  rw[mB]
  refine be (λx=>match x with|.tup [.str a,.str b]=>.bl (decide (Ai a b))|_=>.rW) (λx hx R hR=>?_) (by simp;omega) ?_
  ·obtain⟨p,hp,rfl⟩:=List.mem_map.mp hx
   exact⟨rfl,_,rfl,hR⟩
  ·rw[aaH,aaA]
   refine ac (z:=.bl (Ft ws)) ?_ h
   have:=fK (Jl ws)
   unfold Jl at this
   rw[aaA]at this
   exact this
 subst hw
 lia
 simp only[iZ]
 lia
 rw[cut]
 exact main _
theorem nG(xs:List PV)(P:PV->Prop)(h:cC xs P):Q.run 1 dW xs P:=by
 obtain⟨x,rfl,hx,h⟩:=h
 unfold dW
 cases x with
 |tup ys=>
  obtain⟨hl,hy⟩:=hx
  lia
  refine be (λx=>.bl (B9 x)) (λx hx R hR=>⟨x,rfl,hy x hx,hR⟩) (by simp;omega) ?_
  have e:ys.map (λx=>PV.bl (B9 x))=(ys.map B9).map PV.bl:=by rw[aaA];rfl
  rw[aaH,e,fK,dl]
  lia
  rw[List.all_map]
  have hw:Co (.tup ys)=(ys.all B9 && Ft (ys.filterMap Bo)):=rfl
  rw[hw]at h
  cases e:ys.all B9 with
  |false=>
   rw[e]at h
   simp only[Function.id_comp,e]
   exact h
  |true=>
   rw[e]at h
   simp only[Function.id_comp,e]
   rw[abW]at e
   have es:ys=(ys.filterMap Bo).map PV.str:=pX λy hy=>e y hy
   refine⟨ys.filterMap Bo,(by rw[<- es]),?_,h⟩
   have:=congrArg acb es
   rw[aad]at this
   omega
 |set _=>exact hx.elim
 |BH _=>exact hx.elim
 |_=>lia;exact h
theorem ub(h:ws.Pairwise Ai):Ft ws=true:=by
 unfold Ft
 rw[abW]
 intro b hb
 obtain⟨j,hj⟩:=List.getElem?_of_mem hb
 unfold Jl at hj
 rw[aal]at hj
 cases e:(ws.zip (ws.drop 1))[j]? with
 |none=>rw[e]at hj;cases hj
 |some p=>
  rw[e]at hj
  rw[aaX]at e
  obtain⟨e1,e2⟩:=e
  rw[List.getElem?_drop,aes]at e2
  obtain⟨l1,g1⟩:=List.getElem?_eq_some_iff.mp e1
  obtain⟨l2,g2⟩:=List.getElem?_eq_some_iff.mp e2
  have:=List.pairwise_iff_getElem.mp h j (j+1) l1 l2 (by omega)
  rw[g1,g2]at this
  simp[this]at hj
  simp[<- hj]
theorem qh(f:α->Str)(g:α->PV):∀l:List α,(l.map λx=>PV.tup [.str (f x),g x]).mapM D1=some (l.map λx=>((aao (f x):Key),g x))
 |[]=>rfl
 |x::l=>by rw[aap,aa8,qh f g l];rfl
theorem o4(f:α->Str)(g:α->PV):∀(l done:List α),((done++l).map f).Nodup->(l.map λx=>((aao (f x):Key),g x)).foldl (λacc kv=>B6 acc kv.1 kv.2) (done.map λx=>((aao (f x):Key),g x))=(done++l).map λx=>((aao (f x):Key),g x)
 |[],done,_=>by rw[aby];rfl
 |x::l,done,nd=>by
  rw[aap,abC]
  have hn:f x∉done.map f:=λz=>by
   rw[aaU,acj]at nd
   exact nd.2.2 _ z _ (by simp) rfl
  show afh _ (B6 _ (aao (f x)) (g x)) _=_
  rw[gX hn]
  have e:(done.map λx=>((aao (f x):Key),g x))++[(aao (f x),g x)]=(done++[x]).map λx=>((aao (f x):Key),g x):=by rw[aaU];rfl
  rw[e,o4 f g l (done++[x]) (by rwa [acK]),acK];rfl
theorem mG(f:α->Str)(g:α->PV)(l:List α)(nd:(l.map f).Nodup)(hl:l.length<=1000):Dk [.lst (l.map λx=>PV.tup [.str (f x),g x])]=some (.Av (l.map λx=>((aao (f x):Key),g x))):=by
 show (if (l.map λx=>PV.tup [.str (f x),g x]).length<=1000 then ((l.map λx=>PV.tup [.str (f x),g x]).mapM D1).map (λkvs=>PV.Av (EI kvs))else none)=_
 rw[if_pos (by simpa using hl),qh]
 show some (PV.Av (EI _))=_
 have:=o4 f g l [] (by simpa using nd)
 rw[aaH]at this
 unfold EI
 rw[show ([]:List (Key×PV))=([]:List α).map λx=>((aao (f x):Key),g x)from rfl,this]
def Lc(ks:List Str):PV:=.Av (ks.map λp=>((aao p:Key),PV.bl true))
def IJ(us:List zQ):PV:=.Av (us.map λt=>((aao t.nm:Key),gE t))
theorem yK(ks:List Str):((ks.map λp=>((aao p:Key),PV.bl true)).map (·.1)).mapM Cu=some ks:=by
 induction ks with
 |nil=>rfl
 |cons k ks ih=>rw[aap,aap,aa8,ih];rfl
theorem xS(us:List zQ):(us.map λt=>((aao t.nm:Key),gE t)).map (·.2)=us.map gE:=by rw[aaA];rfl
theorem ya(h:p∉ps)(hl:ps.length<=60):Dt (Lc ps) (.str p) (.bl true)=some (Lc (ps++[p])):=by
 show (if (ps.map λp=>((aao p:Key),PV.bl true)).length<=100000 then some (PV.Av (B6 (ps.map λp=>((aao p:Key),PV.bl true)) (aao p) (.bl true)))else none)=_
 rw[aad,if_pos (by omega)]
 have:=gX (f:=λp:Str=>p) (g:=λ_=>PV.bl true) (l:=ps) (y:=p) (v:=.bl true) (by simpa using h)
 rw[this]
 unfold Lc
 rw[aaU];rfl
theorem x9{t:zQ}(h:t.nm∉ts.map zQ.nm)(hl:ts.length<=60):Dt (IJ ts) (.str t.nm) (gE t)=some (IJ (ts++[t])):=by
 show (if (ts.map λt=>((aao t.nm:Key),gE t)).length<=100000 then some (PV.Av (B6 (ts.map λt=>((aao t.nm:Key),gE t)) (aao t.nm) (gE t)))else none)=_
 rw[aad,if_pos (by omega)]
 have:=gX (f:=zQ.nm) (g:=gE) (l:=ts) (y:=t.nm) (v:=gE t) h
 rw[this]
 unfold IJ
 rw[aaU];rfl
theorem xE(ps:List Str)(p:Str):Ef (ps.map λp=>((aao p:Key),PV.bl true)) (aao p)=(ps.filter λq=>!decide (q=p)).map λp=>((aao p:Key),PV.bl true):=by
 unfold Ef
 rw[List.filter_map]
 refine congrArg _ (List.filter_congr λq _=>?_)
 show decide ((aao q:Key)≠aao p)=_
 by_cases e:q=p<;>simp[e]
theorem xD(ts:List zQ)(n:Str):Ef (ts.map λt=>((aao t.nm:Key),gE t)) (aao n)=(ts.filter λt=>!decide (t.nm=n)).map λt=>((aao t.nm:Key),gE t):=by
 unfold Ef
 rw[List.filter_map]
 refine congrArg _ (List.filter_congr λq _=>?_)
 show decide ((aao q.nm:Key)≠aao n)=_
 by_cases e:q.nm=n<;>simp[e]
theorem xT(nd:ps.Nodup)(h:p∈ps):A4 (ps.map λp=>((aao p:Key),PV.bl true)) (aao p)=some (.bl true) :=
 dh (f:=λp:Str=>p) (g:=λ_=>PV.bl true) (l:=ps) (a:=p) (by simpa using nd) h
theorem rE{t:zQ}(nd:(ts.map zQ.nm).Nodup)(h:t∈ts):A4 (ts.map λt=>((aao t.nm:Key),gE t)) (aao t.nm)=some (gE t) :=
 dh (f:=zQ.nm) (g:=gE) nd h
theorem wF{t:zQ}{c:Int}(nd:(ts.map zQ.nm).Nodup)(h:t∈ts)(hl:ts.length<=60):Dt (IJ ts) (.str t.nm) (gE {t with cost:=c})=some (IJ (Ar ts (.cos t.nm c))):=by
 show (if (ts.map λt=>((aao t.nm:Key),gE t)).length<=100000 then some (PV.Av (B6 (ts.map λt=>((aao t.nm:Key),gE t)) (aao t.nm) (gE {t with cost:=c})))else none)=_
 rw[aad,if_pos (by omega)]
 unfold B6
 rw[if_pos (by rw[adq];exact⟨_,abH h,by simp⟩)]
 refine congrArg (λl=>some (PV.Av l)) ?_
 show _=(ts.map λu=>if u.nm=t.nm then {u with cost:=c}else u).map λt=>((aao t.nm:Key),gE t)
 rw[aaA,aaA]
 refine aaP λu hu=>?_
 show (if (aao u.nm:Key)=aao t.nm then ((aao u.nm:Key),gE {t with cost:=c})else (aao u.nm,gE u))=((aao (if u.nm=t.nm then {u with cost:=c}else u).nm:Key),gE (if u.nm=t.nm then {u with cost:=c}else u))
 by_cases e:u.nm=t.nm
 ·obtain rfl:=yD nd hu h e
  simp
 ·rw[if_neg (by simpa using e),if_neg e]
theorem pK(xs:List PV)(P:PV->Prop)(h:dz xs P):Q.run 5 fS xs P:=by
 obtain⟨ps,ts,d,rfl,S,hd,h⟩:=h
 have pl:=S.pl
 have tl:=S.tl
 have pn:=cJ S.ok.rise
 have tn:=aV S.ok
 have IP:=tP S.ok hd
 unfold fS
 refine ah λN hN=>?_
 simp only[Bw,AJ,aS,BQ]
 lia
 refine ac (CF ps ts) ?_
 lia
 refine be (λx=>.tup [x,.bl true]) (λx hx R hR=>?_) (by simp;omega) ?_
 ·obtain⟨p,hp,rfl⟩:=List.mem_map.mp hx
  exact hR
 rw[aaH,aaA]
 refine ac (mG (λp:Str=>p) (λ_=>PV.bl true) ps (by simpa using pn) (by omega)) ?_
 show N [some ⟨0,lT ps ts⟩,some ⟨0,Ac d⟩,some ⟨1,Lc ps⟩,none,none]
 subst hN
 refine ah λN hN=>?_
 simp only[Bw,AJ,aS,BQ]
 lia
 refine ac (CY ps ts) ?_
 lia
 refine be (λx=>.tup [LH x,x]) (λx hx R hR=>?_) (by simp;omega) ?_
 ·obtain⟨t,ht,rfl⟩:=List.mem_map.mp hx
  refine ac (z:=.str t.nm) (ai (j:=0) rfl) ?_
  exact hR
 rw[aaH,aaA]
 refine ac (mG zQ.nm gE ts tn (by omega)) ?_
 show N [some ⟨0,lT ps ts⟩,some ⟨0,Ac d⟩,some ⟨1,Lc ps⟩,some ⟨1,IJ ts⟩,none]
 subst hN
 refine ah λN hN=>?_
 have tail:∀(ks:List Str) (us:List zQ) (v4:Option Sl),ks.Perm (AA ps d)->us.Perm (Ar ts d)->N [some ⟨0,lT ps ts⟩,some ⟨0,Ac d⟩,some ⟨1,Lc ks⟩,some ⟨1,IJ us⟩,v4]:=by
  intro ks us v4 p1 p2
  have cl:=jA (ps:=ps) (ts:=ts) d
  subst hN
  simp only[zX,zN,AJ,aS,BC,E9]
  lia
  refine⟨ks,yK ks,by rw[p1.length_eq];omega,λgs up=>ac rfl ?_⟩
  have e:gs=AA ps d:=gc (up.1.trans p1) (eu up.2 ((up.1.trans p1).nodup_iff.mpr (cJ IP.rise))) IP.rise
  subst e
  simp only[IJ]
  rw[xS]
  refine⟨us.map zQ.nm,nW us,?_,(by rw[aad,p2.length_eq];omega),λix i1 i2 i3=>ac rfl ?_⟩
  ·exact(p2.map zQ.nm).nodup_iff.mpr (aV IP)
  ·rw[aad]at i1 i2
   rw[jI p2 IP.names i1 i2 i3]
   exact h
 refine aH λA1 B1 Bf AH=>?_
 lia
 cases d with
 |FU p=>
  refine ac (z:=.str "place") (ai (j:=0) rfl) (ac (gC _) ?_)
  lia
  subst Bf
  simp only[EU]
  lia
  refine ac (z:=.str p) (ai (j:=1) rfl) ?_
  try lia
  refine ac (ya hd.2 pl) ?_
  exact tail _ _ _ (fF p ps).symm (.refl _)
 |Gn p=>
  refine ac (z:=.str "leave") (ai (j:=0) rfl) (ac (cm (by decide +kernel)) ?_)
  lia
  subst AH
  refine aH λA1 B1 Bf AH=>?_
  lia
  refine ac (z:=.str "leave") (ai (j:=0) rfl) (ac (gC _) ?_)
  lia
  subst Bf
  simp only[Ct,FJ]
  lia
  refine⟨⟨_,rfl⟩,ac (z:=.str p) (ai (j:=1) rfl) ?_⟩
  show ∃z,A4 (ps.map λp=>((aao p:Key),PV.bl true)) (aao p)=some z/\_
  refine⟨_,xT pn hd,?_⟩
  rw[xE]
  exact tail _ _ _ (.refl _) (.refl _)
 |Fl n=>
  refine ac (z:=.str "untie") (ai (j:=0) rfl) (ac (cm (by decide +kernel)) ?_)
  lia
  subst AH
  refine aH λA1 B1 Bf AH=>?_
  lia
  refine ac (z:=.str "untie") (ai (j:=0) rfl) (ac (cm (by decide +kernel)) ?_)
  lia
  subst AH
  refine aH λA1 B1 Bf AH=>?_
  lia
  refine ac (z:=.str "untie") (ai (j:=0) rfl) (ac (gC _) ?_)
  lia
  subst Bf
  obtain⟨t,ht,rfl⟩:=List.mem_map.mp (show n∈ts.map zQ.nm from hd)
  simp only[Ct,FJ]
  lia
  refine⟨⟨_,rfl⟩,ac (z:=.str t.nm) (ai (j:=1) rfl) ?_⟩
  show ∃z,A4 (ts.map λt=>((aao t.nm:Key),gE t)) (aao t.nm)=some z/\_
  refine⟨_,rE tn ht,?_⟩
  rw[xD]
  exact tail _ _ _ (.refl _) (.refl _)
 |cos n c=>
  refine ac (z:=.str "cost") (ai (j:=0) rfl) (ac (cm (by decide +kernel)) ?_)
  lia
  subst AH
  refine aH λA1 B1 Bf AH=>?_
  lia
  refine ac (z:=.str "cost") (ai (j:=0) rfl) (ac (cm (by decide +kernel)) ?_)
  lia
  subst AH
  refine aH λA1 B1 Bf AH=>?_
  lia
  refine ac (z:=.str "cost") (ai (j:=0) rfl) (ac (cm (by decide +kernel)) ?_)
  lia
  subst AH
  refine aH λA1 B1 Bf AH=>?_
  lia
  refine ac (z:=.str "cost") (ai (j:=0) rfl) (ac (gC _) ?_)
  lia
  subst Bf
  obtain⟨t,ht,rfl⟩:=List.mem_map.mp (show n∈ts.map zQ.nm from hd.1)
  simp only[EU,Cm]
  lia
  refine⟨rfl,ac (z:=.str t.nm) (ai (j:=1) rfl) ?_⟩
  try lia
  refine ac (z:=gE t) (show iF (IJ ts) (.str t.nm)=_ from rE tn ht) ?_
  try lia
  refine ac (z:=.tup [.str t.nm,.str t.one,.str t.Bi]) ?_ ?_
  ·show some (PV.tup (Br [PV.str t.nm,.str t.one,.str t.Bi,.int t.cost] none (some (3:Int))))=_
   rw[show (3:Int)=((3:Nat):Int)from rfl,cO];rfl
  try lia
  refine ac (z:=.int c) (ai (j:=2) rfl) (ac (z:=gE {t with cost:=c}) rfl ?_)
  try lia
  refine ac (z:=.str t.nm) (ai (j:=1) rfl) ?_
  try lia
  refine ac (wF tn ht tl) ?_
  exact tail _ _ _ (.refl _) (.refl _)
 |tie n a b c=>
  refine ac (z:=.str "tie") (ai (j:=0) rfl) (ac (cm (by decide +kernel)) ?_)
  lia
  subst AH
  refine aH λA1 B1 Bf AH=>?_
  lia
  refine ac (z:=.str "tie") (ai (j:=0) rfl) (ac (cm (by decide +kernel)) ?_)
  lia
  subst AH
  refine aH λA1 B1 Bf AH=>?_
  lia
  refine ac (z:=.str "tie") (ai (j:=0) rfl) (ac (cm (by decide +kernel)) ?_)
  lia
  subst AH
  refine aH λA1 B1 Bf AH=>?_
  lia
  refine ac (z:=.str "tie") (ai (j:=0) rfl) (ac (cm (by decide +kernel)) ?_)
  lia
  subst AH
  obtain⟨h1,h2,h3,h4,h5,h6⟩:=hd
  refine ah λN2 NM=>?_
  simp only[Ad,B8,aS]
  lia
  refine ac (z:=.tup [.str a,.str b]) rfl ?_
  refine⟨[a,b],rfl,(by show 2<64;decide),λgs up=>?_⟩
  have eg:gs=[Cf a b,Cg a b]:=by
   have lt:=ls h4
   have pp:[a,b].Perm [Cf a b,Cg a b]:=by
    unfold Cf Cg
    rcases mj a b with z|z|z
    ·rw[if_neg (lu z),if_pos z]
    ·exact absurd z h4
    ·rw[if_pos z,if_neg (lu z)];exact List.Perm.swap ..
   have r2:[Cf a b,Cg a b].Pairwise Ai:=by simp[lt]
   exact gc (up.1.trans pp) (eu up.2 ((up.1.trans pp).nodup_iff.mpr (cJ r2))) r2
  subst eg
  show N2 [some ⟨0,lT ps ts⟩,some ⟨0,Ac (.tie n a b c)⟩,some ⟨1,Lc ps⟩,some ⟨1,IJ ts⟩,some ⟨0,.lst [.str (Cf a b),.str (Cg a b)]⟩]
  subst NM
  simp only[EU]
  lia
  refine ac (z:=.str n) (ai (j:=1) rfl) (ac (z:=.str (Cf a b)) (ai (j:=0) rfl) (ac (z:=.str (Cg a b)) (ai (j:=1) rfl) (ac (z:=.int c) (ai (j:=4) rfl) ?_)))
  try lia
  refine ac (z:=.str n) (ai (j:=1) rfl) ?_
  try lia
  refine ac (x9 (t:=J3 n a b c) h5 tl) ?_
  exact tail _ _ _ (.refl _) (fE (J3 n a b c) ts).symm
theorem pI(xs:List PV)(P:PV->Prop)(h:f8 xs P):Q.run 4 fQ xs P:=by
 obtain⟨as,bs,rfl,la,lb,h⟩:=h
 unfold fQ
 refine ah λN hN=>?_
 lia
 refine bH (Cb bs) (λx hx R hR=>?_) (by rw[aad];simp;omega) ?_
 ·obtain⟨w,hw,rfl⟩:=List.mem_map.mp hx
  exact cf jm hR rfl rfl
 rw[bF]
 refine ac rfl ?_
 show N [some ⟨0,.tup (as.map .str)⟩,some ⟨0,.tup (bs.map .str)⟩,some ⟨0,.tup ((as.filter λa=>!decide (a∈bs)).map .str)⟩,none]
 subst hN
 refine ah λN hN=>?_
 lia
 refine bH (Cb as) (λx hx R hR=>?_) (by rw[aad];simp;omega) ?_
 ·obtain⟨w,hw,rfl⟩:=List.mem_map.mp hx
  exact cf jm hR rfl rfl
 rw[bF]
 refine ac rfl ?_
 show N [some ⟨0,.tup (as.map .str)⟩,some ⟨0,.tup (bs.map .str)⟩,some ⟨0,.tup ((as.filter λa=>!decide (a∈bs)).map .str)⟩,some ⟨0,.tup ((bs.filter λa=>!decide (a∈as)).map .str)⟩]
 subst hN
 lia
 exact h
theorem om(T:Addr)(c:PV)(xs:List PV)(P:PV->PV->Prop)(h:fu T c xs P):Q.DC 2 (eI T) c xs P:=by
 obtain⟨rfl,ps,ts,d,rfl,S,hd,S2,h⟩:=h
 unfold eI
 have l1:=bS ps ts (aV S.ok)
 have l2:=bS (AA ps d) (Ar ts d) (aV S2.ok)
 have:=S.tl
 have:=S2.tl
 simp only[DC,GG,HA]
 lia
 simp only[BD]
 lia
 refine⟨rfl,ps,ts,rfl,S.ok,S.pl,S.tl,?_⟩
 lia
 refine⟨ps,ts,d,rfl,S,hd,?_⟩
 lia
 refine⟨rfl,_,_,rfl,S2.ok,S2.pl,S2.tl,?_⟩
 lia
 refine⟨_,_,rfl,by omega,by omega,?_⟩
 exact h
theorem lF:∀(d:Nat) (x:PV),Tr d x->AN d x x=some true
 |0,x,h=>h.elim
 |d+1,x,h=>by
  rcases h with ⟨s,rfl⟩|⟨n,rfl⟩|⟨l,rfl,_,hl⟩
  ·show some (s==s)=_;rw[beq_self_eq_true]
  ·show some (n==n)=_;rw[beq_self_eq_true]
  ·show (((l.zip l).mapM λp=>AN d p.1 p.2).map λbs=>bs.all id && l.length==l.length)=_
   have:∀l:List PV,(∀y∈l,Tr d y)->((l.zip l).mapM λp=>AN d p.1 p.2)=some (l.map λ_=>true):=λl=>by
    induction l with
    |nil=>intro _;rfl
    |cons a l ih=>
     intro h
     rw[ac8,aa8,lF d a (h a aay),ih λy hy=>h y (aaw _ hy)]
     rfl
   rw[this l hl]
   simp
theorem NS{d:Nat}{x:PV}(hd:d<=60)(h:Tr d x):Tr 60 x:=by
 have up:∀(d:Nat) (x:PV),Tr d x->Tr (d+1) x:=λd=>by
  induction d with
  |zero=>intro x h;exact h.elim
  |succ d ih=>
   intro x h
   rcases h with h|h|⟨l,e,hl,hy⟩
   ·exact .inl h
   ·exact .inr (.inl h)
   ·exact .inr (.inr ⟨l,e,hl,λy z=>ih y (hy y z)⟩)
 have:∀k,Tr (d+k) x:=λk=>by
  induction k with
  |zero=>exact h
  |succ k ih=>exact up _ _ ih
 have:=this (60 - d)
 rwa [show d+(60 - d)=60 by omega]at this
theorem xY(d:Nat)(s:Str):Tr (d+1) (.str s):=.inl ⟨s,rfl⟩
theorem pW(ss:List Str)(h:ss.length<=1000):Tr 2 (.tup (ss.map .str)):=.inr (.inr ⟨_,rfl,by rw[aad];exact h,λy hy=>by
 obtain⟨s,_,rfl⟩:=List.mem_map.mp hy
 exact xY 0 s⟩)
theorem xZ{as bs:List Str}(la:as.length<=1000)(lb:bs.length<=1000):Tr 3 (EJ as bs):=.inr (.inr ⟨_,rfl,by simp,λy hy=>by
 simp only[aa5,aaQ,or_false]at hy
 rcases hy with rfl|rfl
 ·exact pW _ (aa2 (aaS _ _) la)
 ·exact pW _ (aa2 (aaS _ _) lb)⟩)
theorem zI(h:Bp ps ts)(hd:GU ps ts d)(hp:ps.length<=12)(ht:ts.length<=30):CU (AA ps d) (Ar ts d):=by
 have:=jA (ps:=ps) (ts:=ts) d
 exact⟨tP h hd,by omega,by omega⟩
theorem vP:∀(d:Nat) (x y:PV),Tr d x->Tr d y->∃b,AN d x y=some b/\(b=true->x=y)
 |0,x,y,h,_=>h.elim
 |d+1,x,y,hx,hy=>by
  rcases hx with ⟨s,rfl⟩|⟨n,rfl⟩|⟨l,rfl,_,hl⟩<;>rcases hy with ⟨s',rfl⟩|⟨n',rfl⟩|⟨l',rfl,_,FX⟩
  ·exact⟨s==s',rfl,λe=>by rw[beq_iff_eq.mp e]⟩
  ·exact⟨false,rfl,λe=>by cases e⟩
  ·exact⟨false,rfl,λe=>by cases e⟩
  ·exact⟨false,rfl,λe=>by cases e⟩
  ·exact⟨n==n',rfl,λe=>by rw[beq_iff_eq.mp e]⟩
  ·exact⟨false,rfl,λe=>by cases e⟩
  ·exact⟨false,rfl,λe=>by cases e⟩
  ·exact⟨false,rfl,λe=>by cases e⟩
  ·have go:∀l l':List PV,(∀y∈l,Tr d y)->(∀y∈l',Tr d y)->∃bs,((l.zip l').mapM λp=>AN d p.1 p.2)=some bs/\(bs.all id=true->l.length=l'.length->l=l'):=λl=>by
    induction l with
    |nil=>intro l' _ _;exact⟨[],rfl,λ_ e=>(List.length_eq_zero_iff.mp e.symm).symm⟩
    |cons a l ih=>
     intro l' h h'
     cases l' with
     |nil=>exact⟨[],rfl,λ_ e=>by cases e⟩
     |cons b l'=>
      obtain⟨bs,e1,e2⟩:=ih l' (λy hy=>h y (aaw _ hy)) (λy hy=>h' y (aaw _ hy))
      obtain⟨c,e3,e4⟩:=vP d a b (h a aay) (h' b aay)
      refine⟨c::bs,by rw[ac8,aa8,e3,e1];rfl,λz e=>?_⟩
      rw[ae3,aaT]at z
      rw[e4 z.1,e2 z.2 (by simpa using e)]
   obtain⟨bs,e1,e2⟩:=go l l' hl FX
   refine⟨bs.all id && l.length==l'.length,?_,λz=>?_⟩
   ·show (((l.zip l').mapM λp=>AN d p.1 p.2).map λbs=>bs.all id && l.length==l'.length)=_
    rw[e1];rfl
   ·rw[aaT]at z
    rw[e2 z.1 (by simpa using z.2)]
theorem ou(xs:List PV)(P:PV->Prop)(h:fx xs P):Q.run 5 eM xs P:=by
 obtain⟨ps,ts,d,rfl,S,hd,S2,h⟩:=h
 have l1:=bS ps ts (aV S.ok)
 have l2:=bS (AA ps d) (Ar ts d) (aV S2.ok)
 have:=S.tl
 have:=S2.tl
 unfold eM
 refine ah λN hN=>?_
 lia
 refine⟨ps,ts,rfl,S.ok,S.pl,S.tl,?_⟩
 try lia
 refine⟨ps,ts,d,rfl,S,hd,?_⟩
 try lia
 refine⟨_,_,rfl,S2.ok,S2.pl,S2.tl,?_⟩
 try lia
 show N [some ⟨0,lT ps ts⟩,some ⟨0,Ac d⟩,some ⟨0,.tup ((zS ps ts).map .str)⟩,some ⟨0,.tup ((zS (AA ps d) (Ar ts d)).map .str)⟩,none]
 generalize zS ps ts=as at h l1 ⊢
 generalize zS (AA ps d) (Ar ts d)=bs at h l2 ⊢
 subst hN
 refine ah λN hN=>?_
 lia
 refine bH (Cb bs) (λx hx R hR=>?_) (by rw[aad];simp;omega) ?_
 ·obtain⟨w,hw,rfl⟩:=List.mem_map.mp hx
  exact cf jm hR rfl rfl
 rw[aaH,bF]
 refine ac rfl ?_
 show N [some ⟨0,lT ps ts⟩,some ⟨0,Ac d⟩,some ⟨0,.tup (as.map .str)⟩,some ⟨0,.tup (bs.map .str)⟩,some ⟨0,.tup ((as.filter λa=>!decide (a∈bs)).map .str)⟩]
 subst hN
 simp only[zX,zN,AJ,aS,BQ]
 lia
 refine bH (Cb as) (λx hx R hR=>?_) (by rw[aad];simp;omega) ?_
 ·obtain⟨w,hw,rfl⟩:=List.mem_map.mp hx
  exact cf jm hR rfl rfl
 rw[aaH,bF]
 refine ac rfl ?_
 exact h
theorem iR:C0 (.str p) (AZ ps L)=some (.bl (decide (p∈ps))):=by
 show some (PV.bl (A4 (ps.map λp=>((aao p:Key),PV.str (L p))) (aao p)).isSome)=_
 congr 2
 induction ps with
 |nil=>rfl
 |cons a ps ih=>
  rw[aap]
  unfold A4
  rw[abx]
  by_cases e:a=p
  ·subst e;simp
  ·have e1:decide ((aao a:Key)=aao p)=false:=by simp[e]
   simp only[e1,aa5]
   have:(p=a\/p∈ps)↔p∈ps:=⟨λz=>z.elim (λq=>absurd q.symm e) id,.inr⟩
   rw[decide_eq_decide.mpr this]
   exact ih
theorem wE{v:Str}(h:p∈ps)(hl:ps.length<=60):Dt (AZ ps L) (.str p) (.str v)=some (AZ ps λx=>if x=p then v else L x):=by
 show (if (ps.map λp=>((aao p:Key),PV.str (L p))).length<=100000 then some (PV.Av (B6 (ps.map λp=>((aao p:Key),PV.str (L p))) (aao p) (.str v)))else none)=_
 rw[aad,if_pos (by omega),ue h]
 unfold AZ
 refine congrArg (λl=>some (PV.Av l)) (aaP λx _=>?_)
 by_cases e:x=p
 ·simp only[e,if_true]
 ·simp only[e,if_false]
theorem uP(hl:ps.length<=60):jq [AZ ps L]=some (.lst (ps.map .str)):=by
 show (if (ps.map λp=>((aao p:Key),PV.str (L p))).length<=1000 then (((ps.map λp=>((aao p:Key),PV.str (L p))).map (·.1)).mapM Cu).map (λss=>PV.lst (ss.map .str))else none)=_
 rw[aad,if_pos (by omega)]
 have:((ps.map λp=>((aao p:Key),PV.str (L p))).map (·.1)).mapM Cu=some ps:=by
  clear hl
  induction ps with
  |nil=>rfl
  |cons k ks ih=>rw[aap,aap,aa8,ih];rfl
 rw[this];rfl
def rl(ps:List Str)(L:Str->Str)(gone new:Str)(j:Nat):Str->Str:=λp=>if p∈ps.take j/\L p=gone then new else L p
theorem fC{M:Str->Str}(h:∀p∈ps,L p=M p):AZ ps L=AZ ps M:=by
 unfold AZ
 exact congrArg PV.Av (aaP λp hp=>by rw[h p hp])
def DY(t:zQ):PV:=.tup [.int t.cost,.str t.nm,.str t.one,.str t.Bi]
def JU:PV->PV
 |.tup [a,b,c,d]=>.tup [d,a,b,c]
 |_=>.rW
theorem wA(ts:List zQ):(ts.map gE).map JU=ts.map DY:=by rw[aaA];rfl
theorem x6(ts:List zQ):(ts.map DY).mapM Gz=some (ts.map λt=>(t.cost,t.nm)):=by
 induction ts with
 |nil=>rfl
 |cons t ts ih=>rw[aap,aa8,ih];rfl
theorem pC{j:Nat}{t:zQ}(et:vs[j]?=some t)(p:zQ->Bool):(vs.take (j+1)).filter p=if p t=true then (vs.take j).filter p++[t]else (vs.take j).filter p:=by
 rw[acQ,et,List.filter_append]
 show _++List.filter p [t]=_
 by_cases h:p t=true
 ·rw[if_pos h,List.filter_cons_of_pos h];rfl
 ·rw[if_neg h,List.filter_cons_of_neg h,List.filter_nil,aby]
theorem oA(xs:List PV)(P:PV->Prop)(h:de xs P):Q.run 10 eN xs P:=by
 obtain⟨ps,ts,rfl,ok,hp,ht,h⟩:=h
 have pn:=cJ ok.rise
 have tn:=aV ok
 unfold eN
 refine ah λN hN=>?_
 simp only[Bw,AJ,aS,BQ]
 lia
 refine ac (CF ps ts) ?_
 lia
 refine be (λx=>.tup [x,x]) (λx hx R hR=>?_) (by simp;omega) ?_
 ·obtain⟨p,hp,rfl⟩:=List.mem_map.mp hx
  exact hR
 rw[aaH,aaA]
 refine ac (mG (λp:Str=>p) PV.str ps (by simpa using pn) (by omega)) ?_
 show N [some ⟨0,lT ps ts⟩,some ⟨1,AZ ps id⟩,none,none,none,none,none,none,none,none]
 subst hN
 refine ah λN hN=>?_
 lia
 subst hN
 refine ah λN hN=>cM λG B hG hB=>?_
 simp only[iS,GI,aS,bY,BQ]
 lia
 refine ac (CY ps ts) ?_
 lia
 refine be JU (λx hx R hR=>?_) (by simp;omega) ?_
 ·obtain⟨t,ht,rfl⟩:=List.mem_map.mp hx
  refine ac (z:=.int t.cost) (ai (j:=3) rfl) (ac (z:=.str t.nm) (ai (j:=0) rfl) (ac (z:=.str t.one) (ai (j:=1) rfl) (ac (z:=.str t.Bi) (ai (j:=2) rfl) ?_)))
  exact hR
 rw[aaH,wA]
 refine⟨_,x6 ts,by rw[aaA];exact tn,by rw[aad];omega,λix IP=>?_⟩
 have lt:∀i∈ix,i<ts.length:=λi hi=>by have:=IP.lt i hi;rwa [aad]at this
 obtain⟨vs,ev,pm,up⟩:∃vs:List zQ,(ix.map λi=>(ts.map DY).getD i .rW)=vs.map DY/\vs.Perm ts/\vs.Pairwise Ho:=by
  refine⟨ix.map λi=>ts.getD i t0,?_,mr (by have:=IP.len;rwa [aad]at this) IP.nd lt,?_⟩
  ·rw[aaA]
   exact aaP λi hi=>by
    show (ts.map DY).getD i .rW=DY (ts.getD i t0)
    rw[aae,aae,aal,aab (lt i hi)];rfl
  ·refine List.pairwise_map.mpr (adY (λhx hy hq=>?_) IP.up)
   exact(qk (lt _ hx) (lt _ hy)).mp hq
 rw[ev]
 clear IP lt ev
 try lia
 refine bO (λj e=>∃v3 v4 v5 v6 v7 v8 v9:Option Sl,e=[some ⟨0,lT ps ts⟩,some ⟨1,AZ ps (wr ((vs.take j).filter (CN ps))).1⟩,some ⟨1,.lst ((wr ((vs.take j).filter (CN ps))).2.map .str)⟩,v3,v4,v5,v6,v7,v8,v9]) (i:=0)
  ⟨none,none,none,none,none,none,none,rfl⟩ ?_ ?_
 case refine_2=>
  rintro e ⟨v3,v4,v5,v6,v7,v8,v9,rfl⟩
  show N _
  rw[aad,abE,acu]
  have pf:(vs.filter (CN ps)).Perm (ts.filter (CN ps)):=pm.filter _
  have vn:((vs.filter (CN ps)).map zQ.nm).Nodup:=(pf.map zQ.nm).nodup_iff.mpr (tn.sublist (List.filter_sublist.map _))
  subst hN
  simp only[zX,AJ,aS]
  lia
  simp only[BC]
  lia
  refine⟨_,cI _,?_,λgs us=>ac rfl ?_⟩
  ·have:=(gH vn).2
   have:=pf.length_eq
   have:=aaS (CN ps) ts
   omega
  ·rw[o9 ⟨_,pf,up.sublist abB,us.1,eu us.2 (us.1.nodup_iff.mpr (gH vn).1)⟩]
   exact h
 rintro j x e M hx ⟨v3,v4,v5,v6,v7,v8,v9,rfl⟩ k
 rw[abE]at k ⊢
 rw[aal,aaD]at hx
 obtain⟨t,et,rfl⟩:=hx
 have tf:=pC et (CN ps)
 have kl:(wr ((vs.take j).filter (CN ps))).2.length<=60:=by
  have vn:(((vs.take j).filter (CN ps)).map zQ.nm).Nodup:=((pm.map zQ.nm).nodup_iff.mpr tn).sublist ((List.filter_sublist.trans (acI _ _)).map _)
  have:=(gH vn).2
  have:=aaS (CN ps) (vs.take j)
  rw[aa9]at this
  have:=pm.length_eq
  omega
 rw[tf]at k
 generalize (vs.take j).filter (CN ps)=F at k kl ⊢
 subst hG hB
 simp only[DY]
 lia
 by_cases o1:t.one∈ps
 case neg=>
  have on:¬ CN ps t=true:=λz=>o1 (DL.mp z).1
  rw[if_neg on]at k
  refine ac iR (ac rfl ?_)
  rw[decide_eq_false o1,if_neg (by simp)]
  exact k _ ⟨_,_,_,_,_,_,_,rfl⟩
 by_cases o2:t.Bi∈ps
 case neg=>
  have on:¬ CN ps t=true:=λz=>o2 (DL.mp z).2
  rw[if_neg on]at k
  refine ac iR (ac rfl ?_)
  rw[decide_eq_true o1,if_pos rfl]
  refine ac iR (ac rfl ?_)
  rw[decide_eq_false o2,if_neg (by simp)]
  exact k _ ⟨_,_,_,_,_,_,_,rfl⟩
 rw[if_pos (DL.mpr ⟨o1,o2⟩),pV]at k
 generalize wr F=gk at k kl ⊢
 obtain⟨g,kp⟩:=gk
 dsimp only at kl ⊢
 refine ac iR (ac rfl ?_)
 rw[decide_eq_true o1,if_pos rfl]
 refine ac iR (ac rfl ?_)
 rw[decide_eq_true o2,if_pos rfl]
 simp only[Cm]
 lia
 refine ac (dn pn o1) ?_
 try lia
 refine ac (dn pn o2) ?_
 try lia
 refine ac (gi _ _) (ac rfl ?_)
 by_cases hg:g t.one=g t.Bi
 ·rw[decide_eq_true hg,abY,if_neg (by simp)]
  have es:AQ (g,kp) t=(g,kp):=by unfold AQ;rw[if_pos hg]
  rw[es]at k
  exact k _ ⟨_,_,_,_,_,_,_,rfl⟩
 rw[decide_eq_false hg,ab0,if_pos rfl]
 have es:AQ (g,kp) t=(λp=>if g p=g t.Bi then g t.one else g p,kp++[t.nm]):=by unfold AQ;rw[if_neg hg]
 rw[es]at k
 simp only[HP,aS,bY,Cm]
 lia
 try simp only[Cm]
 try lia
 refine ac (dn pn o2) ?_
 try lia
 try simp only[Cm]
 try lia
 refine ac (dn pn o1) ?_
 try lia
 show DV _ _ _ _ [some ⟨0,lT ps ts⟩,some ⟨1,AZ ps g⟩,some ⟨1,.lst (kp.map .str)⟩,some ⟨0,.int t.cost⟩,some ⟨0,.str t.nm⟩,some ⟨0,.str t.one⟩,some ⟨0,.str t.Bi⟩,some ⟨0,.str (g t.Bi)⟩,some ⟨0,.str (g t.one)⟩,v9]
 refine cM λG B hG hB=>?_
 lia
 refine ac (uP hp) ?_
 try lia
 subst hG hB
 have e0:AZ ps (rl ps g (g t.Bi) (g t.one) 0)=AZ ps g:=fC λp hp=>by unfold rl;rw[if_neg (by simp)]
 refine bO (λi e=>∃v9:Option Sl,e=[some ⟨0,lT ps ts⟩,some ⟨1,AZ ps (rl ps g (g t.Bi) (g t.one) i)⟩,some ⟨1,.lst (kp.map .str)⟩,some ⟨0,.int t.cost⟩,some ⟨0,.str t.nm⟩,some ⟨0,.str t.one⟩,some ⟨0,.str t.Bi⟩,some ⟨0,.str (g t.Bi)⟩,some ⟨0,.str (g t.one)⟩,v9]) (i:=0)
  ⟨v9,by rw[e0]⟩ ?_ ?_
 case refine_2=>
  rintro e ⟨v9,rfl⟩
  dsimp only
  rw[aad,abE,fC (M:=λp=>if g p=g t.Bi then g t.one else g p) λp hp=>by unfold rl;simp[hp]]
  lia
  refine ac (Ie (by rw[aad];omega)) ?_
  have e:kp.map PV.str++[.str t.nm]=(kp++[t.nm]).map PV.str:=by rw[aaU];rfl
  rw[e]
  exact k _ ⟨_,_,_,_,_,_,_,rfl⟩
 rintro i x e M' hx ⟨v9,rfl⟩ k'
 rw[abE]at k' ⊢
 rw[aal,aaD]at hx
 obtain⟨p,ep,rfl⟩:=hx
 have RK:p∈ps:=abh ep
 have pf:p∉ps.take i:=λz=>by
  obtain⟨a,ha,e⟩:=List.mem_iff_getElem.mp z
  rw[aa9]at ha
  obtain⟨h1,h2⟩:=List.getElem?_eq_some_iff.mp ep
  rw[List.getElem_take,<- h2]at e
  have:=(ab7 pn).mp e
  omega
 have e1:rl ps g (g t.Bi) (g t.one) i p=g p:=by unfold rl;rw[if_neg λz=>pf z.1]
 have e2:∀q,q∈ps.take (i+1)↔q∈ps.take i\/q=p:=λq=>by
  rw[acQ,ep]
  simp
 lia
 simp only[Cm]
 lia
 refine ac (dn pn RK) ?_
 try lia
 rw[e1]
 refine ac (eq_str _ _) (ac rfl ?_)
 by_cases z:g p=g t.Bi
 ·rw[beq_iff_eq.mpr z,if_pos rfl]
  simp only[EU]
  lia
  refine ac (wE RK hp) ?_
  rw[fC (M:=rl ps g (g t.Bi) (g t.one) (i+1)) λq hq=>?_]
  exact k' _ ⟨_,rfl⟩
  unfold rl
  by_cases w:q=p
  ·rw[if_pos w,if_pos ⟨(e2 q).mpr (.inr w),by rw[w];exact z⟩]
  ·rw[if_neg w]
   refine ite_congr (propext ?_) (λ_=>rfl) (λ_=>rfl)
   rw[e2]
   exact⟨λu=>⟨.inl u.1,u.2⟩,λu=>⟨u.1.resolve_right w,u.2⟩⟩
 ·rw[beq_eq_false_iff_ne.mpr z,if_neg (by simp)]
  rw[fC (M:=rl ps g (g t.Bi) (g t.one) (i+1)) λq hq=>?_]
  exact k' _ ⟨_,rfl⟩
  unfold rl
  refine ite_congr (propext ?_) (λ_=>rfl) (λ_=>rfl)
  rw[e2]
  exact⟨λu=>⟨.inl u.1,u.2⟩,λu=>⟨u.1.resolve_right λw=>z (w ▸ u.2),u.2⟩⟩
theorem bQ{a b:PV}(h:a≠b):eqB a b=false:=by unfold eqB;simp[h]
theorem gD(a:PV):eqB a a=true:=by unfold eqB;simp
theorem xC(s t:Str):eqB (.str s) (.str t)=(s==t):=by
 by_cases e:s=t
 ·rw[e,gD];simp
 ·rw[bQ λz=>e (PV.str.inj z),beq_eq_false_iff_ne.mpr e]
theorem qu:∀{l' l:List PV},l'.length=l.length->eqB (.tup l') (.tup l)=((l'.zip l).map λp=>eqB p.1 p.2).all id
 |[],[],_=>gD _
 |[],_::_,h=>by cases h
 |_::_,[],h=>by cases h
 |a::l',b::l,h=>by
  have ih:=qu (l':=l') (l:=l) (by simpa using h)
  rw[ac8,aap,ae3,<- ih]
  show _=(eqB a b && eqB (.tup l') (.tup l))
  by_cases e:a=b
  ·subst e
   rw[gD,Bool.true_and]
   by_cases e2:l'=l
   ·subst e2;rw[gD,gD]
   ·rw[bQ λz=>e2 (by injection z with z;injection z),bQ λz=>e2 (by injection z)]
  ·rw[bQ λz=>e (by injection z with z;injection z),bQ e,aeL]
noncomputable def eqZ:PV->PV
 |.tup [x,y]=>.bl (eqB x y)
 |_=>.rW
theorem vQ(l' l:List PV):(DA l' l).map eqZ=((l'.zip l).map λp=>eqB p.1 p.2).map .bl:=by
 unfold DA
 rw[aaA,aaA];rfl
theorem fA{D:Fd}{d:Nat}(hD:∀a b,Th d a->Ts d b->∀P:PV->Prop,P (.bl (eqB a b))->D [a,b] P)(a b:PV)(ha:Th (d+1) a)(hb:Ts (d+1) b)(P:PV->Prop)(h:P (.bl (eqB a b))):Q.run 2 (cb D) [a,b] P:=by
 unfold cb
 rcases hb with ⟨s,rfl⟩|⟨l,rfl,hl,hy⟩
 ·refine ah λN hN=>aH λA1 B1 Bf AH=>?_
  lia
  subst AH
  show N _
  subst hN
  refine ah λN hN=>aH λA1 B1 Bf AH=>?_
  lia
  refine ac (z:=.bl false) rfl (ac (z:=false) rfl ?_)
  rw[if_neg (by simp)]
  subst AH
  show N _
  subst hN
  refine ah λN hN=>aH λA1 B1 Bf AH=>?_
  lia
  subst AH
  show N _
  subst hN
  refine ah λN hN=>aH λA1 B1 Bf AH=>?_
  lia
  subst Bf
  cases a with
  |str s'=>
   lia
   exact ac (z:=.bl (s'==s)) (eq_str _ _) (by rw[<- xC];exact h)
  |set _=>exact ha.elim
  |BH _=>exact ha.elim
  |_=>
   rw[bQ λz=>by cases z]at h
   lia
   exact h
 ·refine ah λN hN=>aH λA1 B1 Bf AH=>?_
  lia
  subst Bf
  refine ah λN2 NM=>aH λA2 B2 OQ OP=>?_
  cases a with
  |tup l'=>
   obtain⟨FX,OH⟩:=ha
   lia
   refine ac (ne_int _ _) (ac rfl ?_)
   by_cases e:l'.length=l.length
   ·rw[decide_eq_true (by omega),abY,if_neg (by simp)]
    subst OP
    show N2 _
    subst NM
    lia
    simp only[iZ]
    lia
    refine be eqZ (λz hz R hR=>?_) (by unfold DA;rw[aad,adB,adA];omega) ?_
    ·obtain⟨⟨x,y⟩,hm,rfl⟩:=List.mem_map.mp hz
     obtain⟨m1,m2⟩:=aet hm
     exact⟨rfl,hD x y (OH x m1) (hy y m2) _ hR⟩
    rw[aaH,vQ]
    exact ac (fK _) (by rw[<- qu e];exact h)
   ·rw[decide_eq_false (by omega),ab0,if_pos rfl]
    subst OQ
    rw[bQ λz=>e (by injection z with z;rw[z])]at h
    exact h
  |set _=>exact ha.elim
  |BH _=>exact ha.elim
  |_=>
   rw[bQ λz=>by cases z]at h
   lia
   subst OQ
   exact h
theorem si(xs:List PV)(P:PV->Prop)(h:jc xs P):Q.run 2 (cb λ_ _=>False) xs P:=by
 obtain⟨a,b,rfl,ha,hb,h⟩:=h
 exact fA (d:=0) (λa b h=>h.elim) a b ha hb P h
theorem sh(xs:List PV)(P:PV->Prop)(h:jb xs P):Q.run 2 (cb jc) xs P:=by
 obtain⟨a,b,rfl,ha,hb,h⟩:=h
 exact fA (d:=1) (λa b h h' Q q=>⟨a,b,rfl,h,h',q⟩) a b ha hb P h
theorem sg(xs:List PV)(P:PV->Prop)(h:ja xs P):Q.run 2 (cb jb) xs P:=by
 obtain⟨a,b,rfl,ha,hb,h⟩:=h
 exact fA (d:=2) (λa b h h' Q q=>⟨a,b,rfl,h,h',q⟩) a b ha hb P h
theorem uB(xs:List PV)(P:PV->Prop)(h:kH xs P):Q.run 2 (cb ja) xs P:=by
 obtain⟨a,b,rfl,ha,hb,h⟩:=h
 exact fA (d:=3) (λa b h h' Q q=>⟨a,b,rfl,h,h',q⟩) a b ha hb P h
theorem hZ(ok:Bp ps ts):(zS ps ts).Pairwise Ai/\∀x∈zS ps ts,oR x:=by
 unfold zS
 split
 ·rename_i h
  obtain⟨vs,p1,p2,p3,p4⟩:=aex h
  refine⟨p4,λx hx=>?_⟩
  obtain⟨l,s1,s2⟩:=nS vs (id,[])
  have Js:=p3.mem_iff.mp hx
  have e:(wr vs).2=l:=by unfold wr;rw[s2];rfl
  rw[e]at Js
  obtain⟨t,ht,rfl⟩:=List.mem_map.mp (s1.subset Js)
  exact(ok.tie t (List.mem_filter.mp (p1.mem_iff.mp ht)).1).nm
 ·exact⟨adX,λx hx=>by cases hx⟩
theorem kK(h:ws.Pairwise Ai)(hw:∀x∈ws,oR x):Co (.tup (ws.map .str))=true:=by
 show ((ws.map PV.str).all B9 && Ft ((ws.map PV.str).filterMap Bo))=true
 rw[t6,ub h,Bool.and_true,abW]
 intro y hy
 obtain⟨x,hx,rfl⟩:=List.mem_map.mp hy
 exact A7.mpr (hw x hx)
theorem nT{x:PV}(h:Co x=true)(ht:Th 3 x):Tr 2 x:=by
 cases x with
 |tup ys=>
  have h:(ys.all B9 && Ft (ys.filterMap Bo))=true:=h
  rw[aaT,abW]at h
  refine .inr (.inr ⟨ys,rfl,ht.1,λy hy=>?_⟩)
  have:=h.1 y hy
  cases y with
  |str s=>exact .inl ⟨s,rfl⟩
  |_=>cases this
 |_=>cases h
theorem nX{d:Nat}{x:PV}(h:Th (d+1) x):IG x:=by
 cases x with
 |tup l=>
  refine⟨h.1,λy hy=>?_⟩
  have:=h.2 y hy
  cases d with
  |zero=>exact this.elim
  |succ d=>
   cases y with
   |str s=>exact this
   |set _=>exact this.elim
   |BH _=>exact this.elim
   |_=>trivial
 |str s=>exact h
 |set _=>exact h.elim
 |BH _=>exact h.elim
 |_=>trivial
theorem zD{x y:PV}(hx:Tr 3 x)(hy:Tr 3 y):Ag x y=some (.bl (eqB x y)):=by
 have h1:=NS (d:=3) (by omega) hx
 obtain⟨b,e1,e2⟩:=vP 60 _ _ h1 (NS (d:=3) (by omega) hy)
 unfold Ag
 rw[e1]
 by_cases e:x=y
 ·subst e
  rw[lF 60 x h1]at e1
  cases e1
  rw[gD];rfl
 ·rw[bQ e]
  cases b with
  |true=>exact absurd (e2 rfl) e
  |false=>rfl
theorem iO(T:Addr)(c:PV)(xs:List PV)(P:PV->PV->Prop)(h:cg T c xs P):Q.DC 3 (ca T) c xs P:=by
 obtain⟨rfl,ps,ts,d,a,rfl,S,hd,S2,ha,h⟩:=h
 have l1:=bS ps ts (aV S.ok)
 have l2:=bS (AA ps d) (Ar ts d) (aV S2.ok)
 have:=S.tl
 have:=S2.tl
 obtain⟨c1,c2⟩:=hZ S.ok
 obtain⟨d1,d2⟩:=hZ S2.ok
 have w1:Co (.tup (((zS ps ts).filter λa=>!decide (a∈zS (AA ps d) (Ar ts d))).map .str))=true:=kK (c1.sublist abB) λx hx=>c2 x (List.mem_filter.mp hx).1
 have w2:Co (.tup (((zS (AA ps d) (Ar ts d)).filter λa=>!decide (a∈zS ps ts)).map .str))=true:=kK (d1.sublist abB) λx hx=>d2 x (List.mem_filter.mp hx).1
 have tb:=xZ (as:=zS ps ts) (bs:=zS (AA ps d) (Ar ts d)) (by omega) (by omega)
 unfold ca
 simp only[DC,GG,HA]
 refine ah λN hN=>aH λA1 B1 Bf AH=>?_
 cases a with
 |tup l=>
  obtain⟨hl,hy⟩:=ha
  lia
  refine ac (ne_int _ _) (ac rfl ?_)
  by_cases e:l.length=2
  ·rw[decide_eq_true (by omega),abY,if_neg (by simp)]
   obtain⟨x,y,rfl⟩:∃x y,l=[x,y]:=by
    match l,e with
    |[x,y],_=>exact⟨x,y,rfl⟩
   have tx:=hy x (by simp)
   have ty:=hy y (by simp)
   refine ac (z:=x) (ai (j:=0) rfl) ?_
   try lia
   refine⟨x,rfl,nX tx,?_⟩
   cases wx:Co x with
   |false=>
    have ne:PV.tup [x,y]≠EJ (zS ps ts) (zS (AA ps d) (Ar ts d)):=λz=>by
     unfold EJ at z
     injection z with z
     injection z with z _
     rw[z,w1]at wx
     cases wx
    rw[bQ ne]at h
    refine ac (z:=false) rfl ?_
    rw[if_pos (by simp)]
    subst Bf
    exact h
   |true=>
    refine ac (z:=true) rfl ?_
    rw[if_neg (by simp)]
    refine ac (z:=y) (ai (j:=1) rfl) ?_
    try lia
    refine⟨y,rfl,nX ty,?_⟩
    cases wy:Co y with
    |false=>
     have ne:PV.tup [x,y]≠EJ (zS ps ts) (zS (AA ps d) (Ar ts d)):=λz=>by
      unfold EJ at z
      injection z with z
      injection z with _ z
      injection z with z _
      rw[z,w2]at wy
      cases wy
     rw[bQ ne]at h
     refine ac (z:=false) rfl ?_
     rw[if_pos (by simp)]
     subst Bf
     exact h
    |true=>
     refine ac (z:=true) rfl ?_
     rw[if_neg (by simp)]
     subst AH
     show N _
     subst hN
     lia
     simp only[BD]
     lia
     refine⟨rfl,ps,ts,d,rfl,S,hd,S2,?_⟩
     try lia
     refine ac (zD (.inr (.inr ⟨_,rfl,by simp,λz hz=>?_⟩)) tb) ?_
     ·simp only[aa5,aaQ,or_false]at hz
      rcases hz with rfl|rfl
      ·exact nT wx tx
      ·exact nT wy ty
     ·exact h
  ·rw[decide_eq_false (by omega),ab0,if_pos rfl]
   subst Bf
   rw[bQ λz=>e (by unfold EJ at z;injection z with z;rw[z];rfl)]at h
   exact h
 |set _=>exact ha.elim
 |BH _=>exact ha.elim
 |_=>
  rw[bQ λz=>by unfold EJ at z;cases z]at h
  lia
  subst Bf
  exact h
def SL(a:List Str):Prop:=a.length<=200/\∀x∈a,x.length<=8
theorem SL.app{b:List Str}(ha:SL a)(hb:SL b)(h:a.length+b.length<=200):SL (a++b) :=
 ⟨by rw[aat];exact h,λx hx=>(List.mem_append.mp hx).elim (ha.2 x) (hb.2 x)⟩
theorem SL.sub{b:List Str}(ha:SL a)(h:b.length<=a.length)(k:∀x∈b,x∈a):SL b:=⟨aa2 h ha.1,λx hx=>ha.2 x (k x hx)⟩
theorem bB(d:Nat)(h:SL a):Th (d+2) (.tup (a.map .str)):=⟨by rw[aad];have:=h.1;omega,λy hy=>by
 obtain⟨x,hx,rfl⟩:=List.mem_map.mp hy
 have:=h.2 x hx
 show x.length<=1000
 omega⟩
theorem ce{d:Nat}{x y:PV}(hx:Th d x)(hy:Th d y):Th (d+1) (.tup [x,y]):=⟨by simp,λz hz=>by
 simp only[aa5,aaQ,or_false]at hz
 rcases hz with rfl|rfl
 ·exact hx
 ·exact hy⟩
theorem ga{d:Nat}{x:PV}(hx:Th d x):Th (d+1) (.tup [x]):=⟨by simp,λz hz=>by
 rw[List.mem_singleton.mp hz];exact hx⟩
theorem kO(d:Nat):Th (d+1) (.tup []):=⟨by simp,λz hz=>by cases hz⟩
theorem eh{b:List Str}(h:a.length+b.length<=100000):zR (.tup (a.map .str)) (.tup (b.map .str))=some (.tup ((a++b).map .str)):=by
 show (if (a.map PV.str).length+(b.map PV.str).length<=100000 then some (PV.tup (a.map .str++b.map .str))else none)=_
 rw[aad,aad,if_pos h,aaU]
theorem je{m:Str}(h:a.length<=200):zR (.tup (a.map .str)) (.tup [.str m])=some (.tup ((a++[m]).map .str)):=eh (b:=[m]) (by simp;omega)
theorem kN{a b:List PV}(h:a.length+b.length<=100000):zR (.lst a) (.lst b)=some (.lst (a++b)):=if_pos h
theorem rM(a:List Str):Fu (.tup (a.map .str))=some (.tup (a.reverse.map .str)):=by
 show some (PV.tup (a.map PV.str).reverse)=_
 rw[List.map_reverse]
theorem eD(h:oR x):x.length<=8:=by
 have:=h.hi
 have e:x.length=x.cps.toList.length:=by simp[adh]
 omega
theorem g8{g:Array Nat}(hg:g.size=0):∀(l:List Str) (acc:Array Nat),(∀x∈l,x.length<=8)->(l.foldl (λacc p=>acc++g++p.cps) acc).size<=acc.size+8*l.length
 |[],acc,_=>by simp
 |x::l,acc,h=>by
  have hx:=h x aay
  have ex:x.length=x.cps.size:=by simp[adh]
  have ih:=g8 hg l (acc++g++x.cps) λy hy=>h y (aaw _ hy)
  rw[afk,afk,hg]at ih
  rw[abC,abA]
  omega
theorem uR{ss:List Str}(h:∀x∈ss,x.length<=8)(hl:ss.length<=60):(afA (aax "") ss).length<=1000:=by
 have e:(afA (aax "") ss).length=(afA (aax "") ss).cps.size:=by simp[adh]
 rw[e]
 show (afh (λacc p=>acc++(aax "").cps++p.cps) (ss.headD aeZ).cps (ss.drop 1)).size<=1000
 have:=g8 (g:=(aax "").cps) (by decide +kernel) (ss.drop 1) (ss.headD aeZ).cps λx hx=>h x (aeC hx)
 rw[afw]at this
 have h0:(ss.headD aeZ).cps.size<=8:=by
  cases ss with
  |nil=>decide +kernel
  |cons a l=>
   have:=h a aay
   have ex:a.length=a.cps.size:=by simp[adh]
   show a.cps.size<=8
   omega
 omega
theorem oW:∀(l:List Str) (n:Nat),(∀x∈l,x.length<=8)->l.foldl (λa x=>a+x.length+(aax "").length) n<=n+8*l.length
 |[],n,_=>by simp
 |x::l,n,h=>by
  have e0:(aax "").length=0:=by decide +kernel
  have hx:=h x aay
  have ih:=oW l (n+x.length+(aax "").length) λy hy=>h y (aaw _ hy)
  rw[abC,abA]
  omega
theorem xk{ss:List Str}(h:∀x∈ss,x.length<=8)(hl:ss.length<=60):JoinOk (aax "") ss=true:=by
 unfold JoinOk Builtin.Str.tooLong
 have:=oW ss 0 h
 rw[List.foldl_toArray,Bool.not_eq_true',decide_eq_false_iff_not,aaz]
 omega
def Rq(f:WE)(e:En):Prop:=∀P:PV->En->Prop,(∀x,Th 4 x->P x e)->f e P
def Oc(fa:WA)(e:En)(n:Nat):Prop:=∀P:List PV->En->Prop,(∀xs,(∀y∈xs,Th 4 y)->xs.length=n->P xs e)->fa e P
theorem jn:Oc bY e 0:=λP h=>h [] (by simp) rfl
variable{fa:WA}
theorem aL{f:WE}(h:Rq f e)(k:Oc fa e n):Oc (aS f fa) e (n+1):=λP g=>h _ λx hx=>k _ λxs TC hn=>g (x::xs) (List.forall_mem_cons.mpr ⟨hx,TC⟩) (by simp[hn])
theorem wq{D:Wd}(hA:Oc fa e n)(g:∀zs:List PV,(∀y∈zs,Th 4 y)->zs.length=n->D.nx (e.set 7 (some ⟨0,.lst zs⟩))):Ad 7 (BK fa) D e:=hA _ λxs hx hn=>g xs hx hn
theorem gF{L:List PV}{P:PV->En->Prop}(h7:e[7]?=some (some ⟨0,.lst L⟩))(hL:∀y∈L,Th 4 y)(hk:L.length=k)(hn:k+n<=1000)(hA:Oc fa e n)(g:∀zs:List PV,(∀y∈zs,Th 4 y)->zs.length=k+n->P (.lst zs) e):iN zR (eV 7) (BK fa) e P:=by
 simp only[iN,eV,h7]
 refine hA _ λxs hx hl=>?_
 refine ac (kN (by omega)) (g _ (λy hy=>(List.mem_append.mp hy).elim (hL y) (hx y)) (by rw[aat];omega))
theorem o7(a:List Str):Br (a.map PV.str) (some 1) none=(a.drop 1).map .str:=by rw[show (1:Int)=((1:Nat):Int)from rfl,dN,List.map_drop]
theorem tL(a:List Str):Br (a.map PV.str) none (some 1)=(a.take 1).map .str:=by rw[show (1:Int)=((1:Nat):Int)from rfl,cO,ad9]
theorem F8{b:List Str}(ha:SL a)(hb:SL b):Th 4 (.tup [.tup (a.map .str),.tup (b.map .str)]):=ce (bB 1 ha) (bB 1 hb)
theorem qR(c:PV)(xs:List PV)(P:PV->PV->Prop)(h:ic c xs P):Q.DX 8 gK c xs P:=by
 obtain⟨rfl,ps,ts,as,bs,rfl,ok,ht,la,lb,wa,wb,h⟩:=h
 have sa:SL as:=⟨by omega,λx hx=>eD (wa x hx)⟩
 have sb:SL bs:=⟨by omega,λx hx=>eD (wb x hx)⟩
 unfold gK
 refine ah λN hN=>?_
 lia
 show N [some ⟨2,.rW⟩,some ⟨0,lT ps ts⟩,some ⟨0,.tup [.tup (as.map .str),.tup (bs.map .str)]⟩,some ⟨0,.tup (as.map .str)⟩,some ⟨0,.tup (bs.map .str)⟩,none,none,none]
 subst hN
 generalize PV.tup [.tup (as.map .str),.tup (bs.map .str)]=LQ
 refine ah λN hN=>?_
 simp only[Ad,iN,BQ]
 lia
 refine ac (CY ps ts) ?_
 lia
 refine be (λz=>match z with|.tup (.str q::_)=>.str q|_=>.rW) (λz hz R hR=>?_) (by simp;omega) ?_
 ·obtain⟨t,ht,rfl⟩:=List.mem_map.mp hz
  exact ac (z:=.str t.nm) (ai (j:=0) rfl) hR
 rw[aaH]
 have en:(ts.map gE).map (λz=>match z with|.tup (.str q::_)=>PV.str q|_=>.rW)=(ts.map zQ.nm).map .str:=by
  rw[aaA,aaA];rfl
 rw[en]
 try lia
 refine ac (jp (b:=[aax "zz"]) (by rw[aad];simp;omega)) ?_
 show N [some ⟨2,.rW⟩,some ⟨0,lT ps ts⟩,some ⟨0,LQ⟩,some ⟨0,.tup (as.map .str)⟩,some ⟨0,.tup (bs.map .str)⟩,some ⟨0,.lst ((ts.map zQ.nm++[aax "zz"]).map .str)⟩,none,none]
 subst hN
 have nl:(ts.map zQ.nm++[aax "zz"]).length<=61:=by rw[aat,aad];simp;omega
 have nw:∀x∈ts.map zQ.nm++[aax "zz"],x.length<=8:=λx hx=>by
  rcases List.mem_append.mp hx with z|z
  ·obtain⟨t,ht,rfl⟩:=List.mem_map.mp z
   exact eD (ok.tie t ht).nm
  ·rw[List.mem_singleton.mp z];decide +kernel
 have ne:ts.map zQ.nm++[aax "zz"]≠[]:=by simp
 generalize ts.map zQ.nm++[aax "zz"]=names at nl nw ne ⊢
 refine ah λN hN=>?_
 lia
 refine⟨rfl,_,.inl rfl,by simpa using ne,by rw[aad];omega,λw hw=>?_⟩
 obtain⟨m,hm,rfl⟩:=List.mem_map.mp hw
 have sm:SL [m]:=⟨by simp,λx hx=>by rw[List.mem_singleton.mp hx];exact nw m hm⟩
 try lia
 show N [some ⟨2,.rW⟩,some ⟨0,lT ps ts⟩,some ⟨0,LQ⟩,some ⟨0,.tup (as.map .str)⟩,some ⟨0,.tup (bs.map .str)⟩,some ⟨0,.lst (names.map .str)⟩,some ⟨0,.str m⟩,none]
 subst hN
 have am:=sa.app sm (by simp;omega)
 have bm:=sb.app sm (by simp;omega)
 have ad:SL (as.drop 1):=sa.sub (by simp) λx hx=>aeC hx
 have bd:SL (bs.drop 1):=sb.sub (by simp) λx hx=>aeC hx
 have JH:SL (as.take 1):=sa.sub (by simp;omega) λx hx=>acO hx
 have Vk:SL (bs.take 1):=sb.sub (by simp;omega) λx hx=>acO hx
 have tl1:(as.take 1).length<=1:=by simp;omega
 have Vt:(bs.take 1).length<=1:=by simp;omega
 have sn:SL []:=⟨by simp,λx hx=>by cases hx⟩
 have ab:=sa.app sb (by omega)
 have ar:SL as.reverse:=sa.sub (by simp) λx hx=>List.mem_reverse.mp hx
 have br:SL bs.reverse:=sb.sub (by simp) λx hx=>List.mem_reverse.mp hx
 refine ah λN hN=>wq (aL (λP k=>?_) (aL (λP k=>?_) (aL (λP k=>?_) (aL (λP k=>?_) (aL (λP k=>?_) jn))))) λL1 h1 n1=>?_
 ·lia
  exact ac (je (by omega)) (k _ (F8 am sb))
 ·lia
  exact ac (je (by omega)) (k _ (F8 sa bm))
 ·lia
  rw[o7]
  exact k _ (F8 ad sb)
 ·lia
  rw[o7]
  exact k _ (F8 sa bd)
 ·lia
  exact k _ (F8 sb sa)
 show N [some ⟨2,.rW⟩,some ⟨0,lT ps ts⟩,some ⟨0,LQ⟩,some ⟨0,.tup (as.map .str)⟩,some ⟨0,.tup (bs.map .str)⟩,some ⟨0,.lst (names.map .str)⟩,some ⟨0,.str m⟩,some ⟨0,.lst L1⟩]
 subst hN
 refine ah λN hN=>gF rfl h1 n1 (by omega) (aL (λP k=>?_) (aL (λP k=>?_) (aL (λP k=>?_) (aL (λP k=>?_) jn)))) λL1 h1 n1=>?_
 ·lia
  rw[tL]
  exact ac (eh (by omega)) (k _ (F8 (sa.app JH (by omega)) sb))
 ·lia
  rw[tL]
  exact ac (eh (by omega)) (k _ (F8 sa (Vk.app sb (by omega))))
 ·lia
  exact ac (rM _) (k _ (F8 ar sb))
 ·lia
  exact ac (rM _) (k _ (F8 sa br))
 show N [some ⟨2,.rW⟩,some ⟨0,lT ps ts⟩,some ⟨0,LQ⟩,some ⟨0,.tup (as.map .str)⟩,some ⟨0,.tup (bs.map .str)⟩,some ⟨0,.lst (names.map .str)⟩,some ⟨0,.str m⟩,some ⟨0,.lst L1⟩]
 subst hN
 refine ah λN hN=>gF rfl h1 n1 (by omega) (aL (λP k=>?_) (aL (λP k=>?_) (aL (λP k=>?_) (aL (λP k=>?_) jn)))) λL1 h1 n1=>?_
 ·lia
  exact k _ (F8 sn sn)
 ·lia
  exact ac (eh (by omega)) (k _ (F8 ab sn))
 ·lia
  exact ac (eh (by omega)) (k _ (F8 sn ab))
 ·simp only[zN,aS,AJ,B8]
  lia
  refine ac (je (by omega)) ⟨as++[m],cI _,by rw[aat];simp;omega,λgs up=>ac rfl (k _ (F8 (am.sub (by rw[up.1.length_eq];exact aak _) λx hx=>up.1.mem_iff.mp hx) sb))⟩
 show N [some ⟨2,.rW⟩,some ⟨0,lT ps ts⟩,some ⟨0,LQ⟩,some ⟨0,.tup (as.map .str)⟩,some ⟨0,.tup (bs.map .str)⟩,some ⟨0,.lst (names.map .str)⟩,some ⟨0,.str m⟩,some ⟨0,.lst L1⟩]
 subst hN
 refine ah λN hN=>gF rfl h1 n1 (by omega) (aL (λP k=>?_) (aL (λP k=>?_) (aL (λP k=>?_) (aL (λP k=>?_) jn)))) λL1 h1 n1=>?_
 ·simp only[zN,aS,AJ,B8]
  lia
  refine ac (je (by omega)) ⟨bs++[m],cI _,by rw[aat];simp;omega,λgs up=>ac rfl (k _ (F8 sa (bm.sub (by rw[up.1.length_eq];exact aak _) λx hx=>up.1.mem_iff.mp hx)))⟩
 ·lia
  exact ac rfl (k _ (ce trivial (bB 1 sb)))
 ·lia
  exact ac rfl (k _ (ce (bB 1 sa) trivial))
 ·lia
  exact k _ trivial
 show N [some ⟨2,.rW⟩,some ⟨0,lT ps ts⟩,some ⟨0,LQ⟩,some ⟨0,.tup (as.map .str)⟩,some ⟨0,.tup (bs.map .str)⟩,some ⟨0,.lst (names.map .str)⟩,some ⟨0,.str m⟩,some ⟨0,.lst L1⟩]
 subst hN
 have SY:Th 4 (.tup [.tup (as.map .str),.tup (bs.map .str),.tup []]):=⟨by simp,λz hz=>by
  simp only[aa5,aaQ,or_false]at hz
  rcases hz with rfl|rfl|rfl
  ·exact bB 1 sa
  ·exact bB 1 sb
  ·exact kO 2⟩
 refine ah λN hN=>gF rfl h1 n1 (by omega) (aL (λP k=>?_) (aL (λP k=>?_) (aL (λP k=>?_) (aL (λP k=>?_) (aL (λP k=>?_) (aL (λP k=>?_) (aL (λP k=>?_) (aL (λP k=>?_) (aL (λP k=>?_) (aL (λP k=>?_) jn)))))))))) λL1 h1 n1=>?_
 ·lia
  exact k _ SY
 ·lia
  exact k _ (ga (bB 1 sa))
 ·lia
  exact ac (eh (by omega)) (k _ (bB 2 ab))
 ·exact k _ trivial
 ·exact k _ trivial
 ·exact k _ trivial
 ·exact k _ (show (aax "").length<=1000 by decide +kernel)
 ·exact k _ trivial
 ·lia
  exact k _ (ce (d:=3) trivial trivial)
 ·lia
  exact k _ (ce (bB 1 sa) trivial)
 show N [some ⟨2,.rW⟩,some ⟨0,lT ps ts⟩,some ⟨0,LQ⟩,some ⟨0,.tup (as.map .str)⟩,some ⟨0,.tup (bs.map .str)⟩,some ⟨0,.lst (names.map .str)⟩,some ⟨0,.str m⟩,some ⟨0,.lst L1⟩]
 subst hN
 refine gF rfl h1 n1 (by omega) (aL (λP k=>?_) (aL (λP k=>?_) (aL (λP k=>?_) (aL (λP k=>?_) (aL (λP k=>?_) (aL (λP k=>?_) jn)))))) λL1 h1 n1=>?_
 ·simp only[zN,aS,GK]
  lia
  exact⟨as,cI _,xk sa.2 la,k _ (ce (d:=3) (uR sa.2 la) (bB 1 sb))⟩
 ·lia
  exact k _ (ce (ga (bB 0 sa)) (bB 1 sb))
 ·lia
  exact k _ (ce (bB 1 sa) (ga (bB 0 sb)))
 ·lia
  exact k _ (ce (ga (d:=2) trivial) (kO 2))
 ·lia
  exact k _ (ce (kO 2) (ga (d:=2) trivial))
 ·lia
  exact k _ (ce (ga (d:=2) trivial) (kO 2))
 exact h L1 h1 (by omega)
theorem zA(b:Bool):B7 (.bl b) (.bl b)=some (.bl false):=by cases b<;>rfl
theorem wN(T:Addr)(ns:List Int)(x:PV)(hn:ns.length<=63)(hx:x=.BH ns\/x=.lst (ns.map .int)):Q.DC 9 (jd T) (BI T) [x] λr c=>r=.bl true/\c=BI T:=by
 unfold jd
 simp only[DC,GG,HA]
 refine ah λN hN=>?_
 show Q.BO 1 0 _ [some ⟨0,x⟩,none,none,none,none,none,none,none,none,some ⟨2,BI T⟩]
 refine⟨⟨ns,hx,hn⟩,?_⟩
 show N [some ⟨0,x⟩,some ⟨4,.rW⟩,none,none,none,none,none,none,none,some ⟨2,BI T⟩]
 subst hN
 obtain⟨zs,ez,lz⟩:=wt 9 hx
 refine ah λN hN=>cM λG B hG hB=>?_
 simp only[Lk,aS,bY,iN,eC,AJ,Fb,eV,Bc,AY,Ii,dl,acs]
 refine ac ez ?_
 lia
 refine ac (z:=.int (2+(zs.length:Int))) rfl ?_
 refine⟨by omega,by omega,?_⟩
 generalize DD 0 _=rs
 subst hG hB
 refine bO (λj e=>∃v2 v3 v4 v5 v6 v7 v8:Option Sl,e=[some ⟨0,x⟩,some ⟨4,.rW⟩,v2,v3,v4,v5,v6,v7,v8,some ⟨2,BI T⟩]) (i:=0) ⟨none,none,none,none,none,none,none,rfl⟩ ?_ ?_
 case refine_2=>
  rintro e ⟨v2,v3,v4,v5,v6,v7,v8,rfl⟩
  show N _
  subst hN
  exact⟨rfl,rfl⟩
 rintro j y e M hy ⟨v2,v3,v4,v5,v6,v7,v8,rfl⟩ k
 show oF _ _ _ [some ⟨0,x⟩,some ⟨4,.rW⟩,some ⟨0,y⟩,v3,v4,v5,v6,v7,v8,some ⟨2,BI T⟩]
 refine ah λN hN=>?_
 lia
 refine⟨rfl,11,29,rfl,by decide,by decide,by decide,by decide,λps ts ok hp ht=>?_⟩
 lia
 show N [some ⟨0,x⟩,some ⟨4,.rW⟩,some ⟨0,y⟩,some ⟨0,lT ps ts⟩,v4,v5,v6,v7,v8,some ⟨2,BI T⟩]
 subst hN
 refine cM λG B hG hB=>?_
 lia
 try refine⟨by omega,by omega,?_⟩
 generalize DD 0 _=rs2
 subst hG hB
 refine bO (λj e=>∃(ps:List Str) (ts:List zQ) (v4 v5 v6 v7 v8:Option Sl),e=[some ⟨0,x⟩,some ⟨4,.rW⟩,some ⟨0,y⟩,some ⟨0,lT ps ts⟩,v4,v5,v6,v7,v8,some ⟨2,BI T⟩] /\
  Bp ps ts/\ps.length<=12/\ts.length<=30) (i:=0) ⟨ps,ts,v4,v5,v6,v7,v8,rfl,ok,by omega,by omega⟩ ?_ ?_
 case refine_2=>
  rintro e ⟨ps,ts,v4,v5,v6,v7,v8,rfl,_,_,_⟩
  exact k _ ⟨_,_,_,_,_,_,_,rfl⟩
 rintro j z e M2 hz ⟨ps,ts,v4,v5,v6,v7,v8,rfl,ok,hp,ht⟩ k2
 show oF _ _ _ [some ⟨0,x⟩,some ⟨4,.rW⟩,some ⟨0,y⟩,some ⟨0,lT ps ts⟩,some ⟨0,z⟩,v5,v6,v7,v8,some ⟨2,BI T⟩]
 refine ah λN hN=>?_
 lia
 refine⟨rfl,ps,ts,rfl,ok,hp,ht,λd hd c1 c2=>?_⟩
 lia
 show N [some ⟨0,x⟩,some ⟨4,.rW⟩,some ⟨0,y⟩,some ⟨0,lT ps ts⟩,some ⟨0,z⟩,some ⟨0,Ac d⟩,v6,v7,v8,some ⟨2,BI T⟩]
 subst hN
 have S:CU ps ts:=⟨ok,by omega,by omega⟩
 have S2:=zI ok hd hp ht
 refine ah λN hN=>?_
 lia
 refine⟨ps,ts,d,rfl,S,hd,S2,?_⟩
 show N [some ⟨0,x⟩,some ⟨4,.rW⟩,some ⟨0,y⟩,some ⟨0,lT ps ts⟩,some ⟨0,z⟩,some ⟨0,Ac d⟩,some ⟨0,EJ (zS ps ts) (zS (AA ps d) (Ar ts d))⟩,v7,v8,some ⟨2,BI T⟩]
 subst hN
 have l1:=bS ps ts (aV S.ok)
 have l2:=bS (AA ps d) (Ar ts d) (aV S2.ok)
 have:=S2.tl
 obtain⟨e1,e2⟩:=hZ S.ok
 obtain⟨f1,f2⟩:=hZ S2.ok
 have lf:=λ(as bs:List Str)=>aaS (λa=>!decide (a∈bs)) as
 have g1:=lf (zS ps ts) (zS (AA ps d) (Ar ts d))
 have g2:=lf (zS (AA ps d) (Ar ts d)) (zS ps ts)
 have w1:∀x∈(zS ps ts).filter (λa=>!decide (a∈zS (AA ps d) (Ar ts d))),oR x:=λx hx=>e2 x (List.mem_filter.mp hx).1
 have w2:∀x∈(zS (AA ps d) (Ar ts d)).filter (λa=>!decide (a∈zS ps ts)),oR x:=λx hx=>f2 x (List.mem_filter.mp hx).1
 have JP:∀as:List Str,as.length<=60->Ts 3 (.tup (as.map .str)):=λas h=>.inr ⟨_,rfl,by rw[aad];omega,λy hy=>by
  obtain⟨s,_,rfl⟩:=List.mem_map.mp hy
  exact .inl ⟨s,rfl⟩⟩
 have td:Ts 4 (EJ (zS ps ts) (zS (AA ps d) (Ar ts d))):=.inr ⟨_,rfl,by simp,λy hy=>by
  simp only[aa5,aaQ,or_false]at hy
  rcases hy with rfl|rfl
  ·exact JP _ (by omega)
  ·exact JP _ (by omega)⟩
 have SX:Th 4 (EJ (zS ps ts) (zS (AA ps d) (Ar ts d))):=F8 ⟨by omega,λx hx=>eD (w1 x hx)⟩ ⟨by omega,λx hx=>eD (w2 x hx)⟩
 refine ah λN hN=>cM λG B hG hB=>?_
 lia
 refine⟨rfl,ps,ts,_,_,rfl,ok,by omega,by omega,by omega,w1,w2,λys TB ly=>?_⟩
 try lia
 refine ac (kN (by simp;omega)) ?_
 try lia
 have hz:∀q∈EJ (zS ps ts) (zS (AA ps d) (Ar ts d))::ys,Th 4 q:=List.forall_mem_cons.mpr ⟨SX,TB⟩
 generalize EJ (zS ps ts) (zS (AA ps d) (Ar ts d))::ys=qs at hz ⊢
 subst hG hB
 refine bO (λj e=>∃v7 v8:Option Sl,e=[some ⟨0,x⟩,some ⟨4,.rW⟩,some ⟨0,y⟩,some ⟨0,lT ps ts⟩,some ⟨0,z⟩,some ⟨0,Ac d⟩,some ⟨0,EJ (zS ps ts) (zS (AA ps d) (Ar ts d))⟩,v7,v8,some ⟨2,BI T⟩]) (i:=0) ⟨_,_,rfl⟩ ?_ ?_
 case refine_2=>
  rintro e ⟨v7,v8,rfl⟩
  show N _
  subst hN
  lia
  refine⟨ps,ts,d,rfl,S,hd,?_⟩
  exact k2 _ ⟨_,_,_,_,_,_,_,rfl,S2.ok,c1,c2⟩
 rintro i q e M3 hq ⟨v7,v8,rfl⟩ k3
 have tq:=hz q (abh hq)
 show oF _ _ _ [some ⟨0,x⟩,some ⟨4,.rW⟩,some ⟨0,y⟩,some ⟨0,lT ps ts⟩,some ⟨0,z⟩,some ⟨0,Ac d⟩,some ⟨0,EJ (zS ps ts) (zS (AA ps d) (Ar ts d))⟩,some ⟨0,q⟩,v8,some ⟨2,BI T⟩]
 refine ah λN hN=>?_
 lia
 simp only[BD]
 lia
 refine⟨rfl,ps,ts,d,q,rfl,S,hd,S2,tq,?_⟩
 try lia
 show N [some ⟨0,x⟩,some ⟨4,.rW⟩,some ⟨0,y⟩,some ⟨0,lT ps ts⟩,some ⟨0,z⟩,some ⟨0,Ac d⟩,some ⟨0,EJ (zS ps ts) (zS (AA ps d) (Ar ts d))⟩,some ⟨0,q⟩,some ⟨0,.bl (eqB q (EJ (zS ps ts) (zS (AA ps d) (Ar ts d))))⟩,some ⟨2,BI T⟩]
 subst hN
 refine aH λA1 B1 Bf AH=>?_
 lia
 refine⟨q,_,rfl,tq,td,?_⟩
 refine ac (zA _) (ac rfl ?_)
 rw[if_neg (by simp)]
 subst AH
 exact k3 _ ⟨_,_,rfl⟩
variable{st:Stmt}
abbrev GQ(P:aaI)(w:World)(base:Heap)(d:Df K mg x st ps)(k:Nat)(D:Fd):Prop:=Ae P w K mg base Bn k d.f d.fd ps (Gc ⟨P,w,K,EX K⟩ ps.length D)
abbrev GO(P:aaI)(w:World)(base:Heap)(d:Df K mg x st ps)(k:Nat)(D:C4):Prop:=Ae P w K mg base Bn k d.f d.fd ps (IK ⟨P,w,K,EX K⟩ ps.length D)
abbrev GT(P:aaI)(w:World)(base:Heap)(d:Df K mg x st ps)(k:Nat)(D:C4):Prop:=Ae P w K mg base Bn k d.f d.fd ps (spT ⟨P,w,K,EX K⟩ ps.length D)
variable{ob:BG}{X:Cx}{k':Nat}{D:Fd}{DO:C4}{p p1 pos:Pos}{e a b:Expr}{es:List Expr}{f g:WE}
theorem aT(i:Nat)(hN:X.N[i]?=some x:=by rfl)(hv:GN X.env.scope x:=by first|exact Or.inl rfl|exact Or.inr (Or.inl rfl)|exact Or.inr (Or.inr rfl))(hd:(x==("__debug__" : Str))=false:=by decide)(hcd:(x==("__classdict__" : Str))=false:=by decide):
  Am ob X (.Name x pos) (eV i):=y8 i (pv i hN hv hd hcd)
theorem lE(i:Nat)(hN:X.N[i]?=some x:=by rfl)(hv:GN X.env.scope x:=by first|exact Or.inl rfl|exact Or.inr (Or.inl rfl)|exact Or.inr (Or.inr rfl))(hd:(x==("__debug__" : Str))=false:=by decide)(hcd:(x==("__classdict__" : Str))=false:=by decide):
  DQ ob X (.Name x pos) (An i):=xu i (pv i hN hv hd hcd)
theorem Aq{d:Df X.K X.mg x st ps}(F:Ae X.prog X.w X.K X.mg X.base Bn k d.f d.fd ps (Gc (md ob X) n D))(hr:AB k' X.A)(ha:FQ ob X (e::es) fa)(hk:k<=k':=by decide)(hn:es.length+1=n:=by rfl)(hg:Gl X x:=by rfl)
  (C1:(x==("__debug__" : Str))=false:=by decide) (he:aam (e::es) X.env=(false,eval e X.env)::aam es X.env:=by rfl) (A5:(backTo pos (aam es X.env)).any (·.1)=false:=by rfl) :
  Am ob X (.Call (.Name x p) (e::es) [] pos) (Ak D fa):=qt F (hr.mono hk) d.n.mg d.n.kp d.b ha hn hg C1 he A5
theorem zM(i:Nat){d:Df X.K X.mg x st ps}(F:Ae X.prog X.w X.K X.mg X.base Bn k d.f d.fd ps (IK (md ob X) n DO))(hr:AB k' X.A)(ha:FQ ob X es fa)(ho:PE X (.Name y p1) (AR i):=by exact pv _)(hk:k<=k':=by decide)(hn:es.length+1=n:=by rfl)(hg:Gl X x:=by rfl)
  (C1:(x==("__debug__" : Str))=false:=by decide) (he:aam (.Name y p1::es) X.env=(false,eval (.Name y p1) X.env)::aam es X.env:=by rfl) (A5:(backTo pos (aam es X.env)).any (·.1)=false:=by rfl) :
  Am ob X (.Call (.Name x p) (.Name y p1::es) [] pos) (tO DO i fa):=vg i F (hr.mono hk) d.n.mg d.n.kp d.b ho ha hn hg C1 he A5
theorem D8(j:Nat){d:Df X.K X.mg x st ps}(F:Ae X.prog X.w X.K X.mg X.base Bn k d.f d.fd ps (spT (md ob X) n DO))(hr:AB k' X.A)(ha:FQ ob X (e::es) fa)(hk:k<=k':=by decide)(hn:es.length+1=n:=by rfl)(hg:Gl X x:=by rfl)
  (C1:(x==("__debug__" : Str))=false:=by decide) (he:aam (e::es) X.env=(false,eval e X.env)::aam es X.env:=by rfl) (A5:(backTo pos (aam es X.env)).any (·.1)=false:=by rfl) :
  Am ob X (.Call (.Name x p) (e::es) [] pos) (BD DO j fa):=ve j F (hr.mono hk) d.n.mg d.n.kp d.b ha hn hg C1 he A5
theorem Aj(hr:AB k X.A)(ha:Am ob X a f)(hb:DQ ob X b g)(hs:gG b:=by exact λ_ _=>rfl):Am ob X (.Subscript a b pos) (iN iF f g):=zC (Mb hr) ha hb hs
theorem FF(i:Nat)(hr:AB k X.A)(hb:DQ ob X b g)(ha:PE X (.Name x p) (AR i):=by exact pv _)(hs:gG b:=by exact λ_ _=>rfl):Am ob X (.Subscript (.Name x p) b pos) (Cm iF i g):=y9 i (Mb hr) ha hb hs
theorem DI{op:CmpOp}{r:R2}{o:PV->PV->Option PV}(hr:AK X (aaV op) r)(hq:Dr ob X r o)(ha:Am ob X a f)(hb:DQ ob X b g)(hm:acG op b=false:=by first|exact C9 _|rfl):Am ob X (.Compare a [op] [b] pos) (iN o f g):=za hr hq ha hb hm
theorem zU{op:CmpOp}{r:R2}{o:PV->PV->Option PV}(hr:AK X (aaV op) r)(hq:Dr ob X r o)(ha:Am ob X a f)(hb:DQ ob X b g)(hm:acG op b=false:=by first|exact C9 _|rfl):GR ob X (.Compare a [op] [b] pos) (zO (iN o f g)):=xA hr hq ha hb hm
theorem me:(["sign"]:List Str).Nodup:=by decide +kernel
theorem Pa:aB ["thing"] ["thing"] (au lQ):=⟨rfl,rfl,rfl,by decide +kernel,rfl,by decide +kernel,by decide +kernel⟩
theorem cw(Y:Ev K mg):GQ P w base Y.E6 1 bG :=
 aU (bi Y.E6.F Pa (by decide) (λAo A outer s H E hr=>by
  unfold fM
  exact(ag (aK (cr (cn (bJ (bp (nE (bI "str" (by decide) Y.zT Y.Hb aeq (lE 0))))) (dL (bJ (vh nO li nO li af (bf bz bA (by rfl) Y.A0 aa7 (bn (lE 0))) (xv (Y.Cz))))))) (ap (ay cz)) aF)
  (ap (ay (bf (ia rfl) lG (by rfl) Y.FL adm (BZ (aa (A3 (bj (N:=["sign"]) (T:=(.nm 0)) (js:=[none]) (zc (aT 0)) (λ_ _ _ _ _=>aG (i:=0) me rfl (Or.inl rfl)) (λ_ _ _ _ _=>bq) (λ_ _ _ _ _=>(vd nO li nO li bb (aT 0) bb)))) ae)))))))) pE
theorem Pc:aB ["thing"] ["thing"] (au j4):=⟨rfl,rfl,rfl,by decide +kernel,rfl,by decide +kernel,by decide +kernel⟩
theorem iU(Y:Ev K mg):GQ P w base Y.Ea 1 da :=
 aU (bi Y.Ea.F Pc (by decide) (λAo A outer s H E hr=>by
  unfold eG
  exact(ap (ay (cX (bI "int" (by decide) Y.zT Y.IE PyProof.Rows.boot_int (lE 0)) (dJ (tw (bI "bool" (by decide) Y.zT Y.Dn acA (lE 0))))))))) ol
theorem eZ:(["low", "high"]:List Str).Nodup:=by decide +kernel
theorem SD:aB ["words"] ["words"] (au iB):=⟨rfl,rfl,rfl,by decide +kernel,rfl,by decide +kernel,by decide +kernel⟩
theorem nK(Y:Ev K mg):GQ P w base Y.Dd 1 ed :=
 aU (bi Y.Dd.F SD (by decide) (λAo A outer s H E hr=>by
  unfold dU
  exact(ap (ay (bf (ia rfl) lG (by rfl) Y.FL adm (BZ (aa (A3 (bj (N:=["low", "high"]) (T:=(.tp [0,1])) (js:=[none,none]) (tD (by rfl) Y.ID (aa (aT 0) (aa (bX (aT 0) (bh (nE af)) bC) ae))) (λ_ _ _ _ _=>kZ (n:=2) rfl (cG (aG (i:=0) eZ rfl (Or.inl rfl)) (cG (aG (i:=1) eZ rfl (Or.inl rfl)) jg))) (λ_ _ _ _ _=>bq) (λ_ _ _ _ _=>(DI ji gh (aT 0) (lE 1))))) ae))))))) nF
theorem kw:(["part"]:List Str).Nodup:=by decide +kernel
theorem Pg:aB ["thing"] ["thing"] (au iH):=⟨rfl,rfl,rfl,by decide +kernel,rfl,by decide +kernel,by decide +kernel⟩
theorem ig(Y:Ev K mg):GQ P w base Y.Di 2 cC :=
 aU (bi Y.Di.F Pg (by decide) (λAo A outer s H E hr=>by
  unfold dW
  exact(ag (aK (cr (cn (bJ (bp (nE (bI "tuple" (by decide) Y.zT Y.Ab aas (lE 0))))) (dL (bJ (bp (nE (bf (ia rfl) lG (by rfl) Y.FL adm (BZ (aa (A3 (bj (N:=["part"]) (T:=(.nm 0)) (js:=[none]) (aP (aT 0)) (λ_ _ _ _ _=>aG (i:=0) kw rfl (Or.inl rfl)) (λ_ _ _ _ _=>bq) (λ_ _ _ _ _=>(Aq (cw Y) hr (aa (aT 0) ae))))) ae))))))))) (ap (ay cz)) aF)
  (ap (ay (Aq (nK Y) hr (aa (aT 0) ae))))))) nG
theorem Pb:aB ["net", "tie"] ["net", "tie"] (au lR):=⟨rfl,rfl,rfl,by decide +kernel,rfl,by decide +kernel,by decide +kernel⟩
theorem pO(Y:Ev K mg):GQ P w base Y.E7 1 fY :=
 aU (bi Y.E7.F Pb (by decide) (λAo A outer s H E hr=>by
  unfold fN
  exact(ap (ay (cX (DI (dE (Cj hr)) dC (Aj hr (aT 1) (nE af)) (nE (Aj hr (aT 0) (nE af)))) (dJ (DI (dE (Cj hr)) dC (Aj hr (aT 1) (nE af)) (nE (Aj hr (aT 0) (nE af)))))))))) pF
theorem dg:(["tie"]:List Str).Nodup:=by decide +kernel
theorem SE:aB ["net"] ["net"] (au fU):=⟨rfl,rfl,rfl,by decide +kernel,rfl,by decide +kernel,by decide +kernel⟩
theorem bW(Y:Ev K mg):GQ P w base Y.Cw 1 bw :=
 aU (bi Y.Cw.F SE (by decide) (λAo A outer s H E hr=>by
  unfold cD
  exact(ap (ay (A3 (vO (N:=["tie"]) (T:=(.nm 0)) (js:=[none]) (aP (Aj hr (aT 0) (nE af))) (λ_ _ _ _ _=>aG (i:=0) dg rfl (Or.inl rfl)) (λ_ _ _ _ _=>bq) (λ_ _ _ _ _=>(Aj hr (aT 0) (nE af))) (λ_ _ _ _ _=>(aT 0)))))))) j9
theorem ku:(["tie", "net"]:List Str).Nodup:=by decide +kernel
theorem Pf:aB ["net"] ["net"] (au iA):=⟨rfl,rfl,rfl,by decide +kernel,rfl,by decide +kernel,by decide +kernel⟩
theorem nJ(Y:Ev K mg):GQ P w base Y.Dc 2 dZ :=
 aU (bi Y.Dc.F Pf (by decide) (λAo A outer s H E hr=>by
  unfold dS
  exact(ap (ay (bL aX aY (by rfl) Y.Ab aas (BZ (aa (A3 (bj (N:=["tie", "net"]) (T:=(.nm 0)) (js:=[none,some 0]) (aP (Aj hr (aT 0) (nE af))) (λ_ _ _ _ _=>aG (i:=0) ku rfl (Or.inl rfl)) (λ_ _ _ _ _=>cx (bp (nE (Aq (pO Y) hr (aa (aT 1) (aa (aT 0) ae)))))) (λ_ _ _ _ _=>(Aj hr (aT 0) (nE af))))) ae))))))) nC
theorem O8:aB ["net"] ["net"] (au Gg):=⟨rfl,rfl,rfl,by decide +kernel,rfl,by decide +kernel,by decide +kernel⟩
theorem sT(Y:Ev K mg):GQ P w base Y.GC 1 i9 :=
 aU (bi Y.GC.F O8 (by decide) (λAo A outer s H E hr=>by
  unfold im
  exact(ap (ay (A3 (vO (N:=["tie"]) (T:=(.nm 0)) (js:=[none]) (aP (Aj hr (aT 0) (nE af))) (λ_ _ _ _ _=>aG (i:=0) dg rfl (Or.inl rfl)) (λ_ _ _ _ _=>bq) (λ_ _ _ _ _=>(Aj hr (aT 0) (nE af))) (λ_ _ _ _ _=>(av (aa (Aj hr (aT 0) (nE af)) (aa (Aj hr (aT 0) (nE af)) ae)))))))))) se
theorem Rx:aB ["net", "names", "rank", "#t"] ["net", "names"] (au dY):=⟨rfl,rfl,rfl,by decide +kernel,rfl,by decide +kernel,by decide +kernel⟩
theorem gZ:Hd "name" "rank" {posonlyargs:=[],args:=[{arg := "name",annotation:=none,pos:=p}],vararg:=none,kwonlyargs:=[],kw_defaults:=[],kwarg:=none,defaults:=[]} {kind:=.function,names:=[("name",.local),("rank",.free)],isGenerator:=false,isCoroutine:=false,more:=[]} :=
 ⟨rfl,rfl,rfl,by decide,rfl,rfl,rfl,rfl,rfl,rfl,λ_ _ _ _ _ _ _=>rfl⟩
theorem g5:Hf "rank" {posonlyargs:=[],args:=[{arg := "name",annotation:=none,pos:=p}],vararg:=none,kwonlyargs:=[],kw_defaults:=[],kwarg:=none,defaults:=[]} {kind:=.function,names:=[("name",.local),("rank",.free)],isGenerator:=false,isCoroutine:=false,more:=[]} :=
 ⟨λ_=>rfl,λenv cell h=>by simp[closureFor,cellOf,h]⟩
theorem jH(Y:Ev K mg)(hB:BMain mg base):GT P w base Y.Bb 2 (cv Y.Aa) :=
 jv (iX (nm := "#t") Y.Bb.F Rx rfl (by decide) rfl (by unfold GN;decide +kernel) (λAo Gu A outer s H E hr=>by
  unfold cq
  obtain⟨c,hc,hC⟩:=Y.Cc
  have hcd:=Gu.symm.trans hc
  exact(ag (aC 2 Rx.nd rfl (Or.inr rfl) (Aq (sT Y) hr (aa (aT 0) ae)))
  (ap (ay (A3 (vb 3 2 gZ g5 hr (by rfl) Y.Ah (by rfl) hcd hC hB (by rfl) (by rfl) (Or.inr (Or.inl rfl)) (aT 1)))))))) (jD _)
theorem gY:(["place"]:List Str).Nodup:=by decide +kernel
theorem cU:(["place", "word", "stays", "goes"]:List Str).Nodup:=by decide +kernel
theorem Je:aB ["net", "names", "named", "group", "kept", "name", "tie", "stays", "goes"] ["net", "names"] (au dX):=⟨rfl,rfl,rfl,by decide +kernel,rfl,by decide +kernel,by decide +kernel⟩
theorem jG(Y:Ev K mg):GQ P w base Y.BP 2 cu :=
 aU (bi Y.BP.F Je (by decide) (λAo A outer s H E hr=>by
  unfold cp
  exact(ag (aC 2 Je.nd rfl (Or.inl rfl) (Aq (bW Y) hr (aa (aT 0) ae)))
  (ag (vN 3 (N:=["place"]) (T:=(.nm 0)) (js:=[none]) Je.nd rfl rfl (aP (Aj hr (aT 0) (nE af))) (λ_ _ _ _ _=>aG (i:=0) gY rfl (Or.inl rfl)) (λ_ _ _ _ _=>bq) (λ_ _ _ _ _=>(aT 0)) (λ_ _ _ _ _=>(aT 0)))
  (ag (dr 4 Je.nd rfl (Or.inl rfl) (bo ae))
  (ag (dI abO rfl (aP (aT 1)) (aO 5 Je.nd rfl (Or.inl rfl)) (ag (aC 6 Je.nd rfl (Or.inl rfl) (Aj hr (aT 2) (lE 5)))
  (ag (gz (av (aa (FF 3 hr (nE (Aj hr (aT 6) (nE af)))) (aa (FF 3 hr (nE (Aj hr (aT 6) (nE af)))) ae))) (fm (n:=2) rfl (aW (aO 7 Je.nd rfl (Or.inr rfl)) (aW (aO 8 Je.nd rfl (Or.inr rfl)) du)) (bc (bc e8))))
  (ap (aK (zU (cy (Bj hr)) b0 (aT 7) (lE 8)) (ag (dt (nE (lD 4 aci ach cL dF (pv 4) (aa (aT 5) ae))))
  (ap (vN 3 (N:=["place", "word", "stays", "goes"]) (T:=(.tp [0,1])) (js:=[none,none,some 7,some 8]) Je.nd rfl rfl (tE 3 (pv 3)) (λ_ _ _ _ _=>kZ (n:=2) rfl (cG (aG (i:=0) cU rfl (Or.inl rfl)) (cG (aG (i:=1) cU rfl (Or.inl rfl)) jg))) (λ_ _ _ _ _=>bq) (λ_ _ _ _ _=>(aT 0)) (λ_ _ _ _ _=>(tz (zU (aR (A8 hr)) aQ (aT 1) (lE 3)) (aT 2) (aT 1)))))) aF)))))
  (ap (ay (bL aX aY (by rfl) Y.Ab aas (BZ (aa (A3 (e9 rfl (by rfl) Y.Ah (bn (lE 4)))) ae))))))))))) jC
theorem Pe:aB ["net", "#t"] ["net"] (au iE):=⟨rfl,rfl,rfl,by decide +kernel,rfl,by decide +kernel,by decide +kernel⟩
theorem iV(Y:Ev K mg)(hB:BMain mg base):GT P w base Y.Dg 3 (db Y.Aa) :=
 jv (iX (nm := "#t") Y.Dg.F Pe rfl (by decide) rfl (by unfold GN;decide +kernel) (λAo Gu A outer s H E hr=>by
  unfold eJ
  exact(ap (ay (Aq (jG Y) hr (aa (aT 0) (aa (D8 1 (jH Y hB) hr (aa (aT 0) (aa (Aq (nJ Y) hr (aa (aT 0) ae)) ae))) ae))))))) (oq _)
theorem SG:aB ["parts"] ["parts"] (au cT):=⟨rfl,rfl,rfl,by decide +kernel,rfl,by decide +kernel,by decide +kernel⟩
theorem gu(Y:Ev K mg):GQ P w base Y.Bk 2 bD :=
 aU (bi Y.Bk.F SG (by decide) (λAo A outer s H E hr=>by
  unfold bP
  exact(ag (aK (cr (cn (zU (cy (Bj hr)) b0 (bf bz bA (by rfl) Y.A0 aa7 (bn (lE 0))) (nE af)) (cn (bJ (bp (nE (Aq (cw Y) hr (aa (Aj hr (aT 0) (nE af)) ae))))) (dL (bJ (bp (nE (Aq (cw Y) hr (aa (Aj hr (aT 0) (nE af)) ae))))))))) (ap (ay cz)) aF)
  (ap (ay (cX (DI (cy (Bj hr)) b0 (Aj hr (aT 0) (nE af)) (nE (Aj hr (aT 0) (nE af)))) (dJ (Aq (iU Y) hr (aa (Aj hr (aT 0) (nE af)) ae))))))))) gg
theorem Mp:aB ["thing", "rest"] ["thing"] (au lS):=⟨rfl,rfl,rfl,by decide +kernel,rfl,by decide +kernel,by decide +kernel⟩
theorem pP(Y:Ev K mg):GQ P w base Y.E8 3 fZ :=
 aU (bi Y.E8.F Mp (by decide) (λAo A outer s H E hr=>by
  unfold dv
  exact(ag (aK (cr (cn (bJ (bp (nE (bI "tuple" (by decide) Y.zT Y.Ab aas (lE 0))))) (cn (zU ji gh (bf bz bA (by rfl) Y.A0 aa7 (bn (lE 0))) (nE af)) (cn (bJ (bp (nE (Aq (cw Y) hr (aa (Aj hr (aT 0) (nE af)) ae))))) (dL (bJ (bp (nE (Aq (cw Y) hr (aa (Aj hr (aT 0) (nE af)) ae)))))))))) (ap (ay cz)) aF)
  (ag (aC 1 Mp.nd rfl (Or.inl rfl) (bX (aT 0) (bh (nE af)) bC))
  (ag (aK (zU (aR (A8 hr)) aQ (Aj hr (aT 0) (nE af)) (nE bb)) (ap (ay (Aq (gu Y) hr (aa (aT 1) ae)))) aF)
  (ag (aK (zU (aR (A8 hr)) aQ (Aj hr (aT 0) (nE af)) (nE bb)) (ap (ay (cX (DI (aR (A8 hr)) aQ (bf bz bA (by rfl) Y.A0 aa7 (bn (lE 1))) (nE af)) (dJ (Aq (iU Y) hr (aa (Aj hr (aT 1) (nE af)) ae)))))) aF)
  (ap (ay (cX (DI (dE (Cj hr)) dC (Aj hr (aT 0) (nE af)) (nE (av (aa bb (aa bb (aa bb ae)))))) (dJ (DI (aR (A8 hr)) aQ (bf bz bA (by rfl) Y.A0 aa7 (bn (lE 1))) (nE af)))))))))))) pG
theorem Rv:aB ["net", "deed", "place"] ["net", "deed"] (au fV):=⟨rfl,rfl,rfl,by decide +kernel,rfl,by decide +kernel,by decide +kernel⟩
theorem lB(Y:Ev K mg):GQ P w base Y.AI 1 b9 :=
 aU (bi Y.AI.F Rv (by decide) (λAo A outer s H E hr=>by
  unfold cQ
  exact(ag (aC 2 Rv.nd rfl (Or.inl rfl) (Aj hr (aT 1) (nE af)))
  (ag (aK (zU (dE (Cj hr)) dC (aT 2) (nE (Aj hr (aT 0) (nE af)))) (ap gy) aF)
  (ap (ay (av (aa (bL aX aY (by rfl) Y.Ab aas (BZ (aa (A3 (g9 rfl (by rfl) Y.Ah (BZ (aa (aD (Aj hr (aT 0) (nE af)) (nE (av (aa (aT 2) ae)))) ae)))) ae))) (aa (Aj hr (aT 0) (nE af)) ae))))))))) lh
theorem ik:(["each", "place"]:List Str).Nodup:=by decide +kernel
theorem Rw:aB ["net", "deed", "place"] ["net", "deed"] (au eR):=⟨rfl,rfl,rfl,by decide +kernel,rfl,by decide +kernel,by decide +kernel⟩
theorem kE(Y:Ev K mg):GQ P w base Y.Az 1 bZ :=
 aU (bi Y.Az.F Rw (by decide) (λAo A outer s H E hr=>by
  unfold cE
  exact(ag (aC 2 Rw.nd rfl (Or.inr rfl) (Aj hr (aT 1) (nE af)))
  (ag (aK (zU (b8 (Cj hr)) b7 (aT 2) (nE (Aj hr (aT 0) (nE af)))) (ap gy) aF)
  (ap (ay (av (aa (bL aX aY (by rfl) Y.Ab aas (BZ (aa (A3 (bj (N:=["each", "place"]) (T:=(.nm 0)) (js:=[none,some 2]) (aP (Aj hr (aT 0) (nE af))) (λ_ _ _ _ _=>aG (i:=0) ik rfl (Or.inl rfl)) (λ_ _ _ _ _=>cx (zU (cy (Bj hr)) b0 (aT 0) (lE 1))) (λ_ _ _ _ _=>(aT 0)))) ae))) (aa (Aj hr (aT 0) (nE af)) ae))))))))) kf
theorem L5:aB ["net", "deed", "name", "one", "other", "cost", "tie"] ["net", "deed"] (au iz):=⟨rfl,rfl,rfl,by decide +kernel,rfl,by decide +kernel,by decide +kernel⟩
theorem nI(Y:Ev K mg):GQ P w base Y.Ba 2 cB :=
 aU (bi Y.Ba.F L5 (by decide) (λAo A outer s H E hr=>by
  unfold dR
  exact(ag (gz (bX (aT 1) (bh (nE af)) bC) (fm (n:=4) rfl (aW (aO 2 L5.nd rfl (Or.inl rfl)) (aW (aO 3 L5.nd rfl (Or.inl rfl)) (aW (aO 4 L5.nd rfl (Or.inl rfl)) (aW (aO 5 L5.nd rfl (Or.inl rfl)) du)))) (bc (bc (bc (bc e8))))))
  (ag (aK (zU (dE (Cj hr)) dC (aT 2) (nE (Aq (bW Y) hr (aa (aT 0) ae)))) (ap gy) aF)
  (ag (aC 6 L5.nd rfl (Or.inl rfl) (av (aa (aT 2) (aa (bf (zd rfl) zf (by rfl) Y.Ke PyProof.Rows.boot_min (BZ (aa (aT 3) (aa (aT 4) ae)))) (aa (bf (tM rfl) tN (by rfl) Y.Hc PyProof.Rows.boot_max (BZ (aa (aT 3) (aa (aT 4) ae)))) (aa (aT 5) ae))))))
  (ap (ay (av (aa (Aj hr (aT 0) (nE af)) (aa (bL aX aY (by rfl) Y.Ab aas (BZ (aa (A3 (tm (by rfl) Y.Ah (BZ (aa (aD (Aj hr (aT 0) (nE af)) (nE (av (aa (aT 6) ae)))) ae)))) ae))) ae)))))))))) nB
theorem ll:(["tie", "name"]:List Str).Nodup:=by decide +kernel
theorem Mr:aB ["net", "deed", "name"] ["net", "deed"] (au j0):=⟨rfl,rfl,rfl,by decide +kernel,rfl,by decide +kernel,by decide +kernel⟩
theorem oS(Y:Ev K mg):GQ P w base Y.BA 2 cZ :=
 aU (bi Y.BA.F Mr (by decide) (λAo A outer s H E hr=>by
  unfold eF
  exact(ag (aC 2 Mr.nd rfl (Or.inr rfl) (Aj hr (aT 1) (nE af)))
  (ag (aK (zU (b8 (Cj hr)) b7 (aT 2) (nE (Aq (bW Y) hr (aa (aT 0) ae)))) (ap gy) aF)
  (ap (ay (av (aa (Aj hr (aT 0) (nE af)) (aa (bL aX aY (by rfl) Y.Ab aas (BZ (aa (A3 (bj (N:=["tie", "name"]) (T:=(.nm 0)) (js:=[none,some 2]) (aP (Aj hr (aT 0) (nE af))) (λ_ _ _ _ _=>aG (i:=0) ll rfl (Or.inl rfl)) (λ_ _ _ _ _=>cx (zU (cy (Bj hr)) b0 (Aj hr (aT 0) (nE af)) (lE 1))) (λ_ _ _ _ _=>(aT 0)))) ae))) ae))))))))) oi
theorem ko:(["tie", "name", "cost"]:List Str).Nodup:=by decide +kernel
theorem O4:aB ["net", "deed", "name", "cost"] ["net", "deed"] (au iy):=⟨rfl,rfl,rfl,by decide +kernel,rfl,by decide +kernel,by decide +kernel⟩
theorem nH(Y:Ev K mg):GQ P w base Y.A9 2 cA :=
 aU (bi Y.A9.F O4 (by decide) (λAo A outer s H E hr=>by
  unfold dQ
  exact(ag (gz (bX (aT 1) (bh (nE af)) bC) (fm (n:=2) rfl (aW (aO 2 O4.nd rfl (Or.inr rfl)) (aW (aO 3 O4.nd rfl (Or.inr rfl)) du)) (bc (bc e8))))
  (ag (aK (zU (b8 (Cj hr)) b7 (aT 2) (nE (Aq (bW Y) hr (aa (aT 0) ae)))) (ap gy) aF)
  (ap (ay (av (aa (Aj hr (aT 0) (nE af)) (aa (bL aX aY (by rfl) Y.Ab aas (BZ (aa (A3 (bj (N:=["tie", "name", "cost"]) (T:=(.nm 0)) (js:=[none,some 2,some 3]) (aP (Aj hr (aT 0) (nE af))) (λ_ _ _ _ _=>aG (i:=0) ko rfl (Or.inl rfl)) (λ_ _ _ _ _=>bq) (λ_ _ _ _ _=>(tz (zU (aR (A8 hr)) aQ (Aj hr (aT 0) (nE af)) (lE 1)) (aD (bX (aT 0) bC (bh (nE af))) (nE (av (aa (aT 2) ae)))) (aT 0))))) ae))) ae))))))))) nA
theorem Mq:aB ["net", "deed", "done"] ["net", "deed"] (au j5):=⟨rfl,rfl,rfl,by decide +kernel,rfl,by decide +kernel,by decide +kernel⟩
theorem pQ(Y:Ev K mg):GQ P w base Y.Eb 4 f7 :=
 aU (bi Y.Eb.F Mq (by decide) (λAo A outer s H E hr=>by
  unfold fO
  exact(ag (aK (bJ (bp (nE (Aq (pP Y) hr (aa (aT 1) ae))))) (ap gy) aF)
  (u5 2 (k:=2) (T:=[("place",Y.AI.f,b9),("leave",Y.Az.f,bZ),("tie",Y.Ba.f,cB),("untie",Y.BA.f,cZ),("cost",Y.A9.f,cA)]) Mq.nd rfl (Or.inl rfl) (by rfl) Y.ES.mg Y.ES.tab (List.forall_mem_cons.mpr ⟨⟨_,_,Ae.mono (lB Y) (by decide),Y.AI.n.kp,Y.AI.b⟩,(List.forall_mem_cons.mpr ⟨⟨_,_,Ae.mono (kE Y) (by decide),Y.Az.n.kp,Y.Az.b⟩,(List.forall_mem_cons.mpr ⟨⟨_,_,Ae.mono (nI Y) (by decide),Y.Ba.n.kp,Y.Ba.b⟩,(List.forall_mem_cons.mpr ⟨⟨_,_,Ae.mono (oS Y) (by decide),Y.BA.n.kp,Y.BA.b⟩,(List.forall_mem_cons.mpr ⟨⟨_,_,Ae.mono (nH Y) (by decide),Y.A9.n.kp,Y.A9.b⟩,(λ_ hq=>(nomatch hq))⟩)⟩)⟩)⟩)⟩) (hr.mono (by decide)) (Aj hr (aT 1) (nE af)) (λ_ _=>rfl) (pv 2) (aa (aT 0) (aa (aT 1) ae)))))) pH
theorem mh:(["name", "behind"]:List Str).Nodup:=by decide +kernel
theorem mf:(["name", "ahead"]:List Str).Nodup:=by decide +kernel
theorem Kk:aB ["ahead", "behind", "gone", "come"] ["ahead", "behind"] (au j6):=⟨rfl,rfl,rfl,by decide +kernel,rfl,by decide +kernel,by decide +kernel⟩
theorem pR(Y:Ev K mg):GQ P w base Y.Ec 1 f8 :=
 aU (bi Y.Ec.F Kk (by decide) (λAo A outer s H E hr=>by
  unfold fQ
  exact(ag (aC 2 Kk.nd rfl (Or.inl rfl) (bL aX aY (by rfl) Y.Ab aas (BZ (aa (A3 (bj (N:=["name", "behind"]) (T:=(.nm 0)) (js:=[none,some 1]) (aP (aT 0)) (λ_ _ _ _ _=>aG (i:=0) mh rfl (Or.inl rfl)) (λ_ _ _ _ _=>cx (zU (b8 (Cj hr)) b7 (aT 0) (lE 1))) (λ_ _ _ _ _=>(aT 0)))) ae))))
  (ag (aC 3 Kk.nd rfl (Or.inl rfl) (bL aX aY (by rfl) Y.Ab aas (BZ (aa (A3 (bj (N:=["name", "ahead"]) (T:=(.nm 0)) (js:=[none,some 0]) (aP (aT 1)) (λ_ _ _ _ _=>aG (i:=0) mf rfl (Or.inl rfl)) (λ_ _ _ _ _=>cx (zU (b8 (Cj hr)) b7 (aT 0) (lE 1))) (λ_ _ _ _ _=>(aT 0)))) ae))))
  (ap (ay (av (aa (aT 2) (aa (aT 3) ae))))))))) pI
theorem Pd:aB ["net", "deed", "#t"] ["net", "deed"] (au iC):=⟨rfl,rfl,rfl,by decide +kernel,rfl,by decide +kernel,by decide +kernel⟩
theorem oU(Y:Ev K mg)(hB:BMain mg base):GT P w base Y.De 5 (fu Y.Aa) :=
 jv (iX (nm := "#t") Y.De.F Pd rfl (by decide) rfl (by unfold GN;decide +kernel) (λAo Gu A outer s H E hr=>by
  unfold eI
  exact(ap (ay (Aq (pR Y) hr (aa (D8 2 (iV Y hB) hr (aa (aT 0) ae)) (aa (D8 2 (iV Y hB) hr (aa (Aq (pQ Y) hr (aa (aT 0) (aa (aT 1) ae))) ae)) ae))))))) (om _)
theorem SF:aB ["net", "deed", "told", "#t"] ["net", "deed", "told"] (au di):=⟨rfl,rfl,rfl,by decide +kernel,rfl,by decide +kernel,by decide +kernel⟩
theorem iT(Y:Ev K mg)(hB:BMain mg base):GT P w base Y.BB 6 (cg Y.Aa) :=
 jv (iX (nm := "#t") Y.BB.F SF rfl (by decide) rfl (by unfold GN;decide +kernel) (λAo Gu A outer s H E hr=>by
  unfold ca
  exact(ag (aK (cr (cn (bJ (bp (nE (bI "tuple" (by decide) Y.zT Y.Ab aas (lE 2))))) (cn (zU (cy (Bj hr)) b0 (bf bz bA (by rfl) Y.A0 aa7 (bn (lE 2))) (nE af)) (cn (bJ (bp (nE (Aq (ig Y) hr (aa (Aj hr (aT 2) (nE af)) ae))))) (dL (bJ (bp (nE (Aq (ig Y) hr (aa (Aj hr (aT 2) (nE af)) ae)))))))))) (ap (ay cz)) aF)
  (ap (ay (DI (aR (A8 hr)) aQ (aT 2) (nE (D8 3 (oU Y hB) hr (aa (aT 0) (aa (aT 1) ae)))))))))) (iO _)
theorem EN:aB ["_law_state", "_law_many", "_law_letters", "_law_base", "_law_size", "_law_at", "_law_first", "_law_found", "_law_k", "_law_two"] ["_law_state", "_law_many"] (au Gf):=⟨rfl,rfl,rfl,by decide +kernel,rfl,by decide +kernel,by decide +kernel⟩
theorem fH(Y:Ev K mg):GO P w base Y.GB 2 cP :=
 ck (cV Y.GB.F EN (by decide) (λAo A outer s H E hr=>by
  unfold io
  exact(ag (aC 2 EN.nd rfl (Or.inl rfl) bb)
  (ag (aC 3 EN.nd rfl (Or.inl rfl) (Aj hr (aT 2) (nE (zM 0 (aI Y) hr (aa af ae)))))
  (ag (aC 4 EN.nd rfl (Or.inl rfl) (zM 0 (aI Y) hr (aa af ae)))
  (ag (aC 5 EN.nd rfl (Or.inl rfl) (zM 0 (aI Y) hr (aa (aD (aT 4) (nE af)) ae)))
  (ag (aC 6 EN.nd rfl (Or.inl rfl) (zM 0 (aI Y) hr (aa af ae)))
  (ag (dr 7 EN.nd rfl (Or.inl rfl) (bo ae))
  (ag (dI abO rfl (fI (by rfl) Y.CC (aa (aT 1) ae)) (aO 8 EN.nd rfl (Or.inl rfl)) (ag (aC 9 EN.nd rfl (Or.inl rfl) (aD (Aj hr (aT 2) (nE (fg (aD (aT 6) (nE (gA af (lE 8)))) (nE af)))) (nE (Aj hr (aT 2) (nE (fg (aD (aT 6) (nE (tB (aT 8) (nE af)))) (nE af)))))))
  (ap (aK (cr (cY (zU ji gh (aT 1) (nE af)) (cN (zU (aR (A8 hr)) aQ (aT 4) (nE af))))) (ap (dt (nE (lD 7 aci ach cL dF (pv 7) (aa (gA (aT 3) (nE (aD (aT 8) (nE af)))) ae))))) (ap (dt (nE (lD 7 aci ach cL dF (pv 7) (aa (aD (aD (gA (aT 3) (lE 5)) (lE 9)) (nE (gA (aT 3) (nE (cW (aT 4) (lE 5)))))) ae)))))))))
  (ap (ay (aT 7)))))))))))) sf
theorem O6:aB ["_law_state", "_law_which"] ["_law_state", "_law_which"] (au HU):=⟨rfl,rfl,rfl,by decide +kernel,rfl,by decide +kernel,by decide +kernel⟩
theorem kF(Y:Ev K mg):GO P w base Y.IA 2 fy :=
 ck (cV Y.IA.F O6 (by decide) (λAo A outer s H E hr=>by
  unfold jU
  exact(ag (aK (zU (aR (A8 hr)) aQ (aT 1) (nE af)) (ap (ay af)) aF)
  (ag (aK (zU (aR (A8 hr)) aQ (aT 1) (nE af)) (ap (ay (cW (zM 0 (aI Y) hr (aa af ae)) (nE af)))) aF)
  (ag (aK (zU (aR (A8 hr)) aQ (aT 1) (nE af)) (ap (ay (cW (zM 0 (aI Y) hr (aa af ae)) (nE af)))) aF)
  (ap (ay (Aj hr (A3 (bo (aa (cW (oX af (nE af)) (nE af)) (aa (cW af (nE (oX af (nE af)))) (aa af (aa (zM 0 (aI Y) hr (aa (oX af (nE af)) ae)) ae)))))) (nE (zM 0 (aI Y) hr (aa af ae))))))))))) uE
theorem HD:aB ["_law_state", "_law_family", "_law_many", "_law_k", "_law_half", "_law_side", "_law_one"] ["_law_state", "_law_family", "_law_many", "_law_k"] (au HQ):=⟨rfl,rfl,rfl,by decide +kernel,rfl,by decide +kernel,by decide +kernel⟩
theorem uX(Y:Ev K mg):GO P w base Y.Iy 2 kI :=
 ck (cV Y.Iy.F HD (by decide) (λAo A outer s H E hr=>by
  unfold jS
  exact(ag (aK (zU (aR (A8 hr)) aQ (aT 1) (nE af)) (ap (ay (av (aa (fg (aT 3) (lE 2)) (aa (fg (aD (aT 3) (nE af)) (lE 2)) ae))))) aF)
  (ag (aK (zU (aR (A8 hr)) aQ (aT 1) (nE af)) (ap (ay (av (aa af (aa (aD af (nE (zM 0 (aI Y) hr (aa (cW (aT 2) (nE af)) ae)))) ae))))) aF)
  (ag (aK (cr (cY (zU (aR (A8 hr)) aQ (aT 1) (nE af)) (cN (zU vJ so (aT 2) (nE af))))) (ag (aC 4 HD.nd rfl (Or.inl rfl) (tB (aT 2) (nE af)))
  (ag (aC 5 HD.nd rfl (Or.inl rfl) (zM 0 (aI Y) hr (aa af ae)))
  (ag (aC 6 HD.nd rfl (Or.inl rfl) (zM 0 (aI Y) hr (aa (aT 4) ae)))
  (ap (ay (av (aa (aD (gA (aT 5) (lE 4)) (lE 6)) (aa (aD (gA (aT 5) (lE 4)) (nE (fg (aD (aD (aT 6) (nE af)) (nE (zM 0 (aI Y) hr (aa (cW (aT 4) (nE af)) ae)))) (lE 4)))) ae)))))))) aF)
  (ag (aC 6 HD.nd rfl (Or.inl rfl) (zM 0 (aI Y) hr (aa (aT 2) ae)))
  (ap (ay (av (aa (aT 6) (aa (fg (aD (aD (aT 6) (nE af)) (nE (zM 0 (aI Y) hr (aa (cW (aT 2) (nE af)) ae)))) (lE 2)) ae))))))))))) uC
theorem Dz:aB ["_law_state", "_law_most", "_law_ties_most", "_law_many", "_law_words_here", "_law_pool", "_law_count", "_law_names", "_law_family", "_law_which", "_law_ties", "_law_k", "_law_one", "_law_other", "_law_two"] ["_law_state", "_law_most", "_law_ties_most"] (au KN):=⟨rfl,rfl,rfl,by decide +kernel,rfl,by decide +kernel,by decide +kernel⟩
theorem xo(Y:Ev K mg):GO P w base Y.LN 3 mQ :=
 ck (cV Y.LN.F Dz (by decide) (λAo A outer s H E hr=>by
  unfold lJ
  exact(ag (aC 3 Dz.nd rfl (Or.inl rfl) (zM 0 (aI Y) hr (aa (aD (aT 1) (nE af)) ae)))
  (ag (aC 4 Dz.nd rfl (Or.inl rfl) (zM 0 (fH Y) hr (aa (aD (aT 3) (nE af)) ae)))
  (ag (aC 5 Dz.nd rfl (Or.inl rfl) (bX (aT 4) bC (bh (nE (bf (tM rfl) tN (by rfl) Y.Hc PyProof.Rows.boot_max (BZ (aa af (aa (aD (aT 3) (nE (zM 0 (aI Y) hr (aa af ae)))) ae))))))))
  (ag (aC 6 Dz.nd rfl (Or.inl rfl) (zM 0 (aI Y) hr (aa (aD (aT 2) (nE af)) ae)))
  (ag (aC 7 Dz.nd rfl (Or.inl rfl) (zM 0 (fH Y) hr (aa (aT 6) ae)))
  (ag (sZ 8 9 rfl Dz.nd rfl rfl (by decide) rfl rfl (aa (zM 0 (aI Y) hr (aa af ae)) (aa (zM 0 (aI Y) hr (aa af ae)) ae)) rfl)
  (ag (dr 10 Dz.nd rfl (Or.inl rfl) (bo ae))
  (ag (dI abO rfl (fI (by rfl) Y.CC (aa (aT 6) ae)) (aO 11 Dz.nd rfl (Or.inl rfl)) (ag (gz (zM 0 (uX Y) hr (aa (aT 8) (aa (bf bz bA (by rfl) Y.A0 aa7 (bn (lE 5))) (aa (aT 11) ae)))) (fm (n:=2) rfl (aW (aO 12 Dz.nd rfl (Or.inl rfl)) (aW (aO 13 Dz.nd rfl (Or.inl rfl)) du)) (bc (bc e8))))
  (ag (aC 14 Dz.nd rfl (Or.inl rfl) (A3 (e9 rfl (by rfl) Y.Ah (BZ (aa (A3 (bo (aa (Aj hr (aT 5) (lE 12)) (aa (Aj hr (aT 5) (lE 13)) ae)))) ae)))))
  (ap (dt (nE (lD 10 aci ach cL dF (pv 10) (aa (av (aa (Aj hr (aT 7) (lE 11)) (aa (Aj hr (aT 14) (nE af)) (aa (Aj hr (aT 14) (nE af)) (aa (zM 0 (kF Y) hr (aa (aT 9) ae)) ae))))) ae))))))))
  (ap (ay (av (aa (bL aX aY (by rfl) Y.Ab aas (BZ (aa (A3 (e9 rfl (by rfl) Y.Ah (BZ (aa (bX (aT 4) bC (bh (lE 3))) ae)))) ae))) (aa (bL aX aY (by rfl) Y.Ab aas (BZ (aa (A3 (u8 (by rfl) Y.Ah (bn (lE 10)))) ae))) ae))))))))))))))) wM
theorem O5:aB ["_law_state", "_law_some"] ["_law_state", "_law_some"] (au PC):=⟨rfl,rfl,rfl,by decide +kernel,rfl,by decide +kernel,by decide +kernel⟩
theorem gv(Y:Ev K mg):GO P w base Y.Q5 2 dP :=
 ck (cV Y.Q5.F O5 (by decide) (λAo A outer s H E hr=>by
  unfold nV
  exact(ap (ay (Aj hr (aT 1) (nE (zM 0 (aI Y) hr (aa (bf bz bA (by rfl) Y.A0 aa7 (bn (lE 1))) ae)))))))) yt
theorem oH:(["_law_word", "_law_taken"]:List Str).Nodup:=by decide +kernel
theorem O9:aB ["_law_state", "_law_taken"] ["_law_state", "_law_taken"] (au Gh):=⟨rfl,rfl,rfl,by decide +kernel,rfl,by decide +kernel,by decide +kernel⟩
theorem m8(Y:Ev K mg):GO P w base Y.GF 3 fL :=
 ck (cV Y.GF.F O9 (by decide) (λAo A outer s H E hr=>by
  unfold ip
  exact(ap (ay (Aj hr (A3 (bj (N:=["_law_word", "_law_taken"]) (T:=(.nm 0)) (js:=[none,some 1]) (aP (zM 0 (fH Y) hr (aa af ae))) (λ_ _ _ _ _=>aG (i:=0) oH rfl (Or.inl rfl)) (λ_ _ _ _ _=>cx (zU (b8 (Cj hr)) b7 (aT 0) (lE 1))) (λ_ _ _ _ _=>(aT 0)))) (nE af)))))) sj
theorem mi:(["_law_word", "_law_pool"]:List Str).Nodup:=by decide +kernel
theorem bv:(["_law_tie"]:List Str).Nodup:=by decide +kernel
theorem Hg:aB ["_law_state", "_law_net_here", "_law_far", "_law_pool", "_law_at", "_law_other", "_law_name"] ["_law_state", "_law_net_here", "_law_far"] (au lP):=⟨rfl,rfl,rfl,by decide +kernel,rfl,by decide +kernel,by decide +kernel⟩
theorem pS(Y:Ev K mg):GO P w base Y.E5 4 f9 :=
 ck (cV Y.E5.F Hg (by decide) (λAo A outer s H E hr=>by
  unfold fR
  exact(ag (aC 3 Hg.nd rfl (Or.inr rfl) (aD (A3 (fh mH mJ (by rfl) Y.Eh adb (BZ (aa (Aj hr (aT 1) (nE af)) ae)))) (lE 2)))
  (ag (aK (cr (cn (zU ji gh (bf bz bA (by rfl) Y.A0 aa7 (bn (lE 3))) (nE af)) (dL (zU (aR (A8 hr)) aQ (zM 0 (aI Y) hr (aa af ae)) (nE af))))) (ap (aC 3 Hg.nd rfl (Or.inr rfl) (aD (aT 3) (nE (bX (A3 (bj (N:=["_law_word", "_law_pool"]) (T:=(.nm 0)) (js:=[none,some 3]) (aP (zM 0 (fH Y) hr (aa af ae))) (λ_ _ _ _ _=>aG (i:=0) mi rfl (Or.inl rfl)) (λ_ _ _ _ _=>cx (zU (b8 (Cj hr)) b7 (aT 0) (lE 1))) (λ_ _ _ _ _=>(aT 0)))) bC (bh (nE af))))))) aF)
  (ag (aC 4 Hg.nd rfl (Or.inl rfl) (zM 0 (aI Y) hr (aa (bf bz bA (by rfl) Y.A0 aa7 (bn (lE 3))) ae)))
  (ag (aC 5 Hg.nd rfl (Or.inl rfl) (Aj hr (aT 3) (nE (fg (aD (aD (aT 4) (nE af)) (nE (zM 0 (aI Y) hr (aa (cW (bf bz bA (by rfl) Y.A0 aa7 (bn (lE 3))) (nE af)) ae)))) (nE (bf bz bA (by rfl) Y.A0 aa7 (bn (lE 3))))))))
  (ag (aC 6 Hg.nd rfl (Or.inl rfl) (zM 0 (m8 Y) hr (aa (A3 (bj (N:=["_law_tie"]) (T:=(.nm 0)) (js:=[none]) (aP (Aj hr (aT 1) (nE af))) (λ_ _ _ _ _=>aG (i:=0) bv rfl (Or.inl rfl)) (λ_ _ _ _ _=>bq) (λ_ _ _ _ _=>(Aj hr (aT 0) (nE af))))) ae)))
  (ap (ay (av (aa bb (aa (aT 6) (aa (Aj hr (aT 3) (lE 4)) (aa (aT 5) (aa (zM 0 (kF Y) hr (aa (zM 0 (aI Y) hr (aa af ae)) ae)) ae))))))))))))))) pJ
theorem pM:(["_law_place", "_law_net_here"]:List Str).Nodup:=by decide +kernel
theorem HE:aB ["_law_state", "_law_net_here", "_law_names", "_law_ends_here", "_law_far", "_law_which"] ["_law_state", "_law_net_here"] (au HS):=⟨rfl,rfl,rfl,by decide +kernel,rfl,by decide +kernel,by decide +kernel⟩
theorem uY(Y:Ev K mg):GO P w base Y.Iz 5 kJ :=
 ck (cV Y.Iz.F HE (by decide) (λAo A outer s H E hr=>by
  unfold jT
  exact(ag (s0 2 (N:=["_law_tie"]) (T:=(.nm 0)) (js:=[none]) HE.nd rfl rfl (aP (Aj hr (aT 1) (nE af))) (λ_ _ _ _ _=>aG (i:=0) bv rfl (Or.inl rfl)) (λ_ _ _ _ _=>bq) (λ_ _ _ _ _=>(Aj hr (aT 0) (nE af))))
  (ag (aC 3 HE.nd rfl (Or.inl rfl) (A3 (qX rfl (by rfl) Y.Ah (by rfl) Y.Kd (BZ (aa (aD (A3 (bj (N:=["_law_tie"]) (T:=(.nm 0)) (js:=[none]) (aP (Aj hr (aT 1) (nE af))) (λ_ _ _ _ _=>aG (i:=0) bv rfl (Or.inl rfl)) (λ_ _ _ _ _=>bq) (λ_ _ _ _ _=>(Aj hr (aT 0) (nE af))))) (nE (A3 (bj (N:=["_law_tie"]) (T:=(.nm 0)) (js:=[none]) (aP (Aj hr (aT 1) (nE af))) (λ_ _ _ _ _=>aG (i:=0) bv rfl (Or.inl rfl)) (λ_ _ _ _ _=>bq) (λ_ _ _ _ _=>(Aj hr (aT 0) (nE af))))))) ae)))))
  (ag (s0 4 (N:=["_law_place", "_law_net_here"]) (T:=(.nm 0)) (js:=[none,some 1]) HE.nd rfl rfl (aP (aT 3)) (λ_ _ _ _ _=>aG (i:=0) pM rfl (Or.inl rfl)) (λ_ _ _ _ _=>cx (zU (b8 (Cj hr)) b7 (aT 0) (nE (Aj hr (aT 1) (nE af))))) (λ_ _ _ _ _=>(aT 0)))
  (ag (aC 5 HE.nd rfl (Or.inl rfl) (zM 0 (aI Y) hr (aa af ae)))
  (ag (aK (cr (cY (zU (aR (A8 hr)) aQ (aT 5) (nE af)) (cN (zU ji gh (bf bz bA (by rfl) Y.A0 aa7 (BZ (aa (Aj hr (aT 1) (nE af)) ae))) (nE af))))) (ag (aK (cr (cY (zU (cy (Bj hr)) b0 (aT 4) (nE (A3 (bo ae)))) (cN (zU vJ so (zM 0 (aI Y) hr (aa af ae)) (nE af))))) (ap (ay (av (aa bb (aa (zM 0 (gv Y) hr (aa (aT 4) ae)) ae))))) aF)
  (ap (ay (av (aa bb (aa (zM 0 (m8 Y) hr (aa (Aj hr (aT 1) (nE af)) ae)) ae)))))) aF)
  (ag (aK (cr (cY (zU (aR (A8 hr)) aQ (aT 5) (nE af)) (cN (zU (yx (A8 hr)) wO (Aj hr (aT 1) (nE af)) (nE (av ae)))))) (ap (ay (av (aa bb (aa (zM 0 (gv Y) hr (aa (Aj hr (aT 1) (nE af)) ae)) ae))))) aF)
  (ag (aK (cr (cY (zU (aR (A8 hr)) aQ (aT 5) (nE af)) (cN (zU (cy (Bj hr)) b0 (aT 2) (nE (A3 (bo ae))))))) (ap (ay (av (aa bb (aa (zM 0 (gv Y) hr (aa (aT 2) ae)) ae))))) aF)
  (ag (aK (cr (cY (zU (dE (Cj hr)) dC (aT 5) (nE (av (aa af (aa af ae))))) (cN (zU (cy (Bj hr)) b0 (aT 2) (nE (A3 (bo ae))))))) (ap (ay (av (aa bb (aa (zM 0 (gv Y) hr (aa (aT 2) ae)) (aa (zM 0 (kF Y) hr (aa (zM 0 (aI Y) hr (aa af ae)) ae)) ae)))))) aF)
  (ag (aK (zU ji gh (bf bz bA (by rfl) Y.A0 aa7 (bn (lE 2))) (nE af)) (ap (ay (zM 0 (pS Y) hr (aa (aT 1) (aa (aT 4) ae))))) aF)
  (ap (ay (av (aa bb (aa (zM 0 (gv Y) hr (aa (aT 2) ae)) ae)))))))))))))))) uD
theorem gm:(["_law_place"]:List Str).Nodup:=by decide +kernel
theorem Jd:aB ["_law_net_here", "_law_deed_here", "_law_places", "_law_ties", "_law_two"] ["_law_net_here", "_law_deed_here"] (au iG):=⟨rfl,rfl,rfl,by decide +kernel,rfl,by decide +kernel,by decide +kernel⟩
theorem jO(Y:Ev K mg):GQ P w base Y.Dh 1 dz :=
 aU (bi Y.Dh.F Jd (by decide) (λAo A outer s H E hr=>by
  unfold fS
  exact(ag (dr 2 Jd.nd rfl (Or.inl rfl) (fh (mI rfl) mK (by rfl) Y.Fe aef (BZ (aa (A3 (bj (N:=["_law_place"]) (T:=(.nm 0)) (js:=[none]) (aP (Aj hr (aT 0) (nE af))) (λ_ _ _ _ _=>aG (i:=0) gm rfl (Or.inl rfl)) (λ_ _ _ _ _=>bq) (λ_ _ _ _ _=>(av (aa (aT 0) (aa cz ae)))))) ae))))
  (ag (dr 3 Jd.nd rfl (Or.inl rfl) (fh (mI rfl) mK (by rfl) Y.Fe aef (BZ (aa (A3 (bj (N:=["_law_tie"]) (T:=(.nm 0)) (js:=[none]) (aP (Aj hr (aT 0) (nE af))) (λ_ _ _ _ _=>aG (i:=0) bv rfl (Or.inl rfl)) (λ_ _ _ _ _=>bq) (λ_ _ _ _ _=>(av (aa (Aj hr (aT 0) (nE af)) (aa (aT 0) ae)))))) ae))))
  (ag (aK (zU (aR (A8 hr)) aQ (Aj hr (aT 1) (nE af)) (nE bb)) (ap (lC 2 (Mb hr) cz (pv 2) (Aj hr (aT 1) (nE af)))) (ap (aK (zU (aR (A8 hr)) aQ (Aj hr (aT 1) (nE af)) (nE bb)) (ap (dt (nE (qr 2 (pv 2) (Aj hr (aT 1) (nE af)))))) (ap (aK (zU (aR (A8 hr)) aQ (Aj hr (aT 1) (nE af)) (nE bb)) (ap (dt (nE (qr 3 (pv 3) (Aj hr (aT 1) (nE af)))))) (ap (aK (zU (aR (A8 hr)) aQ (Aj hr (aT 1) (nE af)) (nE bb)) (ap (lC 3 (Mb hr) (aD (bX (FF 3 hr (nE (Aj hr (aT 1) (nE af)))) bC (bh (nE af))) (nE (av (aa (Aj hr (aT 1) (nE af)) ae)))) (pv 3) (Aj hr (aT 1) (nE af)))) (ag (aC 4 Jd.nd rfl (Or.inl rfl) (A3 (g9 rfl (by rfl) Y.Ah (BZ (aa (bX (aT 1) (bh (nE af)) (bh (nE af))) ae)))))
  (ap (lC 3 (Mb hr) (av (aa (Aj hr (aT 1) (nE af)) (aa (Aj hr (aT 4) (nE af)) (aa (Aj hr (aT 4) (nE af)) (aa (Aj hr (aT 1) (nE af)) ae))))) (pv 3) (Aj hr (aT 1) (nE af))))))))))))
  (ap (ay (av (aa (bL aX aY (by rfl) Y.Ab aas (BZ (aa (A3 (e9 rfl (by rfl) Y.Ah (bn (lE 2)))) ae))) (aa (bL aX aY (by rfl) Y.Ab aas (BZ (aa (A3 (u7 3 rfl (by rfl) Y.Ah (pv 3))) ae))) ae)))))))))) pK
theorem EO:aB ["_law_net_here", "_law_label", "_law_kept", "_law_cost_here", "_law_name", "_law_one", "_law_other", "_law_gone", "_law_new", "_law_place"] ["_law_net_here"] (au gU):=⟨rfl,rfl,rfl,by decide +kernel,rfl,by decide +kernel,by decide +kernel⟩
theorem iW(Y:Ev K mg):GQ P w base Y.CS 1 de :=
 aU (bi Y.CS.F EO (by decide) (λAo A outer s H E hr=>by
  unfold eN
  exact(ag (dr 1 EO.nd rfl (Or.inl rfl) (fh (mI rfl) mK (by rfl) Y.Fe aef (BZ (aa (A3 (bj (N:=["_law_place"]) (T:=(.nm 0)) (js:=[none]) (aP (Aj hr (aT 0) (nE af))) (λ_ _ _ _ _=>aG (i:=0) gm rfl (Or.inl rfl)) (λ_ _ _ _ _=>bq) (λ_ _ _ _ _=>(av (aa (aT 0) (aa (aT 0) ae)))))) ae))))
  (ag (dr 2 EO.nd rfl (Or.inl rfl) (bo ae))
  (ag (dI abO rfl (aP (A3 (u9 (by rfl) Y.Ah (BZ (aa (A3 (bj (N:=["_law_tie"]) (T:=(.nm 0)) (js:=[none]) (aP (Aj hr (aT 0) (nE af))) (λ_ _ _ _ _=>aG (i:=0) bv rfl (Or.inl rfl)) (λ_ _ _ _ _=>bq) (λ_ _ _ _ _=>(av (aa (Aj hr (aT 0) (nE af)) (aa (Aj hr (aT 0) (nE af)) (aa (Aj hr (aT 0) (nE af)) (aa (Aj hr (aT 0) (nE af)) ae)))))))) ae))))) (fm (n:=4) rfl (aW (aO 3 EO.nd rfl (Or.inl rfl)) (aW (aO 4 EO.nd rfl (Or.inl rfl)) (aW (aO 5 EO.nd rfl (Or.inl rfl)) (aW (aO 6 EO.nd rfl (Or.inl rfl)) du)))) (bc (bc (bc (bc e8))))) (ap (aK (cr (cY (zU (dE (Cj hr)) dC (aT 5) (lE 1)) (cY (zU (dE (Cj hr)) dC (aT 6) (lE 1)) (cN (zU (cy (Bj hr)) b0 (FF 1 hr (lE 5)) (nE (FF 1 hr (lE 6)))))))) (ag (sZ 7 8 rfl EO.nd rfl rfl (by decide) rfl rfl (aa (FF 1 hr (lE 6)) (aa (FF 1 hr (lE 5)) ae)) rfl)
  (ag (dI abO rfl (aP (A3 (fh (vp rfl) vq (by rfl) Y.Eh adb (bn (lE 1))))) (aO 9 EO.nd rfl (Or.inl rfl)) (ap (aK (zU (aR (A8 hr)) aQ (FF 1 hr (lE 9)) (lE 7)) (ap (lC 1 (Mb hr) (aT 8) (pv 1) (aT 9))) aF)))
  (ap (dt (nE (lD 2 aci ach cL dF (pv 2) (aa (aT 4) ae))))))) aF)))
  (ap (ay (bL aX aY (by rfl) Y.Ab aas (BZ (aa (A3 (e9 rfl (by rfl) Y.Ah (bn (lE 2)))) ae)))))))))) oA
theorem lp:(["_law_name", "_law_later"]:List Str).Nodup:=by decide +kernel
theorem lm:(["_law_name", "_law_former"]:List Str).Nodup:=by decide +kernel
theorem Jf:aB ["_law_net_here", "_law_deed_here", "_law_former", "_law_later", "_law_gone"] ["_law_net_here", "_law_deed_here"] (au gS):=⟨rfl,rfl,rfl,by decide +kernel,rfl,by decide +kernel,by decide +kernel⟩
theorem oV(Y:Ev K mg):GQ P w base Y.CQ 2 fx :=
 aU (bi Y.CQ.F Jf (by decide) (λAo A outer s H E hr=>by
  unfold eM
  exact(ag (gz (av (aa (Aq (iW Y) hr (aa (aT 0) ae)) (aa (Aq (iW Y) hr (aa (Aq (jO Y) hr (aa (aT 0) (aa (aT 1) ae))) ae)) ae))) (fm (n:=2) rfl (aW (aO 2 Jf.nd rfl (Or.inr rfl)) (aW (aO 3 Jf.nd rfl (Or.inr rfl)) du)) (bc (bc e8))))
  (ag (aC 4 Jf.nd rfl (Or.inl rfl) (bL aX aY (by rfl) Y.Ab aas (BZ (aa (A3 (bj (N:=["_law_name", "_law_later"]) (T:=(.nm 0)) (js:=[none,some 3]) (aP (aT 2)) (λ_ _ _ _ _=>aG (i:=0) lp rfl (Or.inl rfl)) (λ_ _ _ _ _=>cx (zU (b8 (Cj hr)) b7 (aT 0) (lE 1))) (λ_ _ _ _ _=>(aT 0)))) ae))))
  (ap (ay (av (aa (aT 4) (aa (bL aX aY (by rfl) Y.Ab aas (BZ (aa (A3 (bj (N:=["_law_name", "_law_former"]) (T:=(.nm 0)) (js:=[none,some 2]) (aP (aT 3)) (λ_ _ _ _ _=>aG (i:=0) lm rfl (Or.inl rfl)) (λ_ _ _ _ _=>cx (zU (b8 (Cj hr)) b7 (aT 0) (lE 1))) (λ_ _ _ _ _=>(aT 0)))) ae))) ae))))))))) ou
theorem jL:(["_law_one", "_law_other"]:List Str).Nodup:=by decide +kernel
theorem O7:aB ["_law_found", "_law_due"] ["_law_found", "_law_due"] (au HN):=⟨rfl,rfl,rfl,by decide +kernel,rfl,by decide +kernel,by decide +kernel⟩
theorem gW(Y:Ev K mg)(G:Ae P w K mg base Bn k Y.Bg.f Y.Bg.fd ["_law_found", "_law_due"] (Gc ⟨P,w,K,EX K⟩ 2 D)):Ae P w K mg base Bn (k+1) Y.Bg.f Y.Bg.fd ["_law_found", "_law_due"] (Gc ⟨P,w,K,EX K⟩ 2 (run 2 (cb D))) :=
 bi Y.Bg.F O7 (by decide) (λAo A outer s H E hr=>by
  unfold cb
  exact(ag (aK (bp (nE (bI "tuple" (by decide) Y.zT Y.Ab aas (lE 1)))) (ag (aK (cr (cn (bJ (bp (nE (bI "tuple" (by decide) Y.zT Y.Ab aas (lE 0))))) (dL (zU (cy (Bj hr)) b0 (bf bz bA (by rfl) Y.A0 aa7 (bn (lE 0))) (nE (bf bz bA (by rfl) Y.A0 aa7 (bn (lE 1)))))))) (ap (ay cz)) aF)
  (ap (ay (bf (ia rfl) lG (by rfl) Y.FL adm (BZ (aa (A3 (bj (N:=["_law_one", "_law_other"]) (T:=(.tp [0,1])) (js:=[none,none]) (tD (by rfl) Y.ID (aa (aT 0) (aa (aT 1) ae))) (λ_ _ _ _ _=>kZ (n:=2) rfl (cG (aG (i:=0) jL rfl (Or.inl rfl)) (cG (aG (i:=1) jL rfl (Or.inl rfl)) jg))) (λ_ _ _ _ _=>bq) (λ_ _ _ _ _=>(qt G hr Y.Bg.n.mg Y.Bg.n.kp Y.Bg.b (aa (aT 0) (aa (aT 1) ae)))))) ae)))))) aF)
  (ag (aK (zU vI sk (aT 1) (nE fe)) (ap (ay (DI vI sk (aT 0) (nE fe)))) aF)
  (ag (aK (bp (nE (bI "bool" (by decide) Y.zT Y.Dn acA (lE 1)))) (ap (ay (cX (bI "bool" (by decide) Y.zT Y.Dn acA (lE 0)) (dJ (DI (aR (A8 hr)) aQ (aT 0) (lE 1)))))) aF)
  (ag (aK (bp (nE (bI "str" (by decide) Y.zT Y.Hb aeq (lE 1)))) (ap (ay (cX (bI "str" (by decide) Y.zT Y.Hb aeq (lE 0)) (dJ (DI (aR (A8 hr)) aQ (aT 0) (lE 1)))))) aF)
  (ap (ay (cX (bI "int" (by decide) Y.zT Y.IE PyProof.Rows.boot_int (lE 0)) (cX (tw (bI "bool" (by decide) Y.zT Y.Dn acA (lE 0))) (dJ (DI (aR (A8 hr)) aQ (aT 0) (lE 1))))))))))))
theorem sW(Y:Ev K mg):Ae P w K mg base Bn 1 Y.Bg.f Y.Bg.fd ["_law_found", "_law_due"] (Gc ⟨P,w,K,EX K⟩ 2 jc):=aU (gW Y (xq (n:=2))) si
theorem sV(Y:Ev K mg):Ae P w K mg base Bn 2 Y.Bg.f Y.Bg.fd ["_law_found", "_law_due"] (Gc ⟨P,w,K,EX K⟩ 2 jb):=aU (gW Y (sW Y)) sh
theorem sU(Y:Ev K mg):Ae P w K mg base Bn 3 Y.Bg.f Y.Bg.fd ["_law_found", "_law_due"] (Gc ⟨P,w,K,EX K⟩ 2 ja):=aU (gW Y (sV Y)) sg
theorem uW(Y:Ev K mg):Ae P w K mg base Bn 4 Y.Bg.f Y.Bg.fd ["_law_found", "_law_due"] (Gc ⟨P,w,K,EX K⟩ 2 kH):=aU (gW Y (sU Y)) uB
theorem Er:aB ["_law_state", "_law_net_here", "_law_due", "_law_gone", "_law_come", "_law_names", "_law_more", "_law_some"] ["_law_state", "_law_net_here", "_law_due"] (au lO):=⟨rfl,rfl,rfl,by decide +kernel,rfl,by decide +kernel,by decide +kernel⟩
theorem qW(Y:Ev K mg):GO P w base Y.E4 3 ic :=
 ck (cV Y.E4.F Er (by decide) (λAo A outer s H E hr=>by
  unfold gK
  exact(ag (gz (aT 2) (fm (n:=2) rfl (aW (aO 3 Er.nd rfl (Or.inl rfl)) (aW (aO 4 Er.nd rfl (Or.inl rfl)) du)) (bc (bc e8))))
  (ag (aC 5 Er.nd rfl (Or.inl rfl) (aD (A3 (bj (N:=["_law_tie"]) (T:=(.nm 0)) (js:=[none]) (aP (Aj hr (aT 1) (nE af))) (λ_ _ _ _ _=>aG (i:=0) bv rfl (Or.inl rfl)) (λ_ _ _ _ _=>bq) (λ_ _ _ _ _=>(Aj hr (aT 0) (nE af))))) (nE (A3 (bo (aa bb ae))))))
  (ag (aC 6 Er.nd rfl (Or.inl rfl) (zM 0 (gv Y) hr (aa (aT 5) ae)))
  (ag (aC 7 Er.nd rfl (Or.inl rfl) (A3 (bo (aa (av (aa (aD (aT 3) (nE (av (aa (aT 6) ae)))) (aa (aT 4) ae))) (aa (av (aa (aT 3) (aa (aD (aT 4) (nE (av (aa (aT 6) ae)))) ae))) (aa (av (aa (bX (aT 3) (bh (nE af)) bC) (aa (aT 4) ae))) (aa (av (aa (aT 3) (aa (bX (aT 4) (bh (nE af)) bC) ae))) (aa (av (aa (aT 4) (aa (aT 3) ae))) ae))))))))
  (ag (aC 7 Er.nd rfl (Or.inl rfl) (aD (aT 7) (nE (A3 (bo (aa (av (aa (aD (aT 3) (nE (bX (aT 3) bC (bh (nE af))))) (aa (aT 4) ae))) (aa (av (aa (aT 3) (aa (aD (bX (aT 4) bC (bh (nE af))) (lE 4)) ae))) (aa (av (aa (tu (aT 3) vF) (aa (aT 4) ae))) (aa (av (aa (aT 3) (aa (tu (aT 4) vF) ae))) ae)))))))))
  (ag (aC 7 Er.nd rfl (Or.inl rfl) (aD (aT 7) (nE (A3 (bo (aa (av (aa (av ae) (aa (av ae) ae))) (aa (av (aa (aD (aT 3) (lE 4)) (aa (av ae) ae))) (aa (av (aa (av ae) (aa (aD (aT 3) (lE 4)) ae))) (aa (av (aa (bL aX aY (by rfl) Y.Ab aas (BZ (aa (A3 (g9 rfl (by rfl) Y.Ah (BZ (aa (aD (aT 3) (nE (av (aa (aT 6) ae)))) ae)))) ae))) (aa (aT 4) ae))) ae)))))))))
  (ag (aC 7 Er.nd rfl (Or.inl rfl) (aD (aT 7) (nE (A3 (bo (aa (av (aa (aT 3) (aa (bL aX aY (by rfl) Y.Ab aas (BZ (aa (A3 (g9 rfl (by rfl) Y.Ah (BZ (aa (aD (aT 4) (nE (av (aa (aT 6) ae)))) ae)))) ae))) ae))) (aa (av (aa (A3 (fh mH mJ (by rfl) Y.Eh adb (bn (lE 3)))) (aa (aT 4) ae))) (aa (av (aa (aT 3) (aa (A3 (fh mH mJ (by rfl) Y.Eh adb (bn (lE 4)))) ae))) (aa (A3 (bo (aa (aT 3) (aa (aT 4) ae)))) ae)))))))))
  (ag (aC 7 Er.nd rfl (Or.inl rfl) (aD (aT 7) (nE (A3 (bo (aa (av (aa (aT 3) (aa (aT 4) (aa (av ae) ae)))) (aa (av (aa (aT 3) ae)) (aa (aD (aT 3) (lE 4)) (aa fe (aa cz (aa af (aa bb (aa (A3 xw) (aa (av (aa fe (aa fe ae))) (aa (av (aa (aT 3) (aa fe ae))) ae)))))))))))))))
  (ap (ay (aD (aT 7) (nE (A3 (bo (aa (av (aa (vc bb (lE 3)) (aa (aT 4) ae))) (aa (av (aa (av (aa (aT 3) ae)) (aa (aT 4) ae))) (aa (av (aa (aT 3) (aa (av (aa (aT 4) ae)) ae))) (aa (av (aa (av (aa af ae)) (aa (av ae) ae))) (aa (av (aa (av ae) (aa (av (aa fe ae)) ae))) (aa (av (aa (av (aa cz ae)) (aa (av ae) ae))) ae)))))))))))))))))))))) qR
theorem Ep:aB ["_law_script", "_law_state", "_law_turn", "_law_net_here", "_law_step", "_law_deed_here", "_law_due", "_law_thing", "_law_found", "#t"] ["_law_script"] (au KO):=⟨rfl,rfl,rfl,by decide +kernel,rfl,by decide +kernel,by decide +kernel⟩
theorem wC(Y:Ev K mg)(hB:BMain mg base):Ae P w K mg base Bn 7 Y.GD.f Y.GD.fd ["_law_script"] (spT ⟨P,w,K,EX K⟩ 1 (DC 9 (jd Y.Aa))) :=
 iX (nm := "#t") Y.GD.F Ep rfl (by decide) rfl (by unfold GN;decide +kernel) (λAo Gu A outer s H E hr=>by
  unfold jd
  exact(ag (tj 1 0 Ep.nd rfl (Or.inl rfl) (sX Y) (hr.mono (by decide)) Y.CT.n.mg Y.CT.n.kp Y.CT.b (pv 0))
  (ag (dI abO rfl (fI (by rfl) Y.CC (aa (aD af (nE (bf bz bA (by rfl) Y.A0 aa7 (BZ (aa (bX (aT 0) bC (bh (nE af))) ae))))) ae)) (aO 2 Ep.nd rfl (Or.inl rfl)) (ag (aC 3 Ep.nd rfl (Or.inl rfl) (zM 1 (xo Y) hr (aa af (aa af ae))))
  (ap (dI abO rfl (fI (by rfl) Y.CC (aa af ae)) (aO 4 Ep.nd rfl (Or.inl rfl)) (ag (aC 5 Ep.nd rfl (Or.inl rfl) (zM 1 (uY Y) hr (aa (aT 3) ae)))
  (ag (aC 6 Ep.nd rfl (Or.inl rfl) (Aq (oV Y) hr (aa (aT 3) (aa (aT 5) ae))))
  (ag (dI abO rfl (aP (aD (A3 (bo (aa (aT 6) ae))) (nE (zM 1 (qW Y) hr (aa (aT 3) (aa (aT 6) ae)))))) (aO 7 Ep.nd rfl (Or.inl rfl)) (ag (aC 8 Ep.nd rfl (Or.inl rfl) (D8 9 (iT Y hB) hr (aa (aT 3) (aa (aT 5) (aa (aT 7) ae)))))
  (ap (aK (cr (cn (bJ (bp (nE (bI "bool" (by decide) Y.zT Y.Dn acA (lE 8))))) (dL (zU (cy (Bj hr)) b0 (aT 8) (nE (Aq (uW Y) hr (aa (aT 7) (aa (aT 6) ae)))))))) (ap (ay cz)) aF))))
  (ap (aC 3 Ep.nd rfl (Or.inl rfl) (Aq (jO Y) hr (aa (aT 3) (aa (aT 5) ae))))))))))))
  (ap (ay cz)))))
theorem yB(Y:Ev K mg)(hB:BMain mg base):Ae P w K mg base Bn 7 Y.GD.f Y.GD.fd ["_law_script"] (DS K Y.Aa):=xg (wC Y hB) (wN _)
end Pre
namespace Pre
open PySem L2
structure AD(K:aah)(x:Str)(st:Stmt) where
 {f:Addr}
 {od an:Option Addr}
 {sl:Array (Option Value)}
 {oc kV dc pm cd ct:Value}
 a:abg K aaJ x=some (some (.ref f))
 l:K.lookup f=some ⟨oc,od,.func (acZ x x (eB st) (bR st) (au st) .none kV dc pm an cd ct),sl⟩
 c:aeI K cd x=true
 k:abM K (.ref f)=true
variable{K:aah}{h:Heap}{mg:Str->Option Value}{x:Str}{st:Stmt}{ps:List Str}
def Ay(X:K.In h)(G:h.Ns aaJ mg)(d:AD K x st)
  (hb:∀(kV doc pm:Value) (an:Option Addr) (Ao ct:Value) (us:List Value),us.length=ps.length->adj (acZ x x (eB st) (bR st) (au st) .none kV doc pm an Ao ct) ⟨us,[]⟩=pure (ps.zip us)):Df K mg x st ps :=
 ⟨d.f,_,sY d.l d.c d.k,(sY d.l d.c d.k).binds hb,ae0 X G d.a,d.k⟩
structure N3(K:aah)(x:Str)(D:List (Str×Addr)) where
 {a:Addr}
 {es:Array DictEntry}
 {ep:Nat}
 n:abg K aaJ x=some (some (.ref a))
 l:K.lookup a=some ⟨.type "dict",none,.dict es ep,#[]⟩
 ne:(a==acx)=false
 r:PyProof.Rows.KTD.Rows (λ(f:Addr) v=>v=aar f) es.toList D
def P4(X:K.In h)(G:h.Ns aaJ mg){D:List (Str×Addr)}(d:N3 K x D):TabAt K mg x D :=
 ⟨d.a,ae0 X G d.n,λ_ X'=>⟨d.ne,_,d.es,d.ep,X' _ _ d.l,⟨rfl,rfl,rfl⟩,rfl,d.r⟩⟩
variable{fd:abR}
theorem Ha(us:List Value)(h:us.length=1)(k:∀a0,adj fd ⟨[a0],[]⟩=pure (ps.zip [a0])):adj fd ⟨us,[]⟩=pure (ps.zip us):=by obtain⟨a0,u0,rfl⟩:=aaF (h);obtain rfl:=List.length_eq_zero_iff.mp (aba (h));exact k a0
theorem EK(us:List Value)(h:us.length=2)(k:∀a0 a1,adj fd ⟨[a0,a1],[]⟩=pure (ps.zip [a0,a1])):adj fd ⟨us,[]⟩=pure (ps.zip us):=by obtain⟨a0,u0,rfl⟩:=aaF (h);obtain⟨a1,u1,rfl⟩:=aaF (aba (h));obtain rfl:=List.length_eq_zero_iff.mp (aba (aba (h)));exact k a0 a1
theorem OV(us:List Value)(h:us.length=3)(k:∀a0 a1 a2,adj fd ⟨[a0,a1,a2],[]⟩=pure (ps.zip [a0,a1,a2])):adj fd ⟨us,[]⟩=pure (ps.zip us):=by obtain⟨a0,u0,rfl⟩:=aaF (h);obtain⟨a1,u1,rfl⟩:=aaF (aba (h));obtain⟨a2,u2,rfl⟩:=aaF (aba (aba (h)));obtain rfl:=List.length_eq_zero_iff.mp (aba (aba (aba (h))));exact k a0 a1 a2
theorem Vl(us:List Value)(h:us.length=4)(k:∀a0 a1 a2 a3,adj fd ⟨[a0,a1,a2,a3],[]⟩=pure (ps.zip [a0,a1,a2,a3])):adj fd ⟨us,[]⟩=pure (ps.zip us):=by obtain⟨a0,u0,rfl⟩:=aaF (h);obtain⟨a1,u1,rfl⟩:=aaF (aba (h));obtain⟨a2,u2,rfl⟩:=aaF (aba (aba (h)));obtain⟨a3,u3,rfl⟩:=aaF (aba (aba (aba (h))));obtain rfl:=List.length_eq_zero_iff.mp (aba (aba (aba (aba (h)))));exact k a0 a1 a2 a3
theorem zj{l:afL}{w:World}{fa c T:Addr}{SU:Tok}(X:K.In h)(G:h.Ns aaJ mg)(Us:mg "law" = some (.ref fa))
  (d1:AD K "is_word" lQ) (d2:AD K "is_whole" j4) (d3:AD K "is_rising" iB) (d4:AD K "are_words" iH) (d5:AD K "is_open" lR) (d6:AD K "ties_by_name" fU) (d7:AD K "open_ties" iA) (d8:AD K "ranks" Gg) (d9:AD K "cheaper_first" dY) (Vi:AD K "without_round" dX) (Vh:AD K "cheapest" iE) (Vg:AD K "are_ends_and_cost" cT) (Vf:AD K "is_deed" lS) (Su:AD K "place_comes" fV) (Ss:AD K "place_leaves" eR) (Sr:AD K "tie_comes" iz) (Sq:AD K "tie_goes" j0) (So:AD K "tie_costs" iy) (Ve:AD K "changed" j5) (Vd:AD K "between" j6) (Vc:AD K "exchange" iC) (Vb:AD K "shows_exchange" di) (Va:AD K "_law_begin" BO) (U9:AD K "_law_next" G0) (U8:AD K "_law_words" Gf) (U7:AD K "_law_cost" HU) (U6:AD K "_law_ends" HQ) (U5:AD K "_law_net" KN) (U4:AD K "_law_of" PC) (U3:AD K "_law_fresh" Gh) (U2:AD K "_law_new_tie" lP) (U1:AD K "_law_deed" HS) (U0:AD K "_law_changed" iG) (UZ:AD K "_law_cheapest" gU) (UY:AD K "_law_exchange" gS) (UX:AD K "_law_same" HN) (UW:AD K "_law_papers" lO) (OU:AD K "law" KO) (t1:N3 K "DEEDS" [("place",Su.f),("leave",Ss.f),("tie",Sr.f),("untie",Sq.f),("cost",So.f)]) (hcd:d9.cd=.ref c) (hC:abT K c T=true)
  (z1:abg K aaJ "ValueError" = some none) (z2:abg K aaJ "abs" = some none) (z3:abg K aaJ "all" = some none) (z4:abg K aaJ "bool" = some none) (z5:abg K aaJ "dict" = some none) (z6:abg K aaJ "int" = some none) (z7:abg K aaJ "isinstance" = some none) (z8:abg K aaJ "len" = some none) (z9:abg K aaJ "list" = some none) (z10:abg K aaJ "max" = some none) (z11:abg K aaJ "min" = some none) (z12:abg K aaJ "range" = some none) (z13:abg K aaJ "set" = some none) (z14:abg K aaJ "sorted" = some none) (z15:abg K aaJ "str" = some none) (z16:abg K aaJ "tuple" = some none) (z17:abg K aaJ "zip" = some none) (q1:abg K aaJ "LONGEST_WORD" = some (some (.int 8 SU))) :
  ∃fd:abR,(∀(s:Shared) (v:Value),BindsTo s fd ⟨[v],[]⟩ [("_law_script",v)])/\(∃c,abT K c T=true)/\∀base:Heap,K.In base->base.Ns aaJ mg->BMain mg base->Ae l.prog w K mg base Bn 7 fa fd ["_law_script"] (Q.DS K T):=by
 obtain⟨V,_,v,vT⟩:∃V:Ev K mg,∃hb,V.GD=Ay X G OU hb/\V.Aa=T:=⟨{E6:=Ay X G d1 (λ_ _ _ _ _ _ us hl=>Ha us hl λ_=>rfl),Ea:=Ay X G d2 (λ_ _ _ _ _ _ us hl=>Ha us hl λ_=>rfl),Dd:=Ay X G d3 (λ_ _ _ _ _ _ us hl=>Ha us hl λ_=>rfl),Di:=Ay X G d4 (λ_ _ _ _ _ _ us hl=>Ha us hl λ_=>rfl),E7:=Ay X G d5 (λ_ _ _ _ _ _ us hl=>EK us hl λ_ _=>rfl),Cw:=Ay X G d6 (λ_ _ _ _ _ _ us hl=>Ha us hl λ_=>rfl),Dc:=Ay X G d7 (λ_ _ _ _ _ _ us hl=>Ha us hl λ_=>rfl),GC:=Ay X G d8 (λ_ _ _ _ _ _ us hl=>Ha us hl λ_=>rfl),Bb:=Ay X G d9 (λ_ _ _ _ _ _ us hl=>EK us hl λ_ _=>rfl),BP:=Ay X G Vi (λ_ _ _ _ _ _ us hl=>EK us hl λ_ _=>rfl),Dg:=Ay X G Vh (λ_ _ _ _ _ _ us hl=>Ha us hl λ_=>rfl),Bk:=Ay X G Vg (λ_ _ _ _ _ _ us hl=>Ha us hl λ_=>rfl),E8:=Ay X G Vf (λ_ _ _ _ _ _ us hl=>Ha us hl λ_=>rfl),AI:=Ay X G Su (λ_ _ _ _ _ _ us hl=>EK us hl λ_ _=>rfl),Az:=Ay X G Ss (λ_ _ _ _ _ _ us hl=>EK us hl λ_ _=>rfl),Ba:=Ay X G Sr (λ_ _ _ _ _ _ us hl=>EK us hl λ_ _=>rfl),BA:=Ay X G Sq (λ_ _ _ _ _ _ us hl=>EK us hl λ_ _=>rfl),A9:=Ay X G So (λ_ _ _ _ _ _ us hl=>EK us hl λ_ _=>rfl),Eb:=Ay X G Ve (λ_ _ _ _ _ _ us hl=>EK us hl λ_ _=>rfl),Ec:=Ay X G Vd (λ_ _ _ _ _ _ us hl=>EK us hl λ_ _=>rfl),De:=Ay X G Vc (λ_ _ _ _ _ _ us hl=>EK us hl λ_ _=>rfl),BB:=Ay X G Vb (λ_ _ _ _ _ _ us hl=>OV us hl λ_ _ _=>rfl),CT:=Ay X G Va (λ_ _ _ _ _ _ us hl=>Ha us hl λ_=>rfl),G8:=Ay X G U9 (λ_ _ _ _ _ _ us hl=>EK us hl λ_ _=>rfl),GB:=Ay X G U8 (λ_ _ _ _ _ _ us hl=>EK us hl λ_ _=>rfl),IA:=Ay X G U7 (λ_ _ _ _ _ _ us hl=>EK us hl λ_ _=>rfl),Iy:=Ay X G U6 (λ_ _ _ _ _ _ us hl=>Vl us hl λ_ _ _ _=>rfl),LN:=Ay X G U5 (λ_ _ _ _ _ _ us hl=>OV us hl λ_ _ _=>rfl),Q5:=Ay X G U4 (λ_ _ _ _ _ _ us hl=>EK us hl λ_ _=>rfl),GF:=Ay X G U3 (λ_ _ _ _ _ _ us hl=>EK us hl λ_ _=>rfl),E5:=Ay X G U2 (λ_ _ _ _ _ _ us hl=>OV us hl λ_ _ _=>rfl),Iz:=Ay X G U1 (λ_ _ _ _ _ _ us hl=>EK us hl λ_ _=>rfl),Dh:=Ay X G U0 (λ_ _ _ _ _ _ us hl=>EK us hl λ_ _=>rfl),CS:=Ay X G UZ (λ_ _ _ _ _ _ us hl=>Ha us hl λ_=>rfl),CQ:=Ay X G UY (λ_ _ _ _ _ _ us hl=>EK us hl λ_ _=>rfl),Bg:=Ay X G UX (λ_ _ _ _ _ _ us hl=>EK us hl λ_ _=>rfl),E4:=Ay X G UW (λ_ _ _ _ _ _ us hl=>OV us hl λ_ _ _=>rfl),GD:=Ay X G OU (λ_ _ _ _ _ _ us hl=>Ha us hl λ_=>rfl),Ff:=aaO X G z1,Kf:=aaO X G z2,FL:=aaO X G z3,Dn:=aaO X G z4,Fe:=aaO X G z5,IE:=aaO X G z6,zT:=aaO X G z7,A0:=aaO X G z8,Eh:=aaO X G z9,Hc:=aaO X G z10,Ke:=aaO X G z11,CC:=aaO X G z12,Kd:=aaO X G z13,Ah:=aaO X G z14,Hb:=aaO X G z15,Ab:=aaO X G z16,ID:=aaO X G z17,Cz:=⟨_,ae0 X G q1⟩,ES:=P4 X G t1,Aa:=T,Cc:=⟨c,hcd,hC⟩},λ_ _ _ _ _ _ us hl=>Ha us hl λ_=>rfl,rfl,rfl⟩
 have g:=λbase hB=>yB (P:=l.prog) (w:=w) (base:=base) V hB
 rw[v,vT]at g
 have e:=Us.symm.trans (ae0 X G OU.a)
 obtain rfl:fa=OU.f:=by injection e with e;injection e
 exact⟨_,λs v=>.of_eq rfl,⟨c,hC⟩,λbase _ _=>g base⟩
theorem walk{l:afL}{q:aaI}{loose:List Str}{XP:(Str->Option Value)->Heap->Prop}{YP:World->Heap->Prop}{d:DefRec}{K:Params->aah}{T:Addr}(hn:l.most=some 63)(NI:d.params.defaults=[])
  (hY:∀(w:World) (h:Heap),YP w h->(K w.params).In h/\h.get? T=some (adM #[])) (hKT:∀w:World,(K w.params).lookup T=none)
  (F:∀(w:World) (mg:Str->Option Value) (fa:Addr) (h:Heap),(K w.params).In h->h.Ns aaJ mg->mg d.name=some (.ref fa) ->
   ∃fd:abR,(∀(s:Shared) (u:Value),BindsTo s fd ⟨[u],[]⟩ [("_law_script",u)])/\(∃c,abT (K w.params) c T=true)/\∀base:Heap,(K w.params).In base->base.Ns aaJ mg->BMain mg base->Ae l.prog w (K w.params) mg base Bn 7 fa fd ["_law_script"] (Q.DS (K w.params) T)) :
  PySem.W.WalkO q loose XP YP l.row.toRowW d [] (λf vs=>PySem.call f vs) :=
 L2.tX (n:=63) (k:=7) (x := "_law_script") (sp:=λw=>Q.DS (K w.params) T) hn (by decide) NI ⟨rfl,by decide,by decide,rfl⟩ hY hKT F λw H a ns hl hS hT=>⟨a,ns,rfl,hS,hl,hT,λH' ps e=>⟨rfl,ps,e⟩⟩
end Pre
open PySem PySem.W PyProof.Rows
set_option maxRecDepth 100000 in
set_option maxHeartbeats 0 in
theorem PySem.Challenge.cw_cheaptree_k35_exchanges_shown_holds : PySem.Challenge.rw_cheaptree_k35_exchanges_shown.Holds := by
 w_on; o_law; km_head; (case hw=>w_witness2)
 k_fill
 refine Pre.walk (l:=PySem.Challenge.rw_cheaptree_k35_exchanges_shown) rfl rfl (fun w h Y=>⟨PySem.W.km_in_of Y,PySem.W.km_tabs_of Y _ List.mem_cons_self⟩) ?hKT ?F
 case F =>
  intro w mg fa h KX G hmg
  refine' Pre.zj KX G hmg ⟨?a1,?l1,?c1,?k1⟩ ⟨?a2,?l2,?c2,?k2⟩ ⟨?a3,?l3,?c3,?k3⟩ ⟨?a4,?l4,?c4,?k4⟩ ⟨?a5,?l5,?c5,?k5⟩ ⟨?a6,?l6,?c6,?k6⟩ ⟨?a7,?l7,?c7,?k7⟩ ⟨?a8,?l8,?c8,?k8⟩ ⟨?a9,?l9,?c9,?k9⟩ ⟨?a10,?l10,?c10,?k10⟩ ⟨?a11,?l11,?c11,?k11⟩ ⟨?a12,?l12,?c12,?k12⟩ ⟨?a13,?l13,?c13,?k13⟩ ⟨?a14,?l14,?c14,?k14⟩ ⟨?a15,?l15,?c15,?k15⟩ ⟨?a16,?l16,?c16,?k16⟩ ⟨?a17,?l17,?c17,?k17⟩ ⟨?a18,?l18,?c18,?k18⟩ ⟨?a19,?l19,?c19,?k19⟩ ⟨?a20,?l20,?c20,?k20⟩ ⟨?a21,?l21,?c21,?k21⟩ ⟨?a22,?l22,?c22,?k22⟩ ⟨?a23,?l23,?c23,?k23⟩ ⟨?a24,?l24,?c24,?k24⟩ ⟨?a25,?l25,?c25,?k25⟩ ⟨?a26,?l26,?c26,?k26⟩ ⟨?a27,?l27,?c27,?k27⟩ ⟨?a28,?l28,?c28,?k28⟩ ⟨?a29,?l29,?c29,?k29⟩ ⟨?a30,?l30,?c30,?k30⟩ ⟨?a31,?l31,?c31,?k31⟩ ⟨?a32,?l32,?c32,?k32⟩ ⟨?a33,?l33,?c33,?k33⟩ ⟨?a34,?l34,?c34,?k34⟩ ⟨?a35,?l35,?c35,?k35⟩ ⟨?a36,?l36,?c36,?k36⟩ ⟨?a37,?l37,?c37,?k37⟩ ⟨?a38,?l38,?c38,?k38⟩ ⟨?tn1,?tl1,?te1,?tr1⟩ ?hcd ?hC2 ?z1 ?z2 ?z3 ?z4 ?z5 ?z6 ?z7 ?z8 ?z9 ?z10 ?z11 ?z12 ?z13 ?z14 ?z15 ?z16 ?z17 ?q1
  (case a1=>k_is); (case l1=>k_is); (case c1=>k_is); (case k1=>k_is); (case a2=>k_is); (case l2=>k_is); (case c2=>k_is); (case k2=>k_is); (case a3=>k_is); (case l3=>k_is); (case c3=>k_is); (case k3=>k_is); (case a4=>k_is); (case l4=>k_is); (case c4=>k_is); (case k4=>k_is)
  (case a5=>k_is); (case l5=>k_is); (case c5=>k_is); (case k5=>k_is); (case a6=>k_is); (case l6=>k_is); (case c6=>k_is); (case k6=>k_is); (case a7=>k_is); (case l7=>k_is); (case c7=>k_is); (case k7=>k_is); (case a8=>k_is); (case l8=>k_is); (case c8=>k_is); (case k8=>k_is)
  (case a9=>k_is); (case l9=>k_is); (case c9=>k_is); (case k9=>k_is); (case a10=>k_is); (case l10=>k_is); (case c10=>k_is); (case k10=>k_is); (case a11=>k_is); (case l11=>k_is); (case c11=>k_is); (case k11=>k_is); (case a12=>k_is); (case l12=>k_is); (case c12=>k_is); (case k12=>k_is)
  (case a13=>k_is); (case l13=>k_is); (case c13=>k_is); (case k13=>k_is); (case a14=>k_is); (case l14=>k_is); (case c14=>k_is); (case k14=>k_is); (case a15=>k_is); (case l15=>k_is); (case c15=>k_is); (case k15=>k_is); (case a16=>k_is); (case l16=>k_is); (case c16=>k_is); (case k16=>k_is)
  (case a17=>k_is); (case l17=>k_is); (case c17=>k_is); (case k17=>k_is); (case a18=>k_is); (case l18=>k_is); (case c18=>k_is); (case k18=>k_is); (case a19=>k_is); (case l19=>k_is); (case c19=>k_is); (case k19=>k_is); (case a20=>k_is); (case l20=>k_is); (case c20=>k_is); (case k20=>k_is)
  (case a21=>k_is); (case l21=>k_is); (case c21=>k_is); (case k21=>k_is); (case a22=>k_is); (case l22=>k_is); (case c22=>k_is); (case k22=>k_is); (case a23=>k_is); (case l23=>k_is); (case c23=>k_is); (case k23=>k_is); (case a24=>k_is); (case l24=>k_is); (case c24=>k_is); (case k24=>k_is)
  (case a25=>k_is); (case l25=>k_is); (case c25=>k_is); (case k25=>k_is); (case a26=>k_is); (case l26=>k_is); (case c26=>k_is); (case k26=>k_is); (case a27=>k_is); (case l27=>k_is); (case c27=>k_is); (case k27=>k_is); (case a28=>k_is); (case l28=>k_is); (case c28=>k_is); (case k28=>k_is)
  (case a29=>k_is); (case l29=>k_is); (case c29=>k_is); (case k29=>k_is); (case a30=>k_is); (case l30=>k_is); (case c30=>k_is); (case k30=>k_is); (case a31=>k_is); (case l31=>k_is); (case c31=>k_is); (case k31=>k_is); (case a32=>k_is); (case l32=>k_is); (case c32=>k_is); (case k32=>k_is)
  (case a33=>k_is); (case l33=>k_is); (case c33=>k_is); (case k33=>k_is); (case a34=>k_is); (case l34=>k_is); (case c34=>k_is); (case k34=>k_is); (case a35=>k_is); (case l35=>k_is); (case c35=>k_is); (case k35=>k_is); (case a36=>k_is); (case l36=>k_is); (case c36=>k_is); (case k36=>k_is)
  (case a37=>k_is); (case l37=>k_is); (case c37=>k_is); (case k37=>k_is); (case a38=>k_is); (case l38=>k_is); (case c38=>k_is); (case k38=>k_is); (case z1=>k_is); (case z2=>k_is); (case z3=>k_is); (case z4=>k_is); (case z5=>k_is); (case z6=>k_is); (case z7=>k_is); (case z8=>k_is)
  (case z9=>k_is); (case z10=>k_is); (case z11=>k_is); (case z12=>k_is); (case z13=>k_is); (case z14=>k_is); (case z15=>k_is); (case z16=>k_is); (case z17=>k_is); (case q1=>k_is)
  (case tn1=>k_is); (case tl1=>k_is); (case te1=>rfl); (case tr1=>repeat (first | exact .nil | refine .cons rfl rfl ?_))
  (case hcd=>exact rfl); (case hC2=>kernel_rfl)
 case hKT=>(intro w; kernel_rfl)
