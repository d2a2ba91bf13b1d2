import PyProof.Rows.All
import Wide.All
import OpenK.AllK
import Wide.FinOn
import Lean
import PyProof.EqAt
import PyProof.EqKinds
import PyProof.TupleCall
import KE.KDictOf
import KE.KDictSum
import KE.KIntText
import KE.KLam
import KE.KMinBuiltin
import KE.KNestM
import KE.KPairComp
import KE.KSortKey
import KE.KSortTup
import KE.KTab
import KE.LcSums
import PyProof.AttrMissHeap
import PyProof.Conv_int_bool
import PyProof.DictValues
import PyProof.Draws
import PyProof.EnumFor
import PyProof.EnumMake
import PyProof.EnumStmt
import PyProof.FactsAll.list_1
import PyProof.ListStr
import PyProof.MeetsStr2
import PyProof.NeKinds
import PyProof.ReprLen
import PyProof.ReprRoads
import PyProof.Rows.EnumRows
import PyProof.Rows.SetFrom
import PyProof.Rows.SortRev
import PyProof.Rows.StrBin
import PyProof.Rows.TupAdd
import PyProof.SetRoads
import PyProof.StrBlockG
import PyProof.StrBlockI
import PyProof.StrLawsChain
import PyProof.StrLawsIn
import PyProof.StrLawsRepr
import PyProof.StrLawsTight
import PyProof.StrWalks
import PyProof.WalksMore
import PyProof.ZipIter
import PySem.Challenge.RW_cheaptree_k44_whole_at_the_told_cost
set_option compiler.extract_closed false
set_option Elab.async false
set_option linter.all false
set_option maxRecDepth 100000
open List renaming getElem?_eq_getElem→aaa,getD_eq_getElem?_getD→aac,length_map→aae,getElem?_map→aah,mem_cons_of_mem→aaj,size_toArray→aam,mem_append_right→aao,getElem?_eq_none→aap,mem_cons_self→aar,getElem?_append_left→aat,getElem?_set_ne→aav,exists_cons_of_length_eq_add_one→aaw,map_cons→aaz,replicate→aaC,mem_append_left→aaD,length_filter_le→aaF,map_map→aaH,length_cons→aaI,mem_map_of_mem→aaO,map_append→aaP,map_congr_left→aaY,range→aaZ,mem_of_getElem?→aa1,length_append→aa3,zip_cons_cons→aa7,set_eq_of_length_le→aa8,mem_append→aa9,lookup_cons→abd,length_take→abe,getElem?_zip_eq_some→abj,getElem_mem→abk,mapM_cons→abq,getElem?_cons_zero→abt,getElem_inj→abu,getElem?_set→abv,nil_append→aby,replicate_succ→abD,mem_filter→abE,length_nil→abF,length_replicate→abL,append_nil→abO,getElem?_range→abS,filter_sublist→abT,take_length→abU,getElem?_set_self→abZ,nodup_append→ab9,mem_cons→aca,nodup_iff_pairwise_ne→acd,pairwise_iff_getElem→acg,getElem?_cons_succ→acq,filter_filter→acr,filterMap_map→acs,take_of_length_le→acw,filter_congr→acy,ext_getElem?→acz,take_succ→acB,length_singleton→acC,not_mem_nil→acD,getElem_map→acE,filter_cons→acF,mem_of_mem_take→acG,of_mem_zip→acL,getElem_of_mem→acM,filterMap_cons→acN,getElem?_append_right→acP,mem_map→acU,lt_irrefl→acX,drop_eq_getElem_cons→acY,zip_nil_left→ac2,length_range→ac3,eq_of_mem_replicate→ac4,length→ada,nodup_range→adb,all_eq_true→adc,drop_eq_nil_of_le→adf,nodup_cons→adp,getElem?_toArray→adq,lookup→adB,mem_singleton→adL,take_sublist→ad0,pairwise_map→ad1,eraseIdxIfInBounds_toArray→ad2,append_assoc→ad3,toArray→ad8,take_append_of_le_length→aec,map_snd_zip→aed,range_succ→aeq,length_set→aer,getD→aes,filter_map→aet,perm_ext_iff_of_nodup→aeu,mem_of_find?_eq_some→aez,findIdx?_eq_none_iff→aeA
open PySem renaming wpAny_bind→aab,starEach→aag,wpAny_pure→aal,Program→aaA,sizeLine_eq→aaB,mainGlobals→aaJ,wpAny_mono→aaK,compareOp→aaL,wpAny_holding→aaM,foldedSetIterable→aaT,wpAny_tryCatch→abb,wpAny_truthy_bool→abf,FuncData→abl,mem_of_lookup→abC,wpAny_call_entry→abI,wpAny_Call_Name_kw→abJ,swapsWith→abK,binaryOp→abR,wpAny_seqItems→abV,sysModules→abW,assignEach→abX,wpAny_passesOwn→ab1,bootBuiltins→ab2,wpAny_standAt→ab4,wpAny_newList→ab5,plainId_quiet→ab6,behindInMarks→ab7,attributeBase→ab8,codeAmong→ace,boot_len→acf,wpAny_letGo→aci,wpAny_updateSeq→acl,wpAny_pyNext_tuple_item→acm,holding→acn,wpAny_pyNext_tuple_end→acv,bindArgs→acA,sliceBounds→acK,wpAny_pyIter_tuple→acQ,tupleKind_room_in1→acR,NameKind→acT,getItem→acV,wpAny_pyIter_list→ac0,wpAny_callSpecial?_slot→ac5,swapsWithSole→ac6,swappedStores→ac7,strIterType→ac8,wpAny_loadPart'→adh,wpAny_execs_nil→adi,codeAny_builtin→adm,codeAny→adn,Keyword→adr,closureFor→adu,wpAny_newFunctionEnv→adw,keywordEach→adA,updateSeq→adE,wpAny_sequenceKey→adO,wpAny_rule→adP,wpAny_newObj_type→adQ,wpAny_assign_Name→adR,wpAny_Name→adS,call_meets→adT,builtinsNs→adU,wpAny_eqBool_str→aea,noFill_tuple_add→aeb,compPost→aee,tupleKind→aeg,subscripted→aeh,letOwnedTupleGo→aej,callerA→aek
open PySem.Heap renaming get?_push_of_some→aad,lt_size→aai,get?_push_size→aan,size_push→ach,SameBut→ads,get?_update_ne→adC
open PySem.W renaming Frag→aaf,codeHdIn→aaN,mg_none_of→aaV,nsIn→abh,kia_one→abi,keepIn→abx,fnOf→acj,tabObj→acW,kitOne→ady,codeIn→adz,kas_item→adF,mg_of→adI,methodObj→adV,instObj→aen,OpenLaw→aeo,lookIn→aey
open Nat renaming le_refl→aak,lt_of_lt_of_le→aax,ne_of_lt→aay,zero_le→aaS,lt_succ_self→aaU,lt_or_ge→aaX,le_trans→aa4,lt_irrefl→abg,lt_succ_of_lt→abp,zero_add→abQ,ne_of_gt→ab3,add_assoc→acJ,lt_trichotomy→adZ,le_of_lt→ad6,le_of_eq→ad7
open Option.some renaming inj→aaq,injEq→adW
open Sum renaming inr→aas,inl→ael
open Option renaming map_eq_some_iff→aau,isSome_some→adK,map→adX,isSome_map→adY
open Bool renaming false_ne_true→aaE,and_eq_true→aaR,eq_iff_iff→aa2,not_eq_true'→acb,false_eq_true→acu,or_eq_true→acO,true_and→adM,not_true→adN,not_false→aeD
open PySem.Str renaming ofString→aaG
open PyProof.Rows renaming boot_tuple→aaQ,get?_update_seq→abB,slot_tuple_getitem→abN,listUpdate_at→acI,entry_list_sort→adk,boot_abs→ado,slot_list_sort→adx,AllBare→adD,assignInOrder_cons→adG,tuples'→aef,seqEpoch_at→aei,callWith_type1→aep,args_list_sort→aex
open Nat.succ renaming inj→aaW
open PySem.Value renaming ref→aa0,none→aa5,type→acx,str→adH
open PySem.NameKind renaming free→aa6,cell→acp
open PySem.Heap.SameBut renaming update→aba
open Ne renaming symm→abm
open PySem.F renaming type_list_append→abn,slot_list_append→abo,plain_min_loop→abG,plain_max_loop→abH,plainAttrs_list→aco,args_tuple_add_2→ac1,entry_tuple_add→ac9,slot_tuple_add→ade,slot_str_ascii_iterator_iter→ad9
open PySem.PassesOwn renaming never→abr
open Array renaming length_toList→abw,getElem?_eq_getElem→aeE
open PySem.Obj renaming mapSeq→abz
open Int renaming emod_lt_of_pos→abA,emod_nonneg→abP
open Classical renaming byContradiction→abM
open True renaming intro→abY
open PySem.SeqAt.EqAt renaming int_int→ab0,str_str→acS,same→aem
open False renaming elim→ack
open PySem.Builtin.Str renaming occurrences→act
open PySem.Around renaming under_plainId→acH
open PySem.Builtin.Slice renaming slicePlaces→acZ,sliceAdjust→aeC
open PySem.Calls renaming callWith_builtin→adg,Name_function_global→aev,call_function_entry→aeB
open ForInStep renaming yield→adt
open PySem.SeqAt renaming EqAt→adv
open PySem.Paired renaming length→adJ
open List.Pairwise renaming nil→ad4
open PySem.Builtin.Tuple renaming tupleCompareSizes→ad5,tupleItemsOf→aew
namespace PySem.W.Fast
def tw11251174345810683395:=()
def tw4815771472383302653:=()
def tw12921650968182608897:=()
def tw15529218051551913665:=()
def tw16716992905372169560:=()
def tw4745502484073354342:=()
def tw16820294837110191440:=()
def tw16505100263485984892:=()
def tw16880491756523954272:=()
def tw15375144233340333310:=()
def tw2171152754697622126:=()
def tw7321016035121258093:=()
def tw9907148882414420219:=()
def tw17566037508963529148:=()
def tw14204718290178066406:=()
def tw14855655350520883501:=()
def tw9860458905813953440:=()
def tw17507648978635080316:=()
def tw14639460678564231030:=()
def tw17800832985854145036:=()
def tw13114069936827648175:=()
def tw18339176285443363809:=()
def tw924249899839743307:=()
def tw5977555209903270253:=()
def tw10182292761866998180:=()
def tw7687964223162702929:=()
def tw9347349272173364503:=()
def tw4888428463300710856:=()
def tw5741671869872272337:=()
def tw2140763094563362329:=()
def tw9648837661999913030:=()
def tw1353323998889959528:=()
def tw547711301852792077:=()
def tw2850722414341612464:=()
def tw14941045919985631777:=()
def tw15850833190779069522:=()
def tw1695938761658720881:=()
def tw11698531592277004354:=()
def tw16865017248271023738:=()
def tw17077544088903714535:=()
def tw4341674222806702919:=()
def tw13013852998898038481:=()
def tw7475155196105855709:=()
def tw17157319264500758641:=()
def tw8234975591047803446:=()
def tw10164577538942465944:=()
def tw10356235083967306289:=()
def tw8887572214694795895:=()
def tw15353109927286563050:=()
def tw6251350528080156186:=()
def tw14032143119351538198:=()
def tw16799829048948278905:=()
def tw13063217789821288078:=()
def tw14136623124696242172:=()
def tw11734752031605817297:=()
def tw12377556935332379073:=()
def tw8124889473214953237:=()
def tw9324814788533456915:=()
def tw4348736547039228961:=()
def tw15432950463325754798:=()
def tw12667365495123939513:=()
def tw10414480132157990024:=()
def tw5335509359041889645:=()
def tw10767799784699596776:=()
def tw16892480484254376956:=()
def tw4154716916864723893:=()
def tw11165597533321238690:=()
def tw14853827412580818180:=()
def tw1717609900595505945:=()
def tw2880989509391669704:=()
def tw704667196997910369:=()
def tw3215922297364489630:=()
def tw4368546820824843045:=()
def tw12648516615356917704:=()
def tw16704081788140583820:=()
def tw3230257493001517911:=()
def tw7463843236858999785:=()
def tw5011505801981384:=()
def tw10732376789470857217:=()
def tw7582116235674970515:=()
def tw9040787676524304049:=()
def tw6939630984804712854:=()
def tw16664112483332658113:=()
def tw719079591200712084:=()
def tw7556976526254479030:=()
def tw3890455999564048392:=()
def tw12925764516305414813:=()
def tw7232800697533829256:=()
def tw5085731777881869814:=()
def tw1391345528928946008:=()
def tw9000000740013087079:=()
def tw11424845330030119272:=()
def tw17704249323777324971:=()
def tw10374541529380458393:=()
def tw5904170844651965066:=()
def tw11988821231370924422:=()
def tw9845908452923573260:=()
def tw12760035526459381903:=()
def tw14943358692822536681:=()
def tw2549357092952320752:=()
def tw7894180582792425439:=()
def tw12129808336513451927:=()
def tw4183152359693616199:=()
def tw5779504875986868348:=()
def tw10511254246141473306:=()
def tw2181694046194243952:=()
def tw7785341633121000870:=()
def tw9551131198814596245:=()
def tw17845463998602787260:=()
def tw10037112595099579456:=()
def tw1862962635037379974:=()
def tw3251136705140067181:=()
def tw17423064271079919075:=()
def tw2102363016889028042:=()
def tw7757525323035710136:=()
def tw6560787945967021468:=()
def tw10179661613825005633:=()
def tw16900289111905160366:=()
def tw13406413607367988896:=()
def tw8873510016137588667:=()
def tw5493840083608925893:=()
def tw15935674875944806784:=()
def tw12443359129050621941:=()
def tw14263813255463825356:=()
def tw4080751793835944047:=()
def tw1917387859857885179:=()
def tw6146684131002395185:=()
def tw5820048465787512787:=()
def tw14373425905986633449:=()
def tw16251837612046766053:=()
def tw545357707088748608:=()
def tw17472942745551824126:=()
def tw3943799592406718779:=()
def tw9912968081327871219:=()
def tw8644371473103545845:=()
def tw11050809305113206500:=()
def tw12782500452968719523:=()
def tw10342471179068528603:=()
def tw16023852666164128962:=()
def tw12129711258490403274:=()
def tw11629399811123547278:=()
def tw10761647985514946:=()
def tw12513984699836501289:=()
def tw15141182691814263947:=()
def tw13736441314095236407:=()
def tw13087891138252586960:=()
def tw4170110274125655144:=()
def tw3903686694622929697:=()
def tw13127227195022894207:=()
def tw10400063999610454686:=()
def tw5101246632749565615:=()
def tw7041439991871626597:=()
def tw17795687206659311972:=()
def tw15634617014032960599:=()
def tw1738907238514769498:=()
def tw16223106435652192731:=()
def tw15354606757508982251:=()
def tw15297323783770130418:=()
def tw15091093022473815667:=()
def tw4741391252125409731:=()
def tw4621520567784965724:=()
def tw1958650344843082728:=()
def tw14888733530439171101:=()
def tw3647574930434690080:=()
def tw14165330567331761995:=()
def tw14273556172181290697:=()
def tw2813651021789757494:=()
def tw1785564212642258238:=()
def tw17595891063042882382:=()
def tw7259552992612553634:=()
def tw9409769765059797577:=()
def tw1683422718783962254:=()
def tw17549704017509943961:=()
def tw5301382108330454535:=()
def tw12099853225489779883:=()
def tw11989152812150105151:=()
def tw16957507588552375048:=()
def tw3683070592639552063:=()
def tw17506455121094434249:=()
def tw15953677071365740413:=()
def tw7116467806732966216:=()
def tw8557045122769318378:=()
def tw779200232034055449:=()
end PySem.W.Fast
def Z0:True:=trivial
namespace L2
open PySem PySem.Spec PyProof.Rows
abbrev Key:=Sum Int Str
def Di:Key->Value->Bool
 |.inl k,v=>Value.isInt k v
 |.inr x,v=>Value.isStrOf x v
def O6(w:World):Key->Int
 |.inl k=>hashInt k
 |.inr x=>hashStr w x
def aV:∀{k:Key} {v:Value},Di k v=true->(∃i t,k=ael i/\v=Value.int i t)\/(∃x t,k=aas x/\v=adH x t)
 |.inl i,v,h=>by
  obtain⟨t,e⟩:=Value.isInt_shape h;exact .inl ⟨i,t,rfl,e⟩
 |.inr x,v,h=>by
  obtain⟨t,e⟩:=Value.isStrOf_shape h;exact .inr ⟨x,t,rfl,e⟩
def rY(i:Int)(t:Tok):Di (.inl i) (.int i t)=true:=by simp[Di,Value.isInt]
def rX(x:Str)(t:Tok):Di (.inr x) (.str x t)=true:=by simp[Di,Value.isStrOf]
def xD(a b:Int):decide ((ael a:Key)=ael b)=(a==b):=by
 by_cases e:a=b
 .subst e;simp
 .have h:¬ (ael a:Key)=ael b:=λq=>e (Sum.inl.inj q);rw[decide_eq_false h];exact(beq_eq_false_iff_ne.mpr e).symm
def xA(a b:Str):decide ((aas a:Key)=aas b)=decide (a=b):=by simp_all
def xC(a:Int)(b:Str):decide ((ael a:Key)=aas b)=false:=decide_eq_false (λq=>nomatch q)
def xB(a:Str)(b:Int):decide ((aas a:Key)=ael b)=false:=decide_eq_false (λq=>nomatch q)
def aH(prog:aaA)(w:World):PySem.KeyKind prog w Key where
 is:=Di
 hash:=O6 w
 inj:=λv a b ha hb=>by
  rcases aV ha with ⟨i,t,rfl,rfl⟩|⟨x,t,rfl,rfl⟩
  .rcases aV hb with ⟨j,u,rfl,e⟩|⟨y,u,rfl,e⟩
   .injection e with e1 _;rw[e1]
   .exact nomatch e
  .rcases aV hb with ⟨j,u,rfl,e⟩|⟨y,u,rfl,e⟩
   .exact nomatch e
   .injection e with e1 _;rw[e1]
 byValue:=λk v h=>by
  rcases aV h with ⟨i,t,rfl,rfl⟩|⟨x,t,rfl,rfl⟩<;>rfl
 pyHash:=λhv h=>by
  rcases aV hv with ⟨i,t,rfl,rfl⟩|⟨x,t,rfl,rfl⟩
  .exact wpAny_pyHash_int h
  .exact wpAny_pyHash_str h
 eqBool:=λhu hv h=>by
  rcases aV hu with ⟨i,t,rfl,rfl⟩|⟨x,t,rfl,rfl⟩
  .rcases aV hv with ⟨j,u,rfl,rfl⟩|⟨y,u,rfl,rfl⟩
   .rw[xD]at h;exact wpAny_eqBool_int h
   .rw[xC]at h;exact SeqAt.EqAt.int_str i t y u _ _ _ _ h
  .rcases aV hv with ⟨j,u,rfl,rfl⟩|⟨y,u,rfl,rfl⟩
   .rw[xB]at h;exact SeqAt.EqAt.str_int x t j u _ _ _ _ h
   .rw[xA]at h;exact aea h
 «strs»:=λk x t v h=>by
  rcases aV h with ⟨i,u,rfl,e⟩|⟨y,u,rfl,e⟩
  .exact nomatch e
  .injection e with e1 _;subst e1;cases v<;>rfl
def o6(prog:aaA)(w:World)(i:Int)(t:Tok):(aH prog w).is (.inl i) (.int i t)=true:=rY i t
def o5(prog:aaA)(w:World)(x:Str)(t:Tok):(aH prog w).is (.inr x) (.str x t)=true:=rX x t
inductive V where
 |yB|bl (b:Bool)|int (i:Int)|str (x:Str)|FL (b:Array UInt8)|KO (b:UInt64)|ref (a:Addr)|ty (n:String)
 deriving DecidableEq
def RelV:V->Value->Prop
 |.yB,u=>u=aa5
 |.bl b,u=>u=Value.bool b
 |.int i,u=>∃t,u=Value.int i t
 |.str x,u=>∃t,u=adH x t
 |.FL b,u=>∃t,u=Value.bytes b t
 |.KO b,u=>∃t,u=Value.float b t
 |.ref a,u=>u=aa0 a
 |.ty n,u=>u=acx n
abbrev yz:List V->List Value->Prop:=Paired RelV
variable{xs:List V}{us:List Value}
def yz.length(r:yz xs us):xs.length=us.length:=adJ r
def yz.get:∀{xs:List V} {us:List Value} {i:Nat} {x:V},yz xs us->xs[i]?=some x->∃u,us[i]?=some u/\RelV x u
 |_,_,_,_,.nil,e=>by simp_all
 |_,_,0,_,.cons r _,e=>by simp_all
 |_,_,i+1,x,.cons _ t,e=>by
  obtain⟨u,h1,h2⟩:=yz.get (i:=i) (x:=x) t (by simp_all);exact⟨u,by simp_all,h2⟩
variable{x:V}{u:Value}
def yz.set(r:RelV x u):∀{xs:List V} {us:List Value} (i:Nat),yz xs us->yz (xs.set i x) (us.set i u)
 |_,_,_,.nil=>.nil
 |_,_,0,.cons _ t=>.cons r t
 |_,_,i+1,.cons q t=>.cons q (yz.set r i t)
def yz.append:∀{xs ys:List V} {us ws:List Value},yz xs us->yz ys ws->yz (xs++ys) (us++ws)
 |_,_,_,_,.nil,s=>s
 |_,_,_,_,.cons r t,s=>.cons r (yz.append t s)
def yz.take:∀{xs:List V} {us:List Value} (n:Nat),yz xs us->yz (xs.take n) (us.take n)
 |_,_,0,_=>.nil
 |_,_,_+1,.nil=>.nil
 |_,_,n+1,.cons r t=>.cons r (yz.take n t)
def yz.drop:∀{xs:List V} {us:List Value} (n:Nat),yz xs us->yz (xs.drop n) (us.drop n)
 |_,_,0,r=>r
 |_,_,_+1,.nil=>.nil
 |_,_,n+1,.cons _ t=>yz.drop n t
def Ct:Option V->Option Value->Prop
 |some v,some u=>RelV v u
 |none,none=>True
 |_,_=>False
def KV{κ:Type}:List (κ×V)->List (κ×Value)->Prop:=Paired λ(p:κ×V) (q:κ×Value)=>p.1=q.1/\RelV p.2 q.2
def kV:Key->V
 |.inl i=>.int i
 |.inr x=>.str x
inductive HO where
 |lst (xs:List V)
 |tup (xs:List V)
 |dK (gE:List (Key×V))|dT (gE:List (List Key×V))
 |set (S:Int->Bool) (n:Nat)
 |ins (C dx:Addr) (fs:List (Str×V))
 |own (x:Addr)
 |xd (fs:List (Str×V))
 |met (f x:Addr)
 |Nn (lo hi:Int)
 |Bf (o:Obj) (u:HO)
 |Ii (ps:Array Value)
 |ext (φ:Heap->Prop)
abbrev Hp:=Addr->Option HO
def upd(H:Hp)(a:Addr)(o:HO):Hp:=λb=>if b=a then some o else H b
variable{H:Hp}{a:Addr}{o:HO}
def aj:upd H a o a=some o:=by unfold upd;rw[if_pos rfl]
variable{b:Addr}
def ae(h:b≠a):upd H a o b=H b:=by unfold upd;rw[if_neg h]
def uK{u:HO}:upd (upd H a o) a u=upd H a u:=by
 funext b;unfold upd;split<;>rfl
def qu{u:HO}(h:H a=some o)(h':H b=some u)(d:o≠u):a≠b:=by
 intro e;subst e;rw[h]at h';exact d (aaq h')
def au(h:H a=some o)(h':H b=none):a≠b:=by
 intro e;subst e;rw[h]at h';cases h'
variable(P:aaA)(w:World)
def zr(H:Hp)(h:Heap)(a:Addr):HO->Prop
 |.lst xs=>xs.length<=sizeLine/\∃(nE:List Value) (n:Nat),yz xs nE/\h.get? a=some {cls:=.type "list",data:=.seq nE.toArray n}
 |.tup xs=>xs.length<=sizeLine/\∃nE:List Value,yz xs nE/\IsTup h a nE.toArray
 |.dK gE=>gE.length<=sizeLine/\(a==abW)=false/\∃vs,KV gE vs/\h.DictOf (aH P w) a vs
 |.dT gE=>gE.length<=sizeLine/\(a==abW)=false/\∃xs:List (List Key×Addr×Value),
   Paired (λ(p:List Key×V) (q:List Key×Addr×Value)=>p.1=q.1/\H q.2.1=some (.tup (p.1.map kV))/\RelV p.2 q.2.2) gE xs /\
   ∃o es ep,h.get? a=some o/\o.ExactDict/\o.data=.dict es ep/\es.toList=xs.map (entryOfKey (aeg (aH P w)))/\(xs.map (·.1)).Nodup
 |.set S n=>h.SetOf (intKind P w) a S n
 |.ins C dx fs=>H dx=some (.own a)/\fs.length<=1000/\dx≠a/\h.get? a=some (aen C dx) /\
   ∃mA,h.Ns1 dx mA/\(∀f,Ct (fs.lookup f) (mA f))/\PySem.Within mA (fs.map (·.1))
 |.own _=>∃o,h.get? a=some o
 |.xd fs=>∃mA,h.Ns1 a mA/\∀f,Ct (fs.lookup f) (mA f)
 |.Nn lo hi=>∃t u v,h.get? a=some {cls:=.type "range",data:=.fields #[.int lo t,.int hi u,.int 1 v]}
 |.Bf o u=>h.get? a=some o/\zr H h a u
 |.Ii ps=>h.get? a=some {cls:=.none,data:=.fields ps}
 |.met f x=>h.get? a=some (adV (.ref f) (.ref x))
 |.ext φ=>φ h/\(∃o,h.get? a=some o)/\∀h1 h2:Heap,φ h1->(∀o,h1.get? a=some o->h2.get? a=some o)->φ h2
def Bc(H:Hp)(h:Heap):Prop:=∀a o,H a=some o->zr P w H h a o
variable{P:aaA}{w:World}{H':Hp}{h h':Heap}
def zr.lt(x:zr P w H h a o):a<h.objs.size:=by
 cases o with
 |lst xs=>obtain⟨_,_,_,_,e⟩:=x;exact aai e
 |tup xs=>obtain⟨_,_,_,p⟩:=x;exact p.lt
 |dK gE=>obtain⟨_,_,_,_,o,_,_,e,_⟩:=x;exact aai e
 |dT gE=>obtain⟨_,_,_,_,o,_,_,e,_⟩:=x;exact aai e
 |set S n=>obtain⟨o,_,_,_,e,_⟩:=x;exact aai e
 |ins C dx fs=>obtain⟨_,_,_,e,_⟩:=x;exact aai e
 |own y=>obtain⟨_,e⟩:=x;exact aai e
 |xd fs=>obtain⟨_,⟨_,_,_,e,_⟩,_⟩:=x;exact aai e
 |Nn lo hi=>obtain⟨_,_,_,e⟩:=x;exact aai e
 |Bf ob u=>obtain⟨e,_⟩:=x;exact aai e
 |Ii ps=>exact aai (x)
 |met f y=>exact aai (x)
 |ext φ=>obtain⟨_,⟨_,e⟩,_⟩:=x;exact aai e
variable{α:Type}
def Paired.Jw{β:Type}{F G:α->β->Prop}:∀{l₁:List α} {l₂:List β},Paired F l₁ l₂->(∀a b,F a b->G a b)->Paired G l₁ l₂
 |_,_,.nil,_=>.nil
 |_,_,.cons r t,f=>.cons (f _ _ r) (Paired.Jw t f)
def zr.Co(x:zr P w H h a o)(k:∀b u,(b=a\/H b=some (.own a))->h.get? b=some u->h'.get? b=some u)
  (ho:∀b,H b=some (.own a)->H' b=some (.own a)) (ht:∀b xs,H b=some (.tup xs)->H' b=some (.tup xs)):zr P w H' h' a o:=by
 induction o with
 |lst xs=>obtain⟨z,nE,n,r,e⟩:=x;exact⟨z,nE,n,r,k _ _ (.inl rfl) e⟩
 |tup xs=>obtain⟨z,nE,r,ob,e,c⟩:=x;exact⟨z,nE,r,ob,k _ _ (.inl rfl) e,c⟩
 |dK gE=>obtain⟨z,y,vs,r,ob,es,ep,e,c⟩:=x;exact⟨z,y,vs,r,ob,es,ep,k _ _ (.inl rfl) e,c⟩
 |dT gE=>
  obtain⟨z,y,xs,r,ob,es,ep,e,c⟩:=x;exact⟨z,y,xs,Paired.Jw r λp q z=>⟨z.1,ht _ _ z.2.1,z.2.2⟩,ob,es,ep,k _ _ (.inl rfl) e,c⟩
 |set S n=>obtain⟨ob,es,ep,t,e,c⟩:=x;exact⟨ob,es,ep,t,k _ _ (.inl rfl) e,c⟩
 |ins C dx fs=>
  obtain⟨d,z,ne,e,mA,⟨od,es,ep,e2,c⟩,r⟩:=x;exact⟨ho _ d,z,ne,k _ _ (.inl rfl) e,mA,⟨od,es,ep,k _ _ (.inr d) e2,c⟩,r⟩
 |own y=>obtain⟨ob,e⟩:=x;exact⟨ob,k _ _ (.inl rfl) e⟩
 |xd fs=>obtain⟨mA,⟨od,es,ep,e,c⟩,r⟩:=x;exact⟨mA,⟨od,es,ep,k _ _ (.inl rfl) e,c⟩,r⟩
 |Nn lo hi=>obtain⟨t,u,v,e⟩:=x;exact⟨t,u,v,k _ _ (.inl rfl) e⟩
 |Bf ob u ih=>obtain⟨e,q⟩:=x;exact⟨k _ _ (.inl rfl) e,ih q⟩
 |Ii ps=>
  have e:h.get? a=some {cls:=.none,data:=.fields ps}:=x;show h'.get? a=some {cls:=.none,data:=.fields ps};exact k a _ (.inl rfl) e
 |met f y=>
  have e:h.get? a=some (adV (.ref f) (.ref y)):=x;show h'.get? a=some (adV (.ref f) (.ref y));exact k a _ (.inl rfl) e
 |ext φ=>obtain⟨p,⟨o,e⟩,st⟩:=x;exact⟨st _ _ p λo q=>k _ _ (.inl rfl) q,⟨o,k _ _ (.inl rfl) e⟩,st⟩
def Bc.lt(x:Bc P w H h)(e:H a=some o):a<h.objs.size:=(x a o e).lt
def Bc.fresh(x:Bc P w H h)(e:h.objs.size<=a):H a=none:=by
 cases q:H a with
 |none=>rfl
 |some u=>exact absurd (aax (x.lt q) e) (abg _)
def Bc.kept(x:Bc P w H h)(k:∀b u,h.get? b=some u->h'.get? b=some u):Bc P w H h':=λa o e=>
 (x a o e).Co (λb u _ q=>k b u q) (λ_ q=>q) λ_ _ q=>q
def Bc.laid(x:Bc P w H h)(k:∀b u,h.get? b=some u->h'.get? b=some u)(hp:h.objs.size<=a)(new:zr P w (upd H a o) h' a o):Bc P w (upd H a o) h':=λb u e=>by
 have hn:=x.fresh hp;by_cases hb:b=a
 .subst hb;rw[aj]at e;cases e;exact new
 .rw[ae hb]at e;exact(x b u e).Co (λc v _ q=>k c v q) (λc q=>by rw[ae (au q hn)];exact q) λc xs q=>by rw[ae (au q hn)];exact q
def Rd(H:Hp)(a:Addr)(u:HO):Prop:=H a=some u\/∃o,H a=some (.Bf o u)
def Rd.ok{u:HO}(r:Rd H a u)(x:Bc P w H h):zr P w H h a u:=by
 rcases r with r|⟨o,r⟩
 .exact x a u r
 .obtain⟨_,q⟩:=x a _ r;exact q
def M7:Option HO->Prop
 |some (.lst _)=>True
 |some (.dK _)=>True
 |some (.dT _)=>True
 |some (.set _ _)=>True
 |some (.ins _ _ _)=>True
 |some (.ext _)=>True
 |_=>False
variable{x e:Addr}{o':HO}
def Bc.write(ok:Bc P w H h)(mu:M7 (H x))(he:e=x\/H e=some (.own x))(k:∀b u,b≠e->h.get? b=some u->h'.get? b=some u)(KG:∃u,h'.get? e=some u)
  (new:zr P w (upd H x o') h' x o'):Bc P w (upd H x o') h':=λb u q=>by
 have LQ:∀c y,H c=some (.own y)->c≠x:=λc y r z=>by subst z;rw[r]at mu;exact mu
 have OW:∀c xs,H c=some (.tup xs)->c≠x:=λc xs r z=>by subst z;rw[r]at mu;exact mu
 by_cases hb:b=x
 .subst hb;rw[aj]at q;cases q;exact new
 .rw[ae hb]at q;by_cases Hg:b=e
  .have q':H b=some (.own x):=by simp_all
   rw[q]at q';cases q';obtain⟨v,hv⟩:=KG;exact⟨v,by simp_all⟩
  .refine(ok b u q).Co (λc v hc r=>k c v ?_ r) (λc r=>by rw[ae (LQ c b r)];exact r) λc xs r=>by rw[ae (OW c xs r)];exact r
   rcases hc with rfl|hc
   .exact Hg
   .rintro rfl;rcases he with z|z
    .exact LQ c b hc z
    .rw[hc]at z;cases z;exact hb rfl
structure Un(fs ex:List Addr)(H H':Hp)(h h':Heap):Prop where
 keep:∀b o,h.get? b=some o->H b=none->b∉fs->b∉ex->h'.get? b=some o
 slot:∀b o,h.get? b=some o->H b=none->b∈fs->b∉ex->∃sl,h'.get? b=some {o with slots:=sl}
 free:∀b o,h.get? b=some o->H b=none->b∉ex->H' b=none
 there:∀b o,h.get? b=some o->b∉ex->∃o',h'.get? b=some o'
 C3:∀b xs,H b=some (.tup xs)->H' b=some (.tup xs)
 DC:∀b o u,H b=some (.Bf o u)->H' b=some (.Bf o u)
 DX:∀b ps,H b=some (.Ii ps)->∃more,H' b=some (.Ii (ps++more))
section
variable{fs Tw ex UO:List Addr}{H1 H2:Hp}{h1 h2:Heap}
def Un.any(u:Un fs ex H H1 h h1){ob:Obj}(q:h.get? b=some ob)(n:H b=none)(hx:b∉ex):∃sl,h1.get? b=some {ob with slots:=sl}:=by
 by_cases hb:b∈fs
 .exact u.slot b ob q n hb hx
 .exact⟨ob.slots,u.keep b ob q n hb hx⟩
def Un.kept(k:∀b u,h.get? b=some u->h'.get? b=some u):Un fs ex H H h h' :=
 ⟨λb ob q _ _ _=>k b ob q,λb ob q _ _ _=>⟨ob.slots,k b ob q⟩,λ_ _ _ n _=>n,λb ob q _=>⟨ob,k b ob q⟩,λ_ _ q=>q,λ_ _ _ q=>q,λ_ ps q=>⟨#[],by simp_all⟩⟩
def Un.refl:Un fs ex H H h h:=Un.kept λ_ _ q=>q
def Un.laid(k:∀b u,h.get? b=some u->h'.get? b=some u)(hp:h.objs.size<=a)(hn:H a=none):Un fs ex H (upd H a o) h h' where
 keep:=λb u q _ _ _=>k b u q
 slot:=λb u q _ _ _=>⟨u.slots,k b u q⟩
 free:=λb u q n _=>by rw[ae (aay (aax (aai q) hp))];exact n
 there:=λb u q _=>⟨u,k b u q⟩
 C3:=λb xs q=>by rw[ae (au q hn)];exact q
 DC:=λb u xs q=>by rw[ae (au q hn)];exact q
 DX:=λb ps q=>⟨#[],by rw[ae (au q hn),q];simp⟩
def Un.write(mu:M7 (H x))(he:e=x\/H e=some (.own x))(k:∀b u,b≠e->h.get? b=some u->h'.get? b=some u)(KG:∃u,h'.get? e=some u):Un fs ex H (upd H x o) h h':=by
 have hx:∀b,H b=none->b≠x:=λb n z=>by subst z;rw[n]at mu;exact mu
 have hb:∀b,H b=none->b≠e:=λb n z=>by simp_all
 have hm:∀b u,H b=some u->¬ M7 (some u)->b≠x:=λb u q nm z=>by simp_all
 refine⟨λb u q n _ _=>k b u (hb b n) q,λb u q n _ _=>⟨u.slots,k b u (hb b n) q⟩,λb u q n _=>by rw[ae (hx b n)];exact n,λb u q _=>?_,
  λb xs q=>by rw[ae (hm b _ q λz=>z)];exact q,λb u xs q=>by rw[ae (hm b _ q λz=>z)];exact q,λb ps q=>⟨#[],by rw[ae (hm b _ q λz=>z),q];simp⟩⟩
 by_cases Hg:b=e
 .subst Hg;exact KG
 .exact⟨u,k b u Hg q⟩
end
def QC(h:Heap)(H:Hp):List Addr:=(aaZ h.objs.size).filter λa=>(H a).isSome
def C7(h:Heap)(H:Hp):Heap:=PySem.W.hideAll h (QC h H)
def se(h:Heap)(H:Hp):(C7 h H).objs.size=h.objs.size:=PySem.W.hideAll_size _ _
def t5{o:Obj}(e:h.get? b=some o)(n:H b=none):(C7 h H).get? b=some o :=
 PySem.W.hideAll_get _ e λhm=>by
  have q  := (List.mem_filter.mp hm).2;rw[n]at q;simp at q
def vy{o:Obj}(e:(C7 h H).get? b=some o):h.get? b=some o/\H b=none:=by
 have e'  := PySem.W.of_hideAll _ e;refine⟨e',?_⟩;cases q:H b with
 |none=>rfl
 |some x=>
  have hm:b∈QC h H:=List.mem_filter.mpr ⟨List.mem_range.mpr (aai e'),by simp_all⟩;have z:(C7 h H).get? b=none:=PySem.W.hideAll_none _ hm;rw[z]at e;cases e
def iZ(g h:Heap)(L:Addr):List (Addr×Obj):=(aaZ h.objs.size).filterMap λa=>if a=L\/(g.get? a).isSome=true then none else (h.get? a).map λo=>(a,o)
variable{g:Heap}{L:Addr}
def fx{o:Obj}(h1:a≠L)(h2:g.get? a=none)(h3:h.get? a=some o):(a,o)∈iZ g h L :=
 List.mem_filterMap.mpr ⟨a,List.mem_range.mpr (aai h3),by simp_all⟩
def lC{p:Addr×Obj}(hp:p∈iZ g h L):p.1≠L/\g.get? p.1=none/\h.get? p.1=some p.2:=by
 obtain⟨b,_,e⟩:=List.mem_filterMap.mp hp;split at e
 .cases e
 .rename_i hn;cases q:h.get? b with
  |none=>rw[q]at e;simp at e
  |some u=>
   rw[q]at e;simp only[Option.map_some,adW]at e;subst e;refine⟨λz=>hn (.inl z),?_,q⟩;cases r:g.get? b with
   |none=>rfl
   |some v=>exact(hn (.inr (by simp_all))).elim
def jO:News g L h (iZ g h L):=λp hp=>let ⟨a,b,c⟩:=lC hp;⟨c,a,b⟩
structure Mod(K:aaf)(mg:Str->Option Value)(base:Heap):Prop where
 kin:K.In base
 glob:base.Ns aaJ mg
 blt:∃mb,base.Ns adU mb/\∀x:Str,x ≠ "__name__" -> mb x=ab2 x
 nolimit:base.NoLimit
structure Cx where
 prog:aaA
 w:World
 K:aaf
 mg:Str->Option Value
 base:Heap
 A:Around
 N:List Str
 s₀:Shared
 H₀:Hp
 env:Env
 outer:List Env
 stack:List Env
 ex:List Addr
 fn:Str->Bool
 calm:Bool
 pn:List (Addr×Obj)
 xe:Value->Shared->Prop
def GR(l:List Env):List Addr:=l.filterMap (·.frame)
abbrev Cx.fs(X:Cx):List Addr:=GR X.outer
def Cy(sc:Scope)(x:Str):Prop:=sc.names.lookup x=some .local\/sc.names.lookup x=some .cell\/sc.names.lookup x=some .free
def Loc(sc:Scope)(x:Str):Prop:=sc.names.lookup x=some .local\/sc.names.lookup x=some .cell
def Look(env:Env)(h:Heap)(m:Str->Option Value)(x:Str)(u:Value):Prop :=
 (env.kindOf x=some .local/\m x=some u)\/((env.kindOf x=some .cell\/env.kindOf x=some .free)/\∃c,env.cells.lookup x=some c/\h.IsCell c (some u))
structure Cx.Ok(X:Cx):Prop where
 mod:Mod X.K X.mg X.base
 kind:X.env.scope.kind=.function
 glob:X.env.globals=aaJ
 blt:X.env.builtins=adU
 above:X.s₀.heap.objs.size<=X.env.locals
 inj:∀x y c,X.env.cells.lookup x=some c->X.env.cells.lookup y=some c->x=y
 has:∀x,(X.env.kindOf x=some .cell\/X.env.kindOf x=some .free)->∃c,X.env.cells.lookup x=some c
 MV:∀x c,X.fn x=true->X.env.cells.lookup x=some c->X.s₀.heap.objs.size<=c
 hd:X.calm=true->X.A.handled=none
 frames:X.A.frames=some X.stack
 Nj:X.stack=X.outer\/(X.stack=X.env::X.outer/\X.env.frame=some X.env.locals)
 Rr:∀b∈X.ex,b≠X.env.locals/\∀x c,X.env.cells.lookup x=some c->c≠b
 bs:∀b o,X.base.get? b=some o->X.s₀.heap.get? b=some o/\X.H₀ b=none
 IJ:X.base.objs.size<=X.s₀.heap.objs.size
 Gv:∀b o,X.base.get? b=some o->b∉X.ex
 HW:∀b∈X.ex,b∉X.fs
 CJ:X.s₀.heap.FunFrames X.base X.outer
 KN:∀b∈X.fs,X.H₀ b=none
structure Inv(X:Cx)(pins:List (Addr×Obj))(σ:List (Option V))(H:Hp)(s:Shared):Prop where
 ok:X.Ok
 os:s.os=X.s₀.os
 bare:adD s.gens
 base:Un X.fs X.ex X.H₀ H X.s₀.heap s.heap
 loc:∃m,s.heap.Ns X.env.locals m/\∀(i:Nat) (x:Str) (v:V),X.N[i]?=some x->σ[i]?=some (some v)->Cy X.env.scope x->∃u,RelV v u/\Look X.env s.heap m x u
 cell:∀x c,X.env.cells.lookup x=some c->∃v,s.heap.IsCell c v
 free:H X.env.locals=none
 AS:∀x c,X.env.cells.lookup x=some c->H c=none
 pin:∀p∈X.pn++pins,s.heap.get? p.1=some p.2/\H p.1=none/\p.1≠X.env.locals/\p.1∉X.fs/\∀v,p.2.data≠.cell v
 yL:Bc X.prog X.w H s.heap
 len:σ.length=X.N.length
variable{X:Cx}{pins:List (Addr×Obj)}{σ:List (Option V)}{s:Shared}
def Cx.Ok.OY(ok:X.Ok){o:Obj}(e:X.base.get? b=some o):b∉X.fs:=λhb=>by
 have:=(ok.CJ.mem hb).1;rw[e]at this;cases this
def Inv.bs(I:Inv X pins σ H s):∀b o,X.base.get? b=some o->s.heap.get? b=some o/\H b=none:=λb o e=>
 ⟨I.base.keep b o (I.ok.bs b o e).1 (I.ok.bs b o e).2 (I.ok.OY e) (I.ok.Gv b o e),I.base.free b o (I.ok.bs b o e).1 (I.ok.bs b o e).2 (I.ok.Gv b o e)⟩
def Inv.bk(I:Inv X pins σ H s):∀b o,X.base.get? b=some o->s.heap.get? b=some o:=λb o e=>(I.bs b o e).1
def Inv.mod(I:Inv X pins σ H s):Mod X.K X.mg X.base:=I.ok.mod
def Inv.C6(I:Inv X pins σ H s):X.K.In s.heap:=I.ok.mod.kin.keeps I.bk
def Inv.fr(I:Inv X pins σ H s):∃m,Fr X.base X.env.locals s.heap m :=
 let ⟨m,hn,_⟩:=I.loc
 ⟨m,hn,I.bk,aa4 I.ok.IJ I.ok.above⟩
def Inv.lt(I:Inv X pins σ H s):X.env.locals<s.heap.objs.size:=let ⟨_,hn,_⟩:=I.loc;hn.lt
def Inv.sz(I:Inv X pins σ H s):X.s₀.heap.objs.size<=s.heap.objs.size:=aa4 I.ok.above (ad6 I.lt)
def Inv.OX(I:Inv X pins σ H s)(h:s.heap.objs.size<=a):a∉X.fs:=λhb=>by
 obtain⟨_,o,ho,_⟩:=I.ok.CJ.mem hb;exact absurd (aax (aai ho) (aa4 I.sz h)) (abg _)
def Inv.Ke(I:Inv X pins σ H s):∀x c,X.env.cells.lookup x=some c->c≠X.env.locals:=λx c e z=>by
 obtain⟨v,o,ho,hd⟩:=I.cell x c e;obtain⟨m,⟨o',es,ep,Cb,NK,_⟩,_⟩:=I.loc;rw[z,Cb]at ho;cases ho;rw[NK]at hd;cases hd
def Inv.CJ(I:Inv X pins σ H s):s.heap.FunFrames X.base X.outer:=by
 have all:∀(l:List Env),(∀b∈GR l,b∈X.fs)->X.s₀.heap.FunFrames X.base l->s.heap.FunFrames X.base l:=by
  intro l;induction l with
  |nil=>intro _ _;trivial
  |cons env r ih=>
   intro hs hl;obtain⟨hk,⟨L,o,hf,hn,ho,hd⟩,hr⟩:=hl;have hL  := hs L (by unfold GR;rw[acN,hf];exact aar);obtain⟨sl,e⟩:=I.base.slot L o ho (I.ok.KN L hL) hL λz=>I.ok.HW L z hL;exact⟨hk,⟨L,_,hf,hn,e,hd⟩,ih (λb hb=>hs b (by unfold GR;rw[acN,hf];exact aaj _ hb)) hr⟩
 exact all X.outer (λ_ hb=>hb) I.ok.CJ
def Inv.stack(I:Inv X pins σ H s):s.heap.FunFrames X.base X.stack:=by
 rcases I.ok.Nj with e|⟨e,hf⟩
 .rw[e];exact I.CJ
 .rw[e];obtain⟨m,hn,_⟩:=I.loc;refine .cons (by rw[I.ok.kind];decide) hf hn ?_ I.CJ;exact Heap.get?_none_of_le (aa4 I.ok.IJ I.ok.above)
def Inv.BO(I:Inv X pins σ H s):∀b∈GR X.stack,b∈X.env.locals::X.fs:=λb hb=>by
 rcases I.ok.Nj with e|⟨e,hf⟩
 .rw[e]at hb;exact aaj _ hb
 .rw[e]at hb;unfold GR at hb;rw[acN,hf]at hb;exact hb
def Inv.Fb(I:Inv X pins σ H s):∀b∈GR X.stack,H b=none:=λb hb=>by
 rcases List.mem_cons.mp (I.BO b hb)with e|hb
 .rw[e];exact I.free
 .obtain⟨_,o,ho,_⟩:=I.ok.CJ.mem hb;exact I.base.free b o ho (I.ok.KN b hb) λz=>I.ok.HW b z hb
variable{t':Nat}
def Inv.step{g':Array GenState}{d':Drawn}{ch:List Addr}(I:Inv X pins σ H s)
  (He:∀b∈ch,(b∈X.ex\/X.s₀.heap.objs.size<=b)/\b≠X.env.locals/\(∀x c,X.env.cells.lookup x=some c->c≠b)/\∀p∈X.pn++pins,p.1≠b)
  (keep:∀b o,b≠X.env.locals->b∉X.fs->b∉ch->s.heap.get? b=some o->H b=none->h'.get? b=some o)
  (slot:∀b o,b≠X.env.locals->b∈X.fs->b∉ch->s.heap.get? b=some o->H b=none->∃sl,h'.get? b=some {o with slots:=sl}) (free:∀b o,b∉ch->s.heap.get? b=some o->H b=none->H' b=none)
  (there:∀b o,b∉ch->s.heap.get? b=some o->∃o',h'.get? b=some o')
  (C3:∀b xs,H b=some (.tup xs)->H' b=some (.tup xs)) (DC:∀b o u,H b=some (.Bf o u)->H' b=some (.Bf o u)) (DX:∀b ps,H b=some (.Ii ps)->∃more,H' b=some (.Ii (ps++more)))
  (ns:∀m,s.heap.Ns X.env.locals m->h'.Ns X.env.locals m) (yL:Bc X.prog X.w H' h') (hg:adD g') :
  Inv X pins σ H' {s with heap:=h',gens:=g',drawn:=d',toks:=t'}:=by
 have QT:∀b o,X.s₀.heap.get? b=some o->b≠X.env.locals:=λb o e=>aay (aax (aai e) I.ok.above);have Kt:∀b o,X.s₀.heap.get? b=some o->b∉X.ex->b∉ch:=λb o e hx hb=>by
  rcases(He b hb).1 with z|z
  .exact hx z
  .exact absurd (aax (aai e) z) (abg _)
 have cellK:∀x c,X.env.cells.lookup x=some c->∀v,s.heap.IsCell c v->h'.IsCell c v:=λx c e v ⟨o,ho,hd⟩=>by
  have LW  := λz=>(He c z).2.2.1 x c e rfl;by_cases hc:c∈X.fs
  .obtain⟨sl,q⟩:=slot c o (I.Ke x c e) hc LW ho (I.AS x c e);exact⟨_,q,hd⟩
  .exact⟨o,keep c o (I.Ke x c e) hc LW ho (I.AS x c e),hd⟩
 refine⟨I.ok,I.os,hg,⟨λb o e n hb hx=>?_,λb o e n hb hx=>?_,λb o e n hx=>?_,λb o e hx=>?_,λb xs e=>C3 b xs (I.base.C3 b xs e),λb o xs e=>DC b o xs (I.base.DC b o xs e),λb ps e=>?_⟩,?_,λx c e=>?_,?_,λx c e=>?_,λp hp=>?_,yL,I.len⟩
 .exact keep b o (QT b o e) hb (Kt b o e hx) (I.base.keep b o e n hb hx) (I.base.free b o e n hx)
 .obtain⟨sl,e1⟩:=I.base.slot b o e n hb hx;obtain⟨R0,e2⟩:=slot b _ (QT b o e) hb (Kt b o e hx) e1 (I.base.free b o e n hx);exact⟨R0,e2⟩
 .obtain⟨o',e1⟩:=I.base.there b o e hx;exact free b o' (Kt b o e hx) e1 (I.base.free b o e n hx)
 .obtain⟨o',e1⟩:=I.base.there b o e hx;exact there b o' (Kt b o e hx) e1
 .obtain⟨m1,e1⟩:=I.base.DX b ps e;obtain⟨m2,e2⟩:=DX b _ e1;exact⟨m1++m2,by simp_all⟩
 .obtain⟨m,hn,hl⟩:=I.loc;refine⟨m,ns m hn,λi x v e1 e2 e3=>?_⟩;obtain⟨u,r,l⟩:=hl i x v e1 e2 e3;refine⟨u,r,?_⟩;rcases l with l|⟨k,c,e,z⟩
  .exact .inl l
  .exact .inr ⟨k,c,e,cellK x c e _ z⟩
 .obtain⟨v,z⟩:=I.cell x c e;exact⟨v,cellK x c e v z⟩
 .obtain⟨m,⟨o,_,_,ho,_⟩,_⟩:=I.loc;exact free _ o (λz=>(He _ z).2.1 rfl) ho I.free
 .obtain⟨v,o,ho,hd⟩:=I.cell x c e;exact free c o (λz=>(He c z).2.2.1 x c e rfl) ho (I.AS x c e)
 .obtain⟨e,n,ne,nf,d⟩:=I.pin p hp;have LW  := λz=>(He p.1 z).2.2.2 p hp rfl;exact⟨keep p.1 p.2 ne nf LW e n,free p.1 p.2 LW e n,ne,nf,d⟩
def Inv.un(I:Inv X pins σ H s)(u:Un X.fs [] H H' s.heap h')(yL:Bc X.prog X.w H' h'):Inv X pins σ H' {s with heap:=h',toks:=t'}:=by
 obtain⟨m,⟨o,es,ep,ho,r⟩,_⟩:=id I.loc;obtain⟨sl,hL⟩:=u.any ho I.free (by simp);exact I.step (ch:=[]) (λ_ z=>nomatch z) (λb o _ hb _ e n=>u.keep b o e n hb (by simp)) (λb o _ hb _ e n=>u.slot b o e n hb (by simp)) (λb o _ e n=>u.free b o e n (by simp)) (λb o _ e=>u.there b o e (by simp)) u.C3 u.DC u.DX (λm' hm=>by
  obtain⟨o',NO,NP,Cb,r'⟩:=hm;rw[ho]at Cb;cases Cb;exact⟨_,NO,NP,hL,r'⟩) yL I.bare
def Inv.call{g':Array GenState}{d':Drawn}{ch:List Addr}(I:Inv X pins σ H s)(u:Un (GR X.stack) ch H H' s.heap h')(yL:Bc X.prog X.w H' h')(hg:adD g')
  (He:∀b∈ch,(b∈X.ex\/X.s₀.heap.objs.size<=b)/\b≠X.env.locals/\(∀x c,X.env.cells.lookup x=some c->c≠b)/\∀p∈X.pn++pins,p.1≠b) :
  Inv X pins σ H' {s with heap:=h',gens:=g',drawn:=d',toks:=t'}:=by
 obtain⟨m,⟨o,es,ep,ho,r⟩,_⟩:=id I.loc;obtain⟨sl,hL⟩:=u.any ho I.free λz=>(He _ z).2.1 rfl;exact I.step He (λb o hL hb hc e n=>u.keep b o e n (λz=>(List.mem_cons.mp (I.BO b z)).elim hL hb) hc) (λb o _ _ hc e n=>u.any e n hc) (λb o hc e n=>u.free b o e n hc) (λb o hc e=>u.there b o e hc) u.C3 u.DC u.DX (λm' hm=>by
  obtain⟨o',NO,NP,Cb,r'⟩:=hm;rw[ho]at Cb;cases Cb;exact⟨_,NO,NP,hL,r'⟩) yL hg
variable{it:Addr}
def Inv.turned(I:Inv X pins σ H s)(k:∀b o,b≠it->s.heap.get? b=some o->h'.get? b=some o)(hn:H it=none)(hL:it≠X.env.locals)
  (h1:it∈X.ex\/X.s₀.heap.objs.size<=it) (h2:∀x c,X.env.cells.lookup x=some c->c≠it) (h3:∀p∈X.pn++pins,p.1≠it):Inv X pins σ H {s with heap:=h',toks:=t'}:=by
 have LS:∀b u,H b=some u->b≠it:=λb u e z=>by simp_all
 refine I.step (ch:=[it]) (λb hb=>?_) (λb o _ _ hc e _=>k b o (λz=>hc (by simp_all)) e) (λb o _ _ hc e _=>⟨o.slots,k b o (λz=>hc (by simp_all)) e⟩) (λ_ _ _ _ n=>n)
  (λb o hc e=>⟨o,k b o (λz=>hc (by simp_all)) e⟩) (λ_ _ e=>e) (λ_ _ _ e=>e) (λb ps e=>⟨#[],by simp_all⟩) (λm hm=>?_) (λb u e=>?_) I.bare
 .have e:b=it:=by simp_all
  subst e;exact⟨h1,hL,h2,h3⟩
 .obtain⟨o,es,ep,ho,r⟩:=hm;exact⟨o,es,ep,k _ o (abm hL) ho,r⟩
 .refine(I.yL b u e).Co (λc v hc q=>k c v ?_ q) (λ_ q=>q) λ_ _ q=>q;rcases hc with z|z
  .rw[z];exact LS b u e
  .exact LS c _ z
def Inv.tok(I:Inv X pins σ H s)(t:Nat):Inv X pins σ H {s with toks:=t}:=I.un Un.refl I.yL
def Inv.kept(I:Inv X pins σ H s)(k:∀b u,s.heap.get? b=some u->h'.get? b=some u):Inv X pins σ H {s with heap:=h',toks:=t'}:=I.un (Un.kept k) (I.yL.kept k)
def Inv.laid(I:Inv X pins σ H s)(k:∀b u,s.heap.get? b=some u->h'.get? b=some u)(hp:s.heap.objs.size<=a)(new:zr X.prog X.w (upd H a o) h' a o):
  Inv X pins σ (upd H a o) {s with heap:=h',toks:=t'}:=I.un (Un.laid k hp (I.yL.fresh hp)) (I.yL.laid k hp new)
def Inv.write(I:Inv X pins σ H s)(mu:M7 (H x))(he:e=x\/H e=some (.own x))(k:∀b u,b≠e->s.heap.get? b=some u->h'.get? b=some u)(KG:∃u,h'.get? e=some u)
  (new:zr X.prog X.w (upd H x o) h' x o):Inv X pins σ (upd H x o) {s with heap:=h',toks:=t'}:=I.un (Un.write mu he k KG) (I.yL.write mu he k KG new)
def Inv.weak{σ':List (Option V)}(I:Inv X pins σ H s)(hl:σ'.length=σ.length)(w:∀(i:Nat) v,σ'[i]?=some (some v)->σ[i]?=some (some v)):Inv X pins σ' H s :=
 ⟨I.ok,I.os,I.bare,I.base,let ⟨m,hn,FX⟩:=I.loc;⟨m,hn,λi x v e1 e2 e3=>FX i x v e1 (w i v e2) e3⟩,I.cell,I.free,I.AS,I.pin,I.yL,hl.trans I.len⟩
def Inv.Ff{Iu:List (Addr×Obj)}(I:Inv X pins σ H s)(h:∀p∈Iu,s.heap.get? p.1=some p.2/\H p.1=none/\p.1≠X.env.locals/\p.1∉X.fs/\∀v,p.2.data≠.cell v):Inv X Iu σ H s :=
 ⟨I.ok,I.os,I.bare,I.base,I.loc,I.cell,I.free,I.AS,λp hp=>(List.mem_append.mp hp).elim (λz=>I.pin p (aaD _ z)) (h p),I.yL,I.len⟩
variable{N:List Str}{i j:Nat}
theorem nO(hN:N.Nodup){x:Str}(a:N[i]?=some x)(b:N[j]?=some x):i=j:=by
 obtain⟨h1,e1⟩:=List.getElem?_eq_some_iff.mp a;obtain⟨h2,e2⟩:=List.getElem?_eq_some_iff.mp b;exact(abu hN).mp (e1.trans e2.symm)
variable{M:Model}{A:Around}{E:Value->Shared->Prop}{v:V}{Q:Unit->Shared->Prop}
theorem gU{x:Str}(I:Inv X pins σ H s)(hN:X.N.Nodup)(hi:X.N[i]?=some x)(hx:Loc X.env.scope x)(r:RelV v u)
  (h:∀s',Inv X pins (σ.set i (some v)) H s'->(∃a,ads a s.heap s'.heap/\(a=X.env.locals\/X.env.cells.lookup x=some a))->Q () s') (hf:X.fn x=true\/X.env.scope.names.lookup x=some .local:=by first|exact .inl rfl|exact .inr rfl|assumption):wpAny M A (storeName X.env x u) Q E s:=by
 obtain⟨m,hn,hl⟩:=id I.loc;have PL:(X.env.scope.kind==.class || (X.env.scope.kind==.module && X.env.locals != X.env.globals))=false:=by rw[I.ok.kind];rfl
 have hiσ:i<σ.length:=by rw[I.len];exact(List.getElem?_eq_some_iff.mp hi).1
 have Ke:=I.Ke;have tracked:∀{a:Addr} {h':Heap},(∃o,s.heap.get? a=some o/\H a=none)->ads a s.heap h'->Bc X.prog X.w H h':=λ{a h'} ha hs b ob e=>by
  obtain⟨_,_,Fj⟩:=ha;refine(I.yL b ob e).Co (λc w' hc q=>(hs.2 c ?_).trans q) (λ_ q=>q) λ_ _ q=>q;rintro rfl;rcases hc with rfl|hc
  .rw[Fj]at e;cases e
  .rw[Fj]at hc;cases hc
 rcases hx with hk|hk
 .refine wpAny_storeName_local hk hn (λh' HL hs=>?_) PL;obtain⟨oL,_,_,FE,_⟩:=id hn;refine h _ ⟨I.ok,I.os,I.bare,⟨λb o e n hb hx=>?_,λb o e n hb hx=>?_,I.base.free,λb o e hx=>?_,I.base.C3,I.base.DC,I.base.DX⟩,⟨_,HL,λj y v' e1 e2 e3=>?_⟩,λy c e=>?_,I.free,I.AS,λp hp=>?_,tracked ⟨oL,FE,I.free⟩ hs,by simpa using I.len⟩ ⟨_,hs,.inl rfl⟩
  .exact(hs.2 b (aay (aax (aai e) I.ok.above))).trans (I.base.keep b o e n hb hx)
  .obtain⟨sl,e1⟩:=I.base.slot b o e n hb hx;exact⟨sl,(hs.2 b (aay (aax (aai e) I.ok.above))).trans e1⟩
  .obtain⟨o',e1⟩:=I.base.there b o e hx;exact⟨o',(hs.2 b (aay (aax (aai e) I.ok.above))).trans e1⟩
  .by_cases hj:j=i
   .subst hj;rw[hi]at e1;cases e1;rw[abZ hiσ]at e2;cases e2;exact⟨u,r,.inl ⟨hk,by simp⟩⟩
   .rw[aav (abm hj)]at e2;obtain⟨u',r',q⟩:=hl j y v' e1 e2 e3;refine⟨u',r',?_⟩;rcases q with ⟨k,e⟩|⟨k,c,e,z⟩
    .refine .inl ⟨k,?_⟩;have:y≠x:=λe=>hj (nO hN e1 (e ▸ hi));simp[this,e]
    .exact .inr ⟨k,c,e,z.sameBut hs (Ke y c e)⟩
  .obtain⟨w',z⟩:=I.cell y c e;exact⟨w',z.sameBut hs (Ke y c e)⟩
  .obtain⟨e,n,ne,nf,d⟩:=I.pin p hp;exact⟨(hs.2 p.1 ne).trans e,n,ne,nf,d⟩
 .have PD:X.fn x=true:=by simp_all
  obtain⟨c,hc⟩:=I.ok.has x (.inl hk);obtain⟨w',z⟩:=I.cell x c hc;refine wpAny_storeName_cell I.ok.kind hk hc z (λh' Dk hs=>?_);obtain⟨oc,KA,Pt⟩:=id z;refine h {s with heap:=h'} ⟨I.ok,I.os,I.bare,⟨λb o e n hb hx=>?_,λb o e n hb hx=>?_,I.base.free,λb o e hx=>?_,I.base.C3,I.base.DC,I.base.DX⟩,⟨m,hn.sameBut hs (abm (Ke x c hc)),λj y v' e1 e2 e3=>?_⟩,λy c' e=>?_,I.free,I.AS,λp hp=>?_,tracked ⟨oc,KA,I.AS x c hc⟩ hs,by simpa using I.len⟩ ⟨c,hs,.inr hc⟩
  .exact(hs.2 b (aay (aax (aai e) (I.ok.MV x c PD hc)))).trans (I.base.keep b o e n hb hx)
  .obtain⟨sl,e1⟩:=I.base.slot b o e n hb hx;exact⟨sl,(hs.2 b (aay (aax (aai e) (I.ok.MV x c PD hc)))).trans e1⟩
  .obtain⟨o',e1⟩:=I.base.there b o e hx;exact⟨o',(hs.2 b (aay (aax (aai e) (I.ok.MV x c PD hc)))).trans e1⟩
  .by_cases hj:j=i
   .subst hj;rw[hi]at e1;cases e1;rw[abZ hiσ]at e2;cases e2;exact⟨u,r,.inr ⟨.inl hk,c,hc,Dk⟩⟩
   .rw[aav (abm hj)]at e2;obtain⟨u',r',q⟩:=hl j y v' e1 e2 e3;refine⟨u',r',?_⟩;rcases q with q|⟨k,c',e,z'⟩
    .exact .inl q
    .refine .inr ⟨k,c',e,z'.sameBut hs ?_⟩;rintro rfl;exact hj (nO hN e1 (I.ok.inj _ _ _ e hc ▸ hi))
  .by_cases PM:c'=c
   .subst PM;exact⟨_,Dk⟩
   .obtain⟨w2,z2⟩:=I.cell y c' e;exact⟨w2,z2.sameBut hs PM⟩
  .obtain⟨e,n,ne,nf,d⟩:=I.pin p hp;refine⟨(hs.2 p.1 ?_).trans e,n,ne,nf,d⟩;intro q;rw[q,KA]at e;have q':oc=p.2:=aaq e;exact d w' (by rw[<- q'];exact Pt)
def gq{x:Str}(I:Inv X pins σ H s)(hN:X.N.Nodup)(hi:X.N[i]?=some x)(hx:Loc X.env.scope x)(r:RelV v u)
  (h:∀s',Inv X pins (σ.set i (some v)) H s'->Q () s') (hf:X.fn x=true\/X.env.scope.names.lookup x=some .local:=by first|exact .inl rfl|exact .inr rfl|assumption):wpAny M A (storeName X.env x u) Q E s :=
 gU I hN hi hx r (λs' I' _=>h s' I') hf
variable{s':Shared}
def Inv.MU{ch:List Addr}(I:Inv X pins σ H s)(ho:s'.os=s.os)(u:Un (GR X.stack) ch H H' s.heap s'.heap)(yL:Bc X.prog X.w H' s'.heap)(hg:adD s'.gens)
  (He:∀b∈ch,(b∈X.ex\/X.s₀.heap.objs.size<=b)/\b≠X.env.locals/\(∀x c,X.env.cells.lookup x=some c->c≠b)/\∀p∈X.pn++pins,p.1≠b):Inv X pins σ H' s':=by
 obtain⟨h',g',d',t',o'⟩:=s';have e:o'=s.os:=ho;subst e;exact I.call (g':=g') (t':=t') (d':=d') u yL hg He
abbrev XK:=Value->Option Addr->Hp->Prop
abbrev St:=List (Option V)
abbrev VK:=V->Hp->Prop
abbrev TE:=St->Hp->VK->Prop
abbrev TT:=St->Hp->(Bool->Hp->Prop)->Prop
abbrev TA:=St->Hp->(List V->Hp->Prop)->Prop
structure Ends where
 nx:St->Hp->Prop
 rt:VK
 bk:St->Hp->Prop:=λ_ _=>False
 ct:St->Hp->Prop:=λ_ _=>False
abbrev TS:=Ends->St->Hp->Prop
def EP(X:Cx)(pins:List (Addr×Obj))(σ:St)(Q:VK)(u:Value)(s':Shared):Prop:=∃v H',Inv X pins σ H' s'/\RelV v u/\Q v H'
def TP(X:Cx)(pins:List (Addr×Obj))(σ:St)(Q:Bool->Hp->Prop)(b:Bool)(s':Shared):Prop:=∃H',Inv X pins σ H' s'/\Q b H'
def AP(X:Cx)(pins:List (Addr×Obj))(σ:St)(Q:List V->Hp->Prop)(us:List Value)(s':Shared):Prop:=∃vs H',Inv X pins σ H' s'/\yz vs us/\Q vs H'
def SP(X:Cx)(pins:List (Addr×Obj))(D:Ends)(f:Flow)(s':Shared):Prop :=
 match f with
 |.next=>∃σ' H',Inv X pins σ' H' s'/\D.nx σ' H'
 |.brk=>∃σ' H',Inv X pins σ' H' s'/\D.bk σ' H'
 |.cont=>∃σ' H',Inv X pins σ' H' s'/\D.ct σ' H'
 |.ret u=>∃v σ' H',Inv X pins σ' H' s'/\RelV v u/\D.rt v H'
def PE(X:Cx)(e:Expr)(t:TE):Prop :=
 ∀(pins:List (Addr×Obj)) (s:Shared) (σ:St) (H:Hp) (Q:VK),Inv X pins σ H s->t σ H Q->wpAny (model X.prog X.w) X.A (eval e X.env) (EP X pins σ Q) X.xe s
def PT(X:Cx)(e:Expr)(t:TT):Prop :=
 ∀(pins:List (Addr×Obj)) (s:Shared) (σ:St) (H:Hp) (Q:Bool->Hp->Prop),Inv X pins σ H s->t σ H Q->wpAny (model X.prog X.w) X.A (isTrue e X.env (eval e X.env)) (TP X pins σ Q) X.xe s
def PW(X:Cx)(e:Expr)(t:TT):Prop :=
 ∀(whole:Sem Value) (pins:List (Addr×Obj)) (s:Shared) (σ:St) (H:Hp) (Q:Bool->Hp->Prop),Inv X pins σ H s->t σ H Q->wpAny (model X.prog X.w) X.A (isTrue e X.env whole) (TP X pins σ Q) X.xe s
def PW.pt{e:Expr}{t:TT}(h:PW X e t):PT X e t:=h _
def PA(X:Cx)(es:List Expr)(t:TA):Prop :=
 ∀(pos:Pos) (pins:List (Addr×Obj)) (s:Shared) (σ:St) (H:Hp) (Q:List V->Hp->Prop),Inv X pins σ H s->t σ H Q->wpAny (model X.prog X.w) X.A (spliced (backTo pos (aag es X.env))) (AP X pins σ Q) X.xe s
def PS(X:Cx)(st:Stmt)(t:TS):Prop :=
 ∀(pins:List (Addr×Obj)) (s:Shared) (σ:St) (H:Hp) (D:Ends),Inv X pins σ H s->t D σ H->wpAny (model X.prog X.w) X.A (exec st X.env) (SP X pins D) X.xe s
def E4(X:Cx)(st:List Stmt)(t:TS):Prop :=
 ∀(pins:List (Addr×Obj)) (s:Shared) (σ:St) (H:Hp) (D:Ends),Inv X pins σ H s->t D σ H->wpAny (model X.prog X.w) X.A (execs st X.env) (SP X pins D) X.xe s
def zk{t:Sem α}{Q Q':α->Shared->Prop}(h:wpAny M A t Q E s)(hQ:∀a s,Q a s->Q' a s):wpAny M A t Q' E s:=aaK h hQ λ_ _ x=>x
def zt(i:Nat):TE:=λσ H Q=>∃v,σ[i]?=some (some v)/\Q v H
def tC(v:V):TE:=λ_ H Q=>Q v H
variable{pos:Pos}
def wV{x:Str}(hN:X.N[i]?=some x)(hv:Cy X.env.scope x)(hd:(x==("__debug__" : Str))=false:=by decide)(Cr:(x==("__classdict__" : Str))=false:=by decide):PE X (.Name x pos) (zt i):=by
 intro pins s σ H Q I h;obtain⟨v,e,h⟩:=h;obtain⟨m,hn,hl⟩:=I.loc;obtain⟨u,r,l⟩:=hl i x v hN e hv;have fin:EP X pins σ Q u s:=⟨v,H,I,r,h⟩
 rcases l with ⟨hk,hm⟩|⟨hk,c,hc,An⟩
 .exact adS (wpAny_loadName_local I.ok.kind hk hn hm fin) hd
 .rcases hk with hk|hk
  .exact adS (wpAny_loadName_cell I.ok.kind hk hc An fin) hd
  .exact adS (wpAny_loadName_free I.ok.kind hk hc An fin Cr) hd
theorem aC{i j pos}:PE X (.Constant (.int i) j pos) (tC (.int i)):=λ_ _ _ H _ I h=>wpAny_Constant_int ⟨.int i,H,I.tok _,⟨_,rfl⟩,h⟩
theorem yd{b j pos}:PE X (.Constant (.bool b) j pos) (tC (.bl b)):=λ_ _ _ H _ I h=>Constant_bool ⟨.bl b,H,I,rfl,h⟩
theorem nG{j pos}:PE X (.Constant .none j pos) (tC .yB):=λ_ _ _ H _ I h=>Constant_none ⟨.yB,H,I,rfl,h⟩
theorem wX{x j pos}:PE X (.Constant (.str x) j pos) (tC (.str x)):=λ_ _ _ H _ I h=>Calls.Constant_str ⟨.str x,H,I.tok _,⟨_,rfl⟩,h⟩
def Gl(X:Cx)(x:Str):Prop:=X.env.kindOf x=some .globalImplicit
def lJ{σ:St}{x:Str}{Q:Value->Shared->Prop}(I:Inv X pins σ H s)(hg:Gl X x)(hm:X.mg x=some u)(h:Q u s)
  (hd:(x==("__debug__" : Str))=false:=by decide):wpAny (model X.prog X.w) X.A (eval (.Name x pos) X.env) Q E s :=
 aev I.ok.kind hg (Calls.loadGlobal_global (by rw[I.ok.glob];exact I.mod.glob.keeps I.bk) hm h) hd
def er{σ:St}{x:Str}{Q:Value->Shared->Prop}(I:Inv X pins σ H s)(hg:Gl X x)(hm:X.mg x=none)(hv:ab2 x=some u)(h:Q u s)
  (hn:x ≠ "__name__" :=by decide) (hd:(x==("__debug__" : Str))=false:=by decide):wpAny (model X.prog X.w) X.A (eval (.Name x pos) X.env) Q E s:=by
 obtain⟨mb,h1,h2⟩:=I.mod.blt;exact aev I.ok.kind hg (Calls.loadGlobal_builtin (by rw[I.ok.glob];exact I.mod.glob.keeps I.bk) hm (by rw[I.ok.blt];exact h1.keeps I.bk) ((h2 x hn).trans hv) h) hd
def uZ{x:Str}(hg:Gl X x)(hm:X.mg x=some u)(r:RelV v u)(hd:(x==("__debug__" : Str))=false:=by decide):PE X (.Name x pos) (tC v) :=
 λ_ _ _ H _ I h=>lJ I hg hm ⟨v,H,I,r,h⟩ hd
def u6{x:Str}(hg:Gl X x)(hm:X.mg x=none)(hv:ab2 x=some u)(r:RelV v u)(hn:x ≠ "__name__" :=by decide)(hd:(x==("__debug__" : Str))=false:=by decide):PE X (.Name x pos) (tC v) :=
 λ_ _ _ H _ I h=>er I hg hm hv ⟨v,H,I,r,h⟩ hn hd
variable{a b:Expr}{ta tb:TE}
variable{tA Ni:TT}{rest:List Expr}
def EB(t u:TT):TT:=λσ H Q=>t σ H λc H1=>if c=true then u σ H1 Q else Q false H1
def Hs(t u:TT):TT:=λσ H Q=>t σ H λc H1=>if c=true then Q true H1 else u σ H1 Q
def BN(t:TT):TT:=λσ H Q=>t σ H λc H1=>Q (!c) H1
def pw_and1(ha:PT X a tA):PW X (.BoolOp .And [a] pos) tA:=by
 refine λwh pins s σ H Q I h=>isTrue_and (zk (ha pins s σ H Q I h) λc s1 e=>?_);cases c with
 |true=>exact isTrue_and_nil e
 |false=>exact e
def pw_or1(ha:PT X a tA):PW X (.BoolOp .Or [a] pos) tA:=by
 refine λwh pins s σ H Q I h=>isTrue_or (zk (ha pins s σ H Q I h) λc s1 e=>?_);cases c with
 |false=>exact isTrue_or_nil e
 |true=>exact e
def pw_and(ha:PT X a tA)(hb:PW X (.BoolOp .And (b::rest) pos) Ni):PW X (.BoolOp .And (a::b::rest) pos) (EB tA Ni):=by
 refine λwh pins s σ H Q I h=>isTrue_and (zk (ha pins s σ H _ I h) λc s1 ⟨H1,I1,q1⟩=>?_);cases c with
 |true=>exact hb wh pins s1 σ H1 Q I1 q1
 |false=>exact⟨H1,I1,q1⟩
def pw_or(ha:PT X a tA)(hb:PW X (.BoolOp .Or (b::rest) pos) Ni):PW X (.BoolOp .Or (a::b::rest) pos) (Hs tA Ni):=by
 refine λwh pins s σ H Q I h=>isTrue_or (zk (ha pins s σ H _ I h) λc s1 ⟨H1,I1,q1⟩=>?_);cases c with
 |true=>exact⟨H1,I1,q1⟩
 |false=>exact hb wh pins s1 σ H1 Q I1 q1
def wP(ha:PT X a tA):PT X (.UnaryOp .Not a pos) (BN tA):=by
 intro pins s σ H Q I h;exact isTrue_not (ha pins s σ H _ I h)
def Lp(ta tb:TE):TE:=λσ H Q=>ta σ H λx H1=>∃c,x=.bl c/\if c=true then tb σ H1 Q else Q (.bl false) H1
def Ox(ta tb:TE):TE:=λσ H Q=>ta σ H λx H1=>∃c,x=.bl c/\if c=true then Q (.bl true) H1 else tb σ H1 Q
def Lg(ta:TE):TE:=λσ H Q=>ta σ H λx H1=>∃c,x=.bl c/\Q (.bl (!c)) H1
def wY{op}{t:TE}(h:PE X a t):PE X (.BoolOp op [a] pos) t:=λpins s σ H Q I hw=>BoolOp_one (h pins s σ H Q I hw)
def w8(ha:PE X a ta)(hb:PE X (.BoolOp .And (b::rest) pos) tb):PE X (.BoolOp .And (a::b::rest) pos) (Lp ta tb):=by
 refine λpins s σ H Q I h=>BoolOp_and (zk (ha pins s σ H _ I h) λv s1 ⟨x,H1,I1,r1,q1⟩=>?_);obtain⟨c,rfl,q1⟩:=q1;cases r1;refine abf ?_;cases c with
 |true=>exact hb pins s1 σ H1 Q I1 q1
 |false=>exact⟨.bl false,H1,I1,rfl,q1⟩
def yb(ha:PE X a ta)(hb:PE X (.BoolOp .Or (b::rest) pos) tb):PE X (.BoolOp .Or (a::b::rest) pos) (Ox ta tb):=by
 refine λpins s σ H Q I h=>BoolOp_or (zk (ha pins s σ H _ I h) λv s1 ⟨x,H1,I1,r1,q1⟩=>?_);obtain⟨c,rfl,q1⟩:=q1;cases r1;refine abf ?_;cases c with
 |false=>exact hb pins s1 σ H1 Q I1 q1
 |true=>exact⟨.bl true,H1,I1,rfl,q1⟩
def wZ(ha:PE X a ta):PE X (.UnaryOp .Not a pos) (Lg ta):=by
 refine λpins s σ H Q I h=>UnaryOp_ (zk (ha pins s σ H _ I h) λv s1 ⟨x,H1,I1,r1,q1⟩=>?_);obtain⟨c,rfl,q1⟩:=q1;cases r1;exact not_of (abf ⟨.bl (!c),H1,I1,rfl,q1⟩)
def RY(t:TT)(ta tb:TE):TE:=λσ H Q=>t σ H λc H1=>if c=true then ta σ H1 Q else tb σ H1 Q
variable{c:Expr}
def tz(hc:PT X c tA)(ha:PE X a ta)(hb:PE X b tb):PE X (.IfExp c a b pos) (RY tA ta tb):=by
 refine λpins s σ H Q I h=>wpAny_IfExp (zk (hc pins s σ H _ I h) λd s1 ⟨H1,I1,q1⟩=>?_);cases d with
 |true=>exact ha pins s1 σ H1 Q I1 q1
 |false=>exact hb pins s1 σ H1 Q I1 q1
def Ar(K:aaf)(H:Hp)(a:Addr)(xs:List V):Prop :=
 Rd H a (.lst xs) \/
  ∃(o:Obj) (nE:Array Value) (n:Nat),K.lookup a=some o/\o.cls=.type "list" /\ o.dict=none/\o.data=.seq nE n/\nE.size<=sizeLine/\yz xs nE.toList
def AF(K:aaf)(H:Hp)(a:Addr)(xs:List V):Prop :=
 Rd H a (.tup xs) \/
  ∃(o:Obj) (nE:Array Value) (n:Nat),K.lookup a=some o/\o.cls=.type "tuple" /\ o.data=.seq nE n/\nE.size<=sizeLine/\yz xs nE.toList
def Ql:Value->Option V
 |.none=>some .yB
 |.bool b=>some (.bl b)
 |.int i _=>some (.int i)
 |.str x _=>some (.str x)
 |.bytes b _=>some (.FL b)
 |.float b _=>some (.KO b)
 |.ref a=>some (.ref a)
 |.type n=>some (.ty n)
 |_=>none
def RelV.abs{x:V}(r:RelV x u):Ql u=some x:=by
 cases x with
 |yB=>cases r;rfl
 |bl _=>cases r;rfl
 |int _=>obtain⟨t,rfl⟩:=r;rfl
 |str _=>obtain⟨t,rfl⟩:=r;rfl
 |FL _=>obtain⟨t,rfl⟩:=r;rfl
 |KO _=>obtain⟨t,rfl⟩:=r;rfl
 |ref _=>cases r;rfl
 |ty _=>cases r;rfl
variable{y:V}
def RelV.inj{x:V}(r:RelV x u)(q:RelV y u):x=y:=aaq (r.abs.symm.trans q.abs)
def yz.inj:∀{xs ys:List V} {us:List Value},yz xs us->yz ys us->xs=ys
 |_,_,_,.nil,.nil=>rfl
 |_,_,_,.cons r t,.cons r' t'=>by rw[r.inj r',yz.inj t t']
variable{σ:St}{a:Addr}{ys:List V}
variable{K:aaf}
def Ar.of(h:H a=some (.lst xs)):Ar K H a xs:=.inl (.inl h)
def Inv.list(I:Inv X pins σ H s)(h:Ar X.K H a xs):∃nE:List Value,yz xs nE/\PlainL s.heap a nE.toArray/\xs.length<=sizeLine:=by
 rcases h with h|⟨o,nE,n,hk,hc,hd,hs,hz,r⟩
 .obtain⟨z,nE,n,r,e⟩:=h.ok I.yL;exact⟨nE,r,⟨_,n,e,rfl,rfl,rfl⟩,z⟩
 .refine⟨nE.toList,r,⟨o,n,I.C6 a o hk,hc,hd,by simpa using hs⟩,?_⟩;have e:=r.length;simp only[abw]at e;omega
def Inv.tuple(I:Inv X pins σ H s)(h:AF X.K H a xs):∃nE:List Value,yz xs nE/\IsTup s.heap a nE.toArray/\xs.length<=sizeLine:=by
 rcases h with h|⟨o,nE,n,hk,hc,hs,hz,r⟩
 .obtain⟨z,nE,r,p⟩:=h.ok I.yL;exact⟨nE,r,p,z⟩
 .refine⟨nE.toList,r,⟨o,I.C6 a o hk,hc,n,by simpa using hs⟩,?_⟩;have e:=r.length;simp only[abw]at e;omega
def Inv.D4(I:Inv X pins σ H s)(h:Ar X.K H a xs)(h':Ar X.K H a ys):xs=ys:=by
 obtain⟨nE,r,⟨o,n,e,_,_,d⟩,_⟩:=I.list h;obtain⟨Cp,r',⟨o',n',e',_,_,d'⟩,_⟩:=I.list h';rw[e]at e';have:nE=Cp:=by simp_all
 subst this;exact r.inj r'
def Inv.BM(I:Inv X pins σ H s)(h:AF X.K H a xs)(h':AF X.K H a ys):xs=ys:=by
 obtain⟨nE,r,⟨o,e,_,n,d⟩,_⟩:=I.tuple h;obtain⟨Cp,r',⟨o',e',_,n',d'⟩,_⟩:=I.tuple h';rw[e]at e';cases e';rw[d]at d';injection d' with d1 _;have:nE=Cp:=by simpa using congrArg Array.toList d1
 subst this;exact r.inj r'
abbrev Cx.C2(X:Cx)(E:Value->Shared->Prop):Cx:={X with xe:=E}
abbrev Cx.G8(X:Cx):Cx:=X.C2 λ_ _=>False
def Cx.Ok.C2(ok:X.Ok)(E:Value->Shared->Prop):(X.C2 E).Ok :=
 ⟨ok.mod,ok.kind,ok.glob,ok.blt,ok.above,ok.inj,ok.has,ok.MV,ok.hd,ok.frames,ok.Nj,ok.Rr,ok.bs,ok.IJ,ok.Gv,ok.HW,ok.CJ,ok.KN⟩
def Cx.Ok.AY(ok:(X.C2 E).Ok):X.Ok :=
 ⟨ok.mod,ok.kind,ok.glob,ok.blt,ok.above,ok.inj,ok.has,ok.MV,ok.hd,ok.frames,ok.Nj,ok.Rr,ok.bs,ok.IJ,ok.Gv,ok.HW,ok.CJ,ok.KN⟩
def Inv.C2(I:Inv X pins σ H s)(E:Value->Shared->Prop):Inv (X.C2 E) pins σ H s:=⟨I.ok.C2 E,I.os,I.bare,I.base,I.loc,I.cell,I.free,I.AS,I.pin,I.yL,I.len⟩
def Inv.AY(I:Inv (X.C2 E) pins σ H s):Inv X pins σ H s:=⟨I.ok.AY,I.os,I.bare,I.base,I.loc,I.cell,I.free,I.AS,I.pin,I.yL,I.len⟩
def SP.AY{D:Ends}{f:Flow}(h:SP (X.C2 E) pins D f s'):SP X pins D f s':=by
 cases f with
 |next=>obtain⟨σ',H',I,q⟩:=h;exact⟨σ',H',I.AY,q⟩
 |brk=>obtain⟨σ',H',I,q⟩:=h;exact⟨σ',H',I.AY,q⟩
 |cont=>obtain⟨σ',H',I,q⟩:=h;exact⟨σ',H',I.AY,q⟩
 |ret u=>obtain⟨v,σ',H',I,r,q⟩:=h;exact⟨v,σ',H',I.AY,r,q⟩
def E4.G8{st:List Stmt}{t:TS}(h:E4 X.G8 st t):E4 X st t:=λpins s σ H D I hw=>
 aaK (h pins s σ H D (I.C2 _) hw) (λ_ _ q=>q.AY) λ_ _ z=>ack z
variable{st:Stmt}{rest:List Stmt}{t u:TS}{e:Expr}{te:TE}
def Ij:TS:=λD σ H=>D.nx σ H
def Gi(t u:TS):TS:=λD σ H=>t {D with nx:=u D} σ H
def pD:E4 X [] Ij:=λ_ _ σ H _ I h=>adi ⟨σ,H,I,h⟩
def bH(h1:PS X st t)(h2:E4 X rest u):E4 X (st::rest) (Gi t u):=by
 intro pins s σ H D I h;refine wpAny_execs_cons (zk (h1 pins s σ H _ I h) λf s1 q=>?_);cases f with
 |next=>
  obtain⟨σ',H',I',q⟩:=q;exact h2 pins s1 σ' H' D I' q
 |ret v=>exact q
 |brk=>exact q
 |cont=>exact q
def cT(h1:PS X st t):E4 X [st] t:=by
 refine λpins s σ H D I h=>wpAny_execs_cons (zk (h1 pins s σ H D I h) λf s1 q=>?_);cases f with
 |next=>exact adi q
 |ret v=>exact q
 |brk=>exact q
 |cont=>exact q
def Inv.quiet(I:Inv X pins σ H s):interactive X.env=false:=by simp[interactive,I.ok.kind]
def Lk(te:TE):TS:=λD σ H=>te σ H λ_ H1=>D.nx σ H1
def lr(he:PE X e te)(hs:abK e none pos.line X.env=pure false:=by rfl):PS X (.Expr e pos) (Lk te):=by
 exact λpins s σ H D I h=>wpAny_Expr_any (zk (he pins s σ H _ I h) λv s1 ⟨x,H1,I1,r1,q1⟩=>⟨σ,H1,I1,q1⟩) I.quiet hs
def Ja(te:TE):TS:=λD σ H=>te σ H D.rt
def fF(he:PE X e te):PS X (.Return (some e) pos) (Ja te):=by
 exact λpins s σ H D I h=>wpAny_Return_some (zk (he pins s σ H _ I h) λv s1 ⟨x,H1,I1,r1,q1⟩=>⟨x,σ,H1,I1,r1,q1⟩)
def Lj(c:TT)(t u:TS):TS:=λD σ H=>c σ H λb H1=>if b=true then t D σ H1 else u D σ H1
def uz{a b:List Stmt}{tc:TT}(hc:PT X c tc)(ha:E4 X a t)(hb:E4 X b u):PS X (.If c a b pos) (Lj tc t u):=by
 refine λpins s σ H D I h=>wpAny_If (zk (hc pins s σ H _ I h) λd s1 ⟨H1,I1,q1⟩=>?_);cases d with
 |true=>exact ha pins s1 σ H1 D I1 q1
 |false=>exact hb pins s1 σ H1 D I1 q1
abbrev TG:=V->St->Hp->(St->Hp->Prop)->Prop
abbrev F9:=List V->St->Hp->(St->Hp->Prop)->Prop
def PG(X:Cx)(target:Expr)(t:TG):Prop :=
 ∀(pins:List (Addr×Obj)) (s:Shared) (σ:St) (H:Hp) (v:V) (u:Value) (Q:St->Hp->Prop),Inv X pins σ H s->RelV v u->t v σ H Q ->
  wpAny (model X.prog X.w) X.A (assign target X.env u) (λ_ s'=>∃σ' H',Inv X pins σ' H' s'/\Q σ' H') X.xe s
def M5(X:Cx)(ts:List Expr)(t:F9):Prop :=
 ∀(pins:List (Addr×Obj)) (s:Shared) (σ:St) (H:Hp) (vs:List V) (us:List Value) (Q:St->Hp->Prop),Inv X pins σ H s->yz vs us->t vs σ H Q ->
  wpAny (model X.prog X.w) X.A (assignInOrder ((abX ts X.env).map (·.2)) us) (λ_ s'=>∃σ' H',Inv X pins σ' H' s'/\Q σ' H') X.xe s
abbrev G1:=V->V->V->Hp->(Hp->Prop)->Prop
def Eh(X:Cx)(t:G1):Prop :=
 ∀(pins:List (Addr×Obj)) (s:Shared) (σ:St) (H:Hp) (o i v:V) (ov iv u:Value) (Q:Hp->Prop),Inv X pins σ H s->RelV o ov->RelV i iv->RelV v u->t o i v H Q ->
  wpAny (model X.prog X.w) X.A (setItem ov iv u) (λ_ s'=>∃H',Inv X pins σ H' s'/\Q H') X.xe s
def Ax(i:Nat):TG:=λv σ H Q=>Q (σ.set i (some v)) H
def aP{x:Str}(hN:X.N.Nodup)(hi:X.N[i]?=some x)(hx:Loc X.env.scope x)(hf:X.fn x=true\/X.env.scope.names.lookup x=some .local:=by first|exact .inl rfl|exact .inr rfl|assumption):PG X (.Name x pos) (Ax i):=by
 exact λpins s σ H v u Q I r h=>adR (gq I hN hi hx r (λs' I'=>⟨_,H,I',h⟩) hf)
def JZ:F9:=λvs σ H Q=>vs=[]/\Q σ H
def Eb(t:TG)(u:F9):F9:=λvs σ H Q=>∃v r,vs=v::r/\t v σ H λσ' H'=>u r σ' H' Q
def pF:M5 X [] JZ:=by
 intro pins s σ H vs us Q I r h;obtain⟨e,h⟩:=h;subst e;exact assignInOrder_nil ⟨σ,H,I,h⟩
variable{es:List Expr}
def jI{t:TG}{u:F9}(h1:PG X e t)(h2:M5 X es u)
  (hs:(abX (e::es) X.env).map (·.2)=assign e X.env::(abX es X.env).map (·.2):=by rfl):M5 X (e::es) (Eb t u):=by
 intro pins s σ H vs us Q I r h;obtain⟨v,vr,e1,h⟩:=h;subst e1;cases r with
 |cons r rr=>
  rw[hs];refine adG (zk (h1 pins s σ H _ _ _ I r h) λ_ s1 ⟨σ1,H1,I1,q1⟩=>?_);exact h2 pins s1 σ1 H1 _ _ Q I1 rr q1
def JX(K:aaf)(n:Nat)(t:F9):TG:=λv σ H Q=>∃a xs,v=.ref a/\AF K H a xs/\xs.length=n/\t xs σ H Q
variable{k n:Nat}
def rn{t:F9}(hc:X.calm=true)(h:M5 X es t)
  (hn:(abX es X.env).length=n:=by rfl) (FD:(abX es X.env).findIdx? (·.1)=none:=by rfl):PG X (.Tuple es k pos) (JX X.K n t):=by
 intro pins s σ H v u Q I r hw;obtain⟨a,xs,e1,hq,hl,hw⟩:=hw;subst e1;cases r;obtain⟨nE,rv,ht,hz⟩:=I.tuple hq;refine assign_Tuple_tuple (I.ok.hd hc) ht (by simp[hn,<- hl,rv.length]) FD λh' hx=>?_;have I1  := I.kept (t':=s.toks) λb o e=>hx b o (aay (aai e)) e;exact h pins _ σ H xs _ Q I1 (by simp_all) hw
def JY(to ti:TE)(t:G1):TG:=λv σ H Q=>to σ H λo H1=>ti σ H1 λi H2=>t o i v H2 λH3=>Q σ H3
def nC{o i:Expr}{to ti:TE}{t:G1}(ho:PE X o to)(hi:PE X i ti)(hs:Eh X t)
  (ha:∀v,assign (.Subscript o i pos) X.env v=(do
   let ov <- acn [v] (eval o X.env);let iv <- acn [v,ov] (eval i X.env)
   standAt pos
   acn [v,ov,iv] (setItem ov iv v)
   release [v,ov,iv] []):=by intro _;rfl):PG X (.Subscript o i pos) (JY to ti t):=by
 intro pins s σ H v u Q I r h;refine aab (aaM (zk (ho pins s σ H _ I h) λov s1 ⟨x,H1,I1,r1,q1⟩=>?_));refine aab (aaM (zk (hi pins s1 σ H1 _ I1 q1) λiv s2 ⟨y,H2,I2,r2,q2⟩=>?_));refine aab (ab4 (aab (aaM (zk (hs pins s2 σ H2 x y v ov iv u _ I2 r1 r2 r q2) λ_ s3 ⟨H3,I3,q3⟩=>?_))));exact wpAny_release ⟨σ,H3,I3,q3⟩
def EA(te:TE)(g:TG):TS:=λD σ H=>te σ H λx H1=>g x σ H1 D.nx
variable{tg:Expr}
def j6{g:TG}(he:PE X e te)(hg:PG X tg g)(hs:ac6 [tg] e pos.line X.env=pure false:=by rfl)(hw:ac7 [tg] e X.env=pure none:=by rfl)
  (h1:(abX [tg] X.env).map (·.2)=[assign tg X.env]:=by rfl):PS X (.Assign [tg] e pos) (EA te g):=by
 refine λpins s σ H D I h=>wpAny_Assign_stores (zk (he pins s σ H _ I h) λv s1 ⟨x,H1,I1,r1,q1⟩=>?_) hs hw;rw[h1];exact zk (hg pins s1 σ H1 x v _ I1 r1 q1) λ_ s2 q=>q
variable{pos':Pos}
def d0{x:Str}(hN:X.N.Nodup)(hi:X.N[i]?=some x)(hx:Loc X.env.scope x)(he:PE X e te)(hs:abK e (some (.Name x pos')) pos.line X.env=pure false:=by rfl)(hf:X.fn x=true\/X.env.scope.names.lookup x=some .local:=by first|exact .inl rfl|exact .inr rfl|assumption):
  PS X (.Assign [.Name x pos'] e pos) (EA te (Ax i)):=by
 refine λpins s σ H D I h=>wpAny_Assign_Name (zk (he pins s σ H _ I h) λv s1 ⟨y,H1,I1,r1,q1⟩=>?_) hs;exact gq I1 hN hi hx r1 (λs2 I2=>⟨_,H1,I2,q1⟩) hf
def Ow(i j:Nat)(ta:TA):TS:=λD σ H=>ta σ H λvs H1=>∃v w,vs=[v,w]/\D.nx ((σ.set i (some v)).set j (some w)) H1
variable{py:Pos}
theorem wQ{x y:Str}{a:Expr}{ta:TA}{px pt:Pos}{kt k2 pt2}(hc:X.calm=true)(hN:X.N.Nodup)(hi:X.N[i]?=some x)(hj:X.N[j]?=some y)(Cc:i≠j)
  (hx:X.env.scope.names.lookup x=some .local) (hy:X.env.scope.names.lookup y=some .local) (ha:PA X [a,b] ta)
  (hw:ac7 [.Tuple [.Name x px,.Name y py] kt pt] (.Tuple [a,b] k2 pt2) X.env=pure (some [x,y]))
  (hs:ac6 [.Tuple [.Name x px,.Name y py] kt pt] (.Tuple [a,b] k2 pt2) pos.line X.env=pure false:=by rfl) :
  PS X (.Assign [.Tuple [.Name x px,.Name y py] kt pt] (.Tuple [a,b] k2 pt2) pos) (Ow i j ta):=by
 intro pins s σ H D I h;refine aab (ab4 ?_);refine aab (aal ?_);refine aab (Tuple_ (zk (ha _ pins s σ H _ I h) λus s1 ⟨vs,H1,I1,r1,q1⟩=>?_));obtain⟨v,w,e1,q1⟩:=q1;subst e1;obtain⟨u1,u2,rfl,rv,Cv⟩:∃u1 u2,us=[u1,u2]/\RelV v u1/\RelV w u2:=by
  cases r1 with
  |cons p q=>
   cases q with
   |cons p' q'=>
    cases q';exact⟨_,_,rfl,p,p'⟩
 refine adQ ?_ (by show 2<=sizeLine;decide);have I2:Inv X pins σ H1 {s1 with heap:=s1.heap.push {cls:=.type "tuple",data:=.seq [u1,u2].toArray}}:=I1.kept λb o e=>aad _ e;rw[hw];refine aab (aal ?_);refine aab (adP (aab (unpackItems_tuple (items:=#[u1,u2]) (I.ok.hd hc) (IsTup.new s1.heap _) λh' Pd=>?_)));have I3:=I2.kept (t':=s1.toks) λb o e=>Pd b o (aay (aai e)) e;refine aab (adG (wpAny_bindName (gq I3 hN hj (.inl hy) Cv (λs2 I4=>?_) (.inr hy))));refine adG (wpAny_bindName (gq I4 hN hi (.inl hx) rv (λs3 I5=>assignInOrder_nil (aal ?_)) (.inr hx)));rw[List.set_comm _ _ (abm Cc)]at I5;exact⟨_,H1,I5,q1⟩
def IZ(c:TT)(tb:TS):TS:=λD σ H=>∃W:Nat->St->Hp->Prop,(∃m,W m σ H)/\∀m σ H,W m σ H ->
 c σ H λb H1=>if b=true then ∃N:St->Hp->Prop,(∀σ' H',N σ' H'->∃m',m'<m/\W m' σ' H')/\tb {D with nx:=N,ct:=N,bk:=D.nx} σ H1 else D.nx σ H1
variable{body:List Stmt}
def nq{tc:TT}{tb:TS}(hp:PassesOwn (model X.prog X.w) X.A X.env X.xe)(hc:PT X c tc)(hb:E4 X body tb):PS X (.While c body [] pos) (IZ tc tb):=by
 intro pins s σ H D I h;obtain⟨W,⟨m0,w0⟩,turn⟩:=h;refine wpAny_While (codeAny_whileLoop (λn s'=>∃σ' H',Inv X pins σ' H' s'/\W n σ' H') ?_ m0 ⟨σ,H,I,w0⟩);rintro n s1 ⟨σ1,H1,I1,w1⟩;refine ab1 hp (zk (hc pins s1 σ1 H1 _ I1 (turn n σ1 H1 w1)) λb s2 ⟨H2,I2,q2⟩=>?_);cases b with
 |true=>
  obtain⟨N,hN,q2⟩:=q2;refine ab1 hp (zk (hb pins s2 σ1 H2 _ I2 q2) λf s3 q3=>?_);cases f with
  |next=>
   obtain⟨σ3,H3,I3,n3⟩:=q3;obtain⟨m',hm,w3⟩:=hN σ3 H3 n3;exact⟨m',hm,σ3,H3,I3,w3⟩
  |cont=>
   obtain⟨σ3,H3,I3,n3⟩:=q3;obtain⟨m',hm,w3⟩:=hN σ3 H3 n3;exact⟨m',hm,σ3,H3,I3,w3⟩
  |brk=>exact q3
  |ret v=>exact q3
 |false=>
  exact adi ⟨σ1,H2,I2,q2⟩
structure It where
 go:Nat->Hp->Prop
 yld:Nat->Hp->V->Hp->Prop
 stop:Nat->Hp->Prop
def BH(X:Cx)(pins:List (Addr×Obj))(H:Hp)(b:Addr):Prop :=
 H b=none/\b≠X.env.locals/\b∉X.fs/\(b∈X.ex\/X.s₀.heap.objs.size<=b)/\(∀x c,X.env.cells.lookup x=some c->c≠b)/\∀p∈X.pn++pins,p.1≠b
def Inv.FH{b:Addr}(I:Inv X pins σ H s)(hb:s.heap.objs.size<=b)(hn:H' b=none):BH X pins H' b:=by
 refine⟨hn,ab3 (aax I.lt hb),I.OX hb,.inr (aa4 I.sz hb),λx c e z=>?_,λp hp z=>?_⟩
 .obtain⟨v,q⟩:=I.cell x c e;exact absurd (aax q.lt (by simp_all)) (abg _)
 .exact absurd (aax (aai (I.pin p hp).1) (by simp_all)) (abg _)
structure Turn(P:aaA)(w:World)(K:aaf)(tg:Expr)(J:It)(fp:List Addr)(it:Addr)(tn:Nat->Heap->Prop):Prop where
 mem:it∈fp
 obj:∀i h,tn i h->∀b∈fp,∃o,h.get? b=some o/\∀v,o.data≠.cell v
 keep:∀i h h',tn i h->(∀b∈fp,∀o,h.get? b=some o->h'.get? b=some o)->tn i h'
 item:∀(X:Cx),X.prog=P->X.w=w->X.K=K->X.calm=true->∀(i:Nat) (pins:List (Addr×Obj)) (s:Shared) (σ:St) (H:Hp) (E:Value->Shared->Prop),Inv X pins σ H s->(∀b∈fp,BH X pins H b)->tn i s.heap->J.go i H ->
  wpAny (model P w) X.A (pyNext (.ref it)) (λr s1=>∃u,r=some u /\
   wpAny (model P w) X.A (aej tg (.ref it) u) (λ_ s2=>∃x H',Inv X pins σ H' s2/\RelV x u/\J.yld i H x H'/\tn (i+1) s2.heap/\∀b∈fp,H' b=none) E s1) E s
 done:∀(X:Cx),X.prog=P->X.w=w->X.K=K->X.calm=true->∀(i:Nat) (pins:List (Addr×Obj)) (s:Shared) (σ:St) (H:Hp) (E:Value->Shared->Prop),Inv X pins σ H s->(∀b∈fp,BH X pins H b)->tn i s.heap->J.stop i H ->
  wpAny (model P w) X.A (pyNext (.ref it)) (λr s1=>r=none/\Inv X pins σ H s1) E s
 self:∀(A:Around) (i:Nat) (s:Shared) (Q:Value->Shared->Prop) (E:Value->Shared->Prop),tn i s.heap->Q (.ref it) s->wpAny (model P w) A (pyIter (.ref it)) Q E s
abbrev TI:=St->Hp->(It->Hp->Prop)->Prop
def RH(X:Cx)(pins:List (Addr×Obj))(σ:St)(tg:Expr)(R:It->Hp->Prop)(NB:Value)(s2:Shared):Prop :=
 ∃(it:Addr) (fp:List Addr) (tn:Nat->Heap->Prop) (J:It) (H':Hp),NB=.ref it/\Inv X pins σ H' s2/\Turn X.prog X.w X.K tg J fp it tn/\tn 0 s2.heap/\(∀b∈fp,BH X pins H' b)/\R J H'
def PI(X:Cx)(tg iter:Expr)(wi:TI):Prop :=
 ∀(pins:List (Addr×Obj)) (s:Shared) (σ:St) (H:Hp) (R:It->Hp->Prop),Inv X pins σ H s->wi σ H R ->
  wpAny (model X.prog X.w) X.A (eval iter X.env) (λv s1=>wpAny (model X.prog X.w) X.A (pyIter v) (RH X pins σ tg R) X.xe s1) X.xe s
def mZ{u:Value}{o:Obj}{n:String}{vs:Array Value}(ho:s.heap.get? it=some o)(hc:o.cls=.type n)(hd:o.data=.fields vs)
  (hn:["enumerate", "zip", "dict_itemiterator", "dict_reverseitemiterator", "odict_iterator", "itertools.zip_longest", "itertools.pairwise"].contains n=false) (hQ:Q () s):wpAny M A (aej tg (.ref it) u) Q E s:=by
 cases tg<;>first
  |exact aal hQ
  |(cases u<;>first
    |exact aal hQ
    |(
      refine aab (wpAny_load ho ?_);rw[hc,hd];show wpAny M A (if (["enumerate", "zip", "dict_itemiterator", "dict_reverseitemiterator", "odict_iterator", "itertools.zip_longest", "itertools.pairwise"].contains n && vs[0]?==some _)=true then _ else _) Q E s;rw[if_neg (by simp_all)];exact aal hQ))
def Hm(K:aaf)(a:Addr):It :=
 ⟨λi H=>∃xs x,Ar K H a xs/\xs[i]?=some x,λi H x H'=>H'=H/\∀xs,Ar K H a xs->xs[i]?=some x,λi H=>∃xs,Ar K H a xs/\xs.length<=i⟩
def Qp(K:aaf)(a:Addr):It :=
 ⟨λi H=>∃xs x,AF K H a xs/\xs[i]?=some x,λi H x H'=>H'=H/\∀xs,AF K H a xs->xs[i]?=some x,λi H=>∃xs,AF K H a xs/\xs.length<=i⟩
def NX(lo:Int)(n:Nat):It:=⟨λi _=>i<n,λi H x H'=>H'=H/\x=.int (lo+i),λi _=>n<=i⟩
def mf(a it:Addr):Turn P w K tg (Hm K a) [it] it (λi h=>h.IsListIter it a i) where
 mem:=by simp
 obj:=λi h st b hb=>by
  have e:b=it:=by simp_all
  subst e;obtain⟨o,e,c,d⟩:=st;exact⟨o,e,λv z=>by simp_all⟩
 keep:=λi h h' st k=>st.at λo e=>k it (by simp) o e
 item:=by
  intro X hP hw hK hc i pins s σ H E I hf st hg;subst hP hw hK;obtain⟨xs,x,hq,hx⟩:=hg;obtain⟨nE,rv,p,hz⟩:=I.list hq;obtain⟨u,hu,ru⟩:=rv.get hx;obtain⟨f0,f1,f2,f3,f4,f5⟩:=hf it (by simp);refine wpAny_pyNext_list_item st p.isList (x:=u) (by simp_all) λh' Dt sb=>?_;have I1  := I.turned (t':=s.toks) (λb o hb e=>(sb.2 b hb).trans e) f0 f1 f3 f4 f5;obtain⟨o,e,c,d⟩:=id Dt;exact⟨u,rfl,mZ e c d (rfl) ⟨x,H,I1,ru,⟨rfl,λys hy=>by rw[I.D4 hy hq];exact hx⟩,Dt,λb hb=>(hf b hb).1⟩⟩
 done:=by
  intro X hP hw hK hc i pins s σ H E I hf st hg;subst hP hw hK;obtain⟨xs,hq,hx⟩:=hg;obtain⟨nE,rv,p,hz⟩:=I.list hq;obtain⟨f0,f1,f2,f3,f4,f5⟩:=hf it (by simp);have hl:=rv.length;exact wpAny_pyNext_list_end (I.ok.hd hc) st p.isList (by simp_all) λh' eb=>⟨rfl,I.turned (λb o hb e=>eb b o hb e) f0 f1 f3 f4 f5⟩
 self:=λ_ _ _ _ _ st h=>wpAny_pyIter_listiter st h
def qc(a it:Addr):Turn P w K tg (Qp K a) [it] it (λi h=>h.IsTupleIter it a i) where
 mem:=by simp
 obj:=λi h st b hb=>by
  have e:b=it:=by simp_all
  subst e;obtain⟨o,e,c,d⟩:=st;exact⟨o,e,λv z=>by simp_all⟩
 keep:=λi h h' st k=>st.at λo e=>k it (by simp) o e
 item:=by
  intro X hP hw hK hc i pins s σ H E I hf st hg;subst hP hw hK;obtain⟨xs,x,hq,hx⟩:=hg;obtain⟨nE,rv,p,hz⟩:=I.tuple hq;obtain⟨u,hu,ru⟩:=rv.get hx;obtain⟨f0,f1,f2,f3,f4,f5⟩:=hf it (by simp);refine acm st (p) (x:=u) (by simp_all) λh' Dt sb=>?_;have I1  := I.turned (t':=s.toks) (λb o hb e=>(sb.2 b hb).trans e) f0 f1 f3 f4 f5;obtain⟨o,e,c,d⟩:=id Dt;exact⟨u,rfl,mZ e c d (rfl) ⟨x,H,I1,ru,⟨rfl,λys hy=>by rw[I.BM hy hq];exact hx⟩,Dt,λb hb=>(hf b hb).1⟩⟩
 done:=by
  intro X hP hw hK hc i pins s σ H E I hf st hg;subst hP hw hK;obtain⟨xs,hq,hx⟩:=hg;obtain⟨nE,rv,p,hz⟩:=I.tuple hq;obtain⟨f0,f1,f2,f3,f4,f5⟩:=hf it (by simp);have hl:=rv.length;exact acv (I.ok.hd hc) st (p) (by simp_all) λh' eb=>⟨rfl,I.turned (λb o hb e=>eb b o hb e) f0 f1 f3 f4 f5⟩
 self:=λ_ _ _ _ _ st h=>wpAny_pyIter_tupleiter st h
def qd(it:Addr)(lo:Int)(n:Nat):Turn P w K tg (NX lo n) [it] it (λi h=>IsRangeIter h it (lo+(i:Nat)*1) ((n:Int) - (i:Nat)) 1) where
 mem:=by simp
 obj:=λi h st b hb=>by simp_all
 keep:=λi h h' st k=>k it (by simp) _ st
 item:=by
  intro X hP hw hK hc i pins s σ H E I hf st hg;subst hP hw hK;obtain⟨f0,f1,f2,f3,f4,f5⟩:=hf it (by simp);have W:=Walks.range (prog:=X.prog) (w:=X.w) (I.ok.hd hc) it lo 1 n;refine W.item i s _ _ hg st λv h' tk hv Dt kk=>?_;obtain⟨t,rfl⟩:=hv;have I1:Inv X pins σ H {s with heap:=h',toks:=tk}:=I.turned (λb o hb e=>kk b o (by simp_all) e) f0 f1 f3 f4 f5;refine⟨_,rfl,mZ Dt rfl rfl (rfl) ⟨.int _,H,I1,⟨t,?_⟩,⟨rfl,rfl⟩,Dt,λb hb=>(hf b hb).1⟩⟩;rw[Int.mul_one]
 done:=by
  intro X hP hw hK hc i pins s σ H E I hf st hg;obtain⟨f0,f1,f2,f3,f4,f5⟩:=hf it (by simp);exact wpAny_pyNext_range_end (I.ok.hd hc) st (by have:n<=i:=hg;omega) λh' eb=>⟨rfl,I.turned (λb o hb e=>eb b o hb e) f0 f1 f3 f4 f5⟩
 self:=λ_ _ _ _ _ st h=>wpAny_pyIter_rangeiter st h
def Mk(K:aaf)(tl:TE):TI:=λσ H R=>tl σ H λx H1=>∃a,x=.ref a/\(∃xs,Ar K H1 a xs)/\R (Hm K a) H1
def pE{l:Expr}{tl:TE}(hl:PE X l tl):PI X tg l (Mk X.K tl):=by
 intro pins s σ H R I h;refine zk (hl pins s σ H _ I h) λv s1 ⟨x,H1,I1,r1,q1⟩=>?_;obtain⟨a,e,⟨xs,hq⟩,q⟩:=q1;subst e;cases r1;obtain⟨nE,rv,p,hz⟩:=I1.list hq;refine ac0 p.isList ?_;refine⟨s1.heap.objs.size,[s1.heap.objs.size],_,_,H1,rfl,I1.kept (t':=s1.toks) λb o e=>aad _ e,mf a _,⟨_,aan _ rfl,rfl,rfl⟩,λb hb=>?_,q⟩;have e:b=s1.heap.objs.size:=by simpa using hb
 subst e;exact I1.FH (aak _) (I1.yL.fresh (aak _))
def sY{R:It->Hp->Prop}{lo hi:Int}{t u v:Tok}{tk:Nat}(I:Inv X pins σ H s)(h1 : -(2 ^ 62)<=lo)(h2:lo<2 ^ 62)(h3 : -(2 ^ 62)<=hi)(h4:hi<2 ^ 62)
  (q:R (NX lo (hi - lo).toNat) H):wpAny (model X.prog X.w) X.A (pyIter (.ref s.heap.objs.size)) (RH X pins σ tg R) E {s with heap:=s.heap.push {cls:=.type "range",data:=.fields #[.int lo t,.int hi u,.int 1 v]},toks:=tk}:=by
 refine wpAny_pyIter_range (IsRange.new ..) (small_one h1 h2 h3 h4) ?_;have I1:Inv X pins σ H {s with heap:=s.heap.push {cls:=.type "range",data:=.fields #[.int lo t,.int hi u,.int 1 v]},toks:=tk}:=I.kept λb o e=>aad _ e;refine⟨(s.heap.push {cls:=.type "range",data:=.fields #[.int lo t,.int hi u,.int 1 v]}).objs.size,[(s.heap.push {cls:=.type "range",data:=.fields #[.int lo t,.int hi u,.int 1 v]}).objs.size],_,_,H,rfl,
  I1.kept (t':=tk) λb o e=>aad _ e,qd _ lo (hi - lo).toNat,?_,λb hb=>?_,q⟩
 .have e1:lo+((0:Nat):Int)*1=lo:=by simp
  have e2:(((hi - lo).toNat:Nat):Int) - ((0:Nat):Int)=Builtin.Range.rangeSize lo hi 1:=by rw[rangeSize_one];split<;>omega
  show IsRangeIter _ _ (lo+((0:Nat):Int)*1) ((((hi - lo).toNat:Nat):Int) - ((0:Nat):Int)) 1;rw[e1,e2];exact aan _ rfl
 .have e:b=(s.heap.push {cls:=.type "range",data:=.fields #[.int lo t,.int hi u,.int 1 v]}).objs.size:=by simpa using hb
  subst e;exact I1.FH (aak _) (I1.yL.fresh (aak _))
def Mj(ta:TA):TI:=λσ H R=>ta σ H λvs H1=>∃j:Int,vs=[.int j] /\ -(2 ^ 62)<=j/\j<2 ^ 62/\R (NX 0 j.toNat) H1
theorem rm{a:Expr}{ta:TA}{p:Pos}(hg:Gl X "range")(hm:X.mg "range" = none)(ha:PA X [a] ta)(hs:aag [a] X.env=[(false,eval a X.env)]:=by rfl):PI X tg (.Call (.Name "range" p) [a] [] pos) (Mj ta):=by
 refine λpins s σ H R I h=>Call_ (er I hg hm boot_range (aep (zk (ha pos pins s σ H _ I h) λus s1 ⟨vs,H1,I1,r1,q1⟩=>?_) hs rfl));obtain⟨j,e,q1,q2,q⟩:=q1;subst e;cases r1 with
 |cons r rr=>
  cases rr;obtain⟨t,rfl⟩:=r;exact call_range_1 (sY I1 (by omega) (by omega) q1 q2 (by simp_all))
def Oz(wi:TI)(g:TG)(tb:TS):TS:=λD σ H=>wi σ H λJ H1=>∃W:Nat->Nat->St->Hp->Prop,(∃m,W 0 m σ H1)/\∀i m σ H,W i m σ H ->
 (J.stop i H/\D.nx σ H)\/(J.go i H/\∃N:St->Hp->Prop,(∀σ' H',N σ' H'->∃m',m'<m/\W (i+1) m' σ' H')/\∀x H',J.yld i H x H'->g x σ H' λσ2 H2=>tb {D with nx:=N,ct:=N,bk:=D.nx} σ2 H2)
def CF(fp:List Addr)(h:Heap):List (Addr×Obj):=fp.filterMap λb=>(h.get? b).map λo=>(b,o)
variable{fp:List Addr}
def bW{b:Addr}{o:Obj}(hb:b∈fp)(e:h.get? b=some o):(b,o)∈CF fp h:=List.mem_filterMap.mpr ⟨b,hb,by rw[e];rfl⟩
def rL{p:Addr×Obj}(hp:p∈CF fp h):p.1∈fp/\h.get? p.1=some p.2:=by
 obtain⟨b,hb,e⟩:=List.mem_filterMap.mp hp;cases q:h.get? b with
 |none=>rw[q]at e;cases e
 |some o=>
  rw[q]at e;have e'  := aaq e;subst e';exact⟨hb,q⟩
def Inv.pinned(I:Inv X pins σ H s)(hf:∀b∈fp,BH X pins H b)(ho:∀b∈fp,∃o,s.heap.get? b=some o/\∀v,o.data≠.cell v):Inv X (pins++CF fp s.heap) σ H s :=
 I.Ff λp hp=>(List.mem_append.mp hp).elim (λz=>I.pin p (aao _ z)) λz=>by
  obtain⟨hb,e⟩:=rL z;obtain⟨f0,f1,f2,_⟩:=hf p.1 hb;obtain⟨o,e',d⟩:=ho p.1 hb;rw[e]at e';cases e';exact⟨e,f0,f1,f2,d⟩
def Inv.AZ{pl:List (Addr×Obj)}(I:Inv X (pins++pl) σ H s):Inv X pins σ H s:=I.Ff λp hp=>I.pin p (aao _ (aaD _ hp))
def rj{iter:Expr}{wi:TI}{g:TG}{tb:TS}(hp:PassesOwn (model X.prog X.w) X.A X.env X.xe)(hc:X.calm=true)(hi:PI X tg iter wi)(hg:PG X tg g)(hb:E4 X body tb)
  (hs:∀x,aaT iter X.env x=pure x:=by intro _;rfl):PS X (.For tg iter body [] pos) (Oz wi g tb):=by
 refine λpins s σ H D I h=>wpAny_For (zk (hi pins s σ H _ I h) λv s1 h1=>zk h1 λNB s2 h2=>?_) hs;obtain⟨it,fp,tn,J,H2,e,I2,T,Jf,f2,W,⟨m0,w0⟩,turn⟩:=h2;subst e;have Jd:∀{H':Hp},(∀b∈fp,H' b=none)->∀b∈fp,BH X pins H' b:=λhn b hb=>⟨hn b hb,(f2 b hb).2⟩
 refine codeAny_forLoop_any (λn s'=>∃i σ' H',Inv X pins σ' H' s'/\tn i s'.heap/\(∀b∈fp,H' b=none)/\W i n σ' H') ?_ m0 ⟨0,σ,H2,I2,Jf,λb hb=>(f2 b hb).1,w0⟩;rintro n s3 ⟨i,σ3,H3,I3,QG,Rp,w3⟩;rcases turn i n σ3 H3 w3 with ⟨stop,qn⟩|⟨go,N,hN,step⟩
 .refine ab1 hp (zk (T.done X rfl rfl rfl hc i pins s3 σ3 H3 X.xe I3 (Jd Rp) QG stop) λr s4 ⟨hr,I4⟩=>?_);subst hr;exact adi ⟨σ3,H3,I4,qn⟩
 .refine ab1 hp (zk (T.item X rfl rfl rfl hc i pins s3 σ3 H3 X.xe I3 (Jd Rp) QG go) λr s4 ⟨u,hr,h4⟩=>?_);subst hr;refine ab1 hp (zk h4 λ_ s5 ⟨x,H5,I5,r5,y5,Hu,J0⟩=>?_);have Uw:=I5.pinned (Jd J0) (T.obj _ _ Hu);refine ab1 hp (zk (hg _ s5 σ3 H5 x u _ Uw r5 (step x H5 y5)) λ_ s6 ⟨σ6,H6,I6,q6⟩=>?_);refine ab1 hp (zk (hb _ s6 σ6 H6 _ I6 q6) λf s7 q7=>?_);have again:∀{σ7:St} {H7:Hp},Inv X _ σ7 H7 s7->N σ7 H7->∃m,m<n/\∃i σ' H',Inv X pins σ' H' s7/\tn i s7.heap/\(∀b∈fp,H' b=none)/\W i m σ' H':=λ{σ7 H7} I7 n7=>by
   obtain⟨m',hm,w7⟩:=hN σ7 H7 n7;refine⟨m',hm,i+1,σ7,H7,I7.AZ,T.keep _ _ _ Hu λb hb o e=>(I7.pin _ (aao _ (aao _ (bW hb e)))).1,λb hb=>?_,w7⟩;obtain⟨o,e,d⟩:=T.obj _ _ Hu b hb;exact(I7.pin _ (aao _ (aao _ (bW hb e)))).2.1
  cases f with
  |next=>obtain⟨σ7,H7,I7,n7⟩:=q7;exact again I7 n7
  |cont=>obtain⟨σ7,H7,I7,n7⟩:=q7;exact again I7 n7
  |brk=>obtain⟨σ7,H7,I7,q7⟩:=q7;exact⟨σ7,H7,I7.AZ,q7⟩
  |ret v=>obtain⟨x7,σ7,H7,I7,r7,q7⟩:=q7;exact⟨x7,σ7,H7,I7.AZ,r7,q7⟩
def t8{g:TG}{tb:TS}{D:Ends}(Pv:Nat->St->Hp->Prop)(h0:Pv 0 σ H)(hl:∀i σ H,i<=xs.length->Pv i σ H->Ar K H a xs)
  (hs:∀i x σ H,xs[i]?=some x->Pv i σ H->g x σ H λσ2 H2=>tb {D with nx:=Pv (i+1),ct:=Pv (i+1),bk:=D.nx} σ2 H2) (hd:∀σ H,Pv xs.length σ H->D.nx σ H) :
  ∃W:Nat->Nat->St->Hp->Prop,(∃m,W 0 m σ H)/\∀i m σ H,W i m σ H ->
   ((Hm K a).stop i H/\D.nx σ H)\/((Hm K a).go i H/\∃N:St->Hp->Prop,(∀σ' H',N σ' H'->∃m',m'<m/\W (i+1) m' σ' H')/\∀x H',(Hm K a).yld i H x H'->g x σ H' λσ2 H2=>tb {D with nx:=N,ct:=N,bk:=D.nx} σ2 H2):=by
 refine⟨λi m σ H=>m=xs.length - i/\i<=xs.length/\Pv i σ H,⟨xs.length,by simp,aaS _,h0⟩,?_⟩;rintro i m σ H ⟨rfl,hi,p⟩;have q:=hl i σ H hi p;by_cases zR:i<xs.length
 .refine .inr ⟨⟨xs,xs[i],q,by simp_all⟩,_,λσ' H' p'=>⟨_,by omega,rfl,zR,p'⟩,λx H' y=>?_⟩;obtain⟨e,y⟩:=y;subst e;exact hs i x σ _ (y xs q) p
 .have e:i=xs.length:=by omega
  subst e;exact .inl ⟨⟨xs,q,aak _⟩,hd σ H p⟩
abbrev R2:=V->V->Hp->VK->Prop
def zC(X:Cx)(f:Value->Value->Sem Value)(r:R2):Prop :=
 ∀(pins:List (Addr×Obj)) (s:Shared) (σ:St) (H:Hp) (x y:V) (v u:Value) (Q:VK),Inv X pins σ H s->RelV x v->RelV y u->r x y H Q ->
  wpAny (model X.prog X.w) X.A (f v u) (EP X pins σ Q) X.xe s
def za(X:Cx)(f:Value)(r:List V->Hp->VK->Prop):Prop :=
 ∀(pins:List (Addr×Obj)) (s:Shared) (σ:St) (H:Hp) (xs:List V) (us:List Value) (Q:VK),Inv X pins σ H s->yz xs us->r xs H Q ->
  wpAny (model X.prog X.w) X.A (call f us) (EP X pins σ Q) X.xe s
def Qm(X:Cx)(r:V->Hp->(Bool->Hp->Prop)->Prop):Prop :=
 ∀(pins:List (Addr×Obj)) (s:Shared) (σ:St) (H:Hp) (x:V) (v:Value) (Q:Bool->Hp->Prop),Inv X pins σ H s->RelV x v->r x H Q ->
  wpAny (model X.prog X.w) X.A (truthy v) (TP X pins σ Q) X.xe s
def Cn(r:R2)(ta tb:TE):TE:=λσ H Q=>ta σ H λx H1=>tb σ H1 λy H2=>r x y H2 Q
def rI(C:Int->Int->Prop)(g:Int->Int->V):R2:=λx y H Q=>∃i j,x=.int i/\y=.int j/\C i j/\Q (g i j) H
def Ep(g:Int->Int->V):R2:=λx y H Q=>∃i j,x=.int i/\y=.int j/\Q (g i j) H
variable{a:Expr}{tc:TE}
def Kg(ha:PE X a ta)(hb:PE X b tb){R:V->V->Hp->Prop}(I:Inv X pins σ H s)
  (h:ta σ H λx H1=>tb σ H1 λy H2=>R x y H2) {Q:Value->Shared->Prop} {f:Value->Value->Sem Value}
  (hf:∀v u s2 x y H2,Inv X pins σ H2 s2->RelV x v->RelV y u->R x y H2->wpAny (model X.prog X.w) X.A (f v u) Q X.xe s2) :
  wpAny (model X.prog X.w) X.A (eval a X.env) (λv s₁=>wpAny (model X.prog X.w) X.A (eval b X.env) (λu s₂=>wpAny (model X.prog X.w) X.A (f v u) Q X.xe s₂) X.xe s₁) X.xe s:=by
 refine zk (ha pins s σ H _ I h) λv s1 ⟨x,H1,I1,r1,q1⟩=>zk (hb pins s1 σ H1 _ I1 q1) λu s2 ⟨y,H2,I2,r2,q2⟩=>?_;exact hf v u s2 x y H2 I2 r1 r2 q2
variable{r:R2}
def bj{op:Operator}(ho:zC X (abR op) r)(ha:PE X a ta)(hb:PE X b tb):PE X (.BinOp a op b pos) (Cn r ta tb):=by
 exact λpins s σ H Q I h=>wpAny_BinOp (Kg ha hb I h λv u s2 x y H2 I2 rx ry q=>ho pins s2 σ H2 x y v u Q I2 rx ry q)
variable{f:Value->Value->Sem Value}
theorem Np{C:Int->Int->Prop}{g:Int->Int->Int}
  (rule:∀(i j:Int) (t u:Tok) (s:Shared) (Q:Value->Shared->Prop) (E:Value->Shared->Prop),C i j->Q (.int (g i j) s.toks) {s with toks:=s.toks+1}->wpAny (model X.prog X.w) X.A (f (.int i t) (.int j u)) Q E s) :
  zC X f (rI C λi j=>.int (g i j)):=by
 intro pins s σ H x y v u Q I rx ry h;obtain⟨i,j,rfl,rfl,hc,q⟩:=h;obtain⟨t,rfl⟩:=rx;obtain⟨t',rfl⟩:=ry;exact rule i j t t' s _ _ hc ⟨.int _,H,I.tok _,⟨_,rfl⟩,q⟩
theorem LO{g:Int->Int->Int}
  (rule:∀(i j:Int) (t u:Tok) (s:Shared) (Q:Value->Shared->Prop) (E:Value->Shared->Prop),Q (.int (g i j) s.toks) {s with toks:=s.toks+1}->wpAny (model X.prog X.w) X.A (f (.int i t) (.int j u)) Q E s) :
  zC X f (Ep λi j=>.int (g i j)):=by
 intro pins s σ H x y v u Q I rx ry h;obtain⟨i,j,rfl,rfl,q⟩:=h;obtain⟨t,rfl⟩:=rx;obtain⟨t',rfl⟩:=ry;exact rule i j t t' s _ _ ⟨.int _,H,I.tok _,⟨_,rfl⟩,q⟩
theorem HD{g:Int->Int->Bool}
  (rule:∀(i j:Int) (t u:Tok) (s:Shared) (Q:Value->Shared->Prop) (E:Value->Shared->Prop),Q (.bool (g i j)) s->wpAny (model X.prog X.w) X.A (f (.int i t) (.int j u)) Q E s) :
  zC X f (Ep λi j=>.bl (g i j)):=by
 intro pins s σ H x y v u Q I rx ry h;obtain⟨i,j,rfl,rfl,q⟩:=h;obtain⟨t,rfl⟩:=rx;obtain⟨t',rfl⟩:=ry;exact rule i j t t' s _ _ ⟨.bl _,H,I,rfl,q⟩
def Kp(i j:Int):Prop:=0<j/\j<1073741824
def Qw(i j:Int):Prop:=0<=j/\j<=1000000/\i.natAbs<2 ^ 64
def FP(i j:Int):Prop:=(-(2 ^ 64)<i/\i<2 ^ 64)\/(-(2 ^ 64)<j/\j<2 ^ 64)
theorem FP.ok{i j:Int}(h:FP i j):IntMulOk i j:=by
 rcases h with ⟨h1,h2⟩|⟨h1,h2⟩
 .exact .of_left (intBits_le_64 h1 h2)
 .exact .of_right (intBits_le_64 h1 h2)
theorem hX:zC X (abR .Add) (Ep λi j=>.int (i+j)):=LO λ_ _ _ _ _ _ _ q=>add_int q
theorem xg:zC X (abR .Sub) (Ep λi j=>.int (i - j)):=LO λ_ _ _ _ _ _ _ q=>sub_int q
theorem j9:zC X (abR .Mult) (rI FP λi j=>.int (i*j)):=Np λ_ _ _ _ _ _ _ hc q=>mul_int q hc.ok
theorem lB:zC X (abR .FloorDiv) (rI Kp λi j=>.int (i / j)):=Np λi j _ _ _ _ _ hc q=>by
 have h1  := hc.1;have h2  := hc.2;exact floordiv_int (by omega) (by rw[Int.fdiv_eq_ediv_of_nonneg i (by omega)];exact q) (.inl (PyProof.noPylong_small (by omega)))
theorem ee:zC X (abR .Mod) (rI (λ_ j=>0<j) λi j=>.int (i % j)):=Np λi j _ _ _ _ _ hc q=>by
 exact mod_int' (by omega) (by rw[Int.fmod_eq_emod_of_nonneg i (by omega)];exact q)
theorem nM:zC X (abR .Pow) (rI Qw λi j=>.int (i ^ j.toNat)):=Np λ_ _ _ _ _ _ _ hc q=>pow_int_small hc.1 hc.2.1 hc.2.2 q
def Hx:V->V->Bool
 |.yB,.yB=>true|.yB,.int _=>true|.int _,.yB=>true|.yB,.bl _=>true|.bl _,.yB=>true|.yB,.str _=>true|.str _,.yB=>true
 |.int _,.int _=>true|.bl _,.bl _=>true|.str _,.str _=>true|.FL _,.FL _=>true
 |.int _,.str _=>true|.str _,.int _=>true|.bl _,.str _=>true|.str _,.bl _=>true
 |_,_=>false
def R4:R2:=λx y H Q=>Hx x y=true/\Q (.bl (decide (x=y))) H
def OP:R2:=λx y H Q=>Hx x y=true/\Q (.bl (!decide (x=y))) H
theorem pS{i j:Int}:decide (V.int i=V.int j)=(i==j):=by
 rw[aa2];simp
theorem sA{i j:Bool}:decide (V.bl i=V.bl j)=(i==j):=by
 rw[aa2];simp
theorem pR{i j:Str}:decide (V.str i=V.str j)=(i==j):=by
 rw[aa2];simp
theorem pT{i j:Array UInt8}:decide (V.FL i=V.FL j)=(i.toList==j.toList):=by
 rw[aa2];cases i;cases j;simp
def aD{Q:VK}{k k':Bool}(I:Inv X pins σ H s)(q:Q (.bl k) H)(e:k=k'):EP X pins σ Q (.bool k') s:=by
 subst e;exact⟨.bl k,H,I,rfl,q⟩
theorem yj:zC X (aaL .Eq) R4:=by
 intro pins s σ H x y v u Q I rx ry h;obtain⟨hs,q⟩:=h;cases x with
 |yB=>
  cases rx;cases y with
  |yB=>cases ry;exact PySem.EqNone.eq_none_none (aD I q (by simp))
  |bl j=>cases ry;exact PySem.EqNone.eq_none_bool (aD I q (by simp))
  |int j=>obtain⟨t',rfl⟩:=ry;exact PySem.EqNone.eq_none_int (aD I q (by simp))
  |str j=>obtain⟨t',rfl⟩:=ry;exact PySem.EqNone.eq_none_str (aD I q (by simp))
  |_=>exact absurd (show false=true from hs) aaE
 |bl i=>
  cases rx;cases y with
  |yB=>cases ry;exact PySem.EqNone.eq_bool_none (aD I q (by simp))
  |bl j=>cases ry;exact eq_bool (aD I q sA)
  |str j=>obtain⟨t',rfl⟩:=ry;exact PySem.EqMixed.eq_bool_str (aD I q (by simp))
  |_=>exact absurd (show false=true from hs) aaE
 |int i=>
  obtain⟨t,rfl⟩:=rx;cases y with
  |yB=>cases ry;exact PySem.EqNone.eq_int_none (aD I q (by simp))
  |int j=>obtain⟨t',rfl⟩:=ry;exact eq_int (aD I q pS)
  |str j=>obtain⟨t',rfl⟩:=ry;exact PySem.EqMixed.eq_int_str (aD I q (by simp))
  |_=>exact absurd (show false=true from hs) aaE
 |str i=>
  obtain⟨t,rfl⟩:=rx;cases y with
  |yB=>cases ry;exact PySem.EqNone.eq_str_none (aD I q (by simp))
  |bl j=>cases ry;exact PySem.EqMixed.eq_str_bool (aD I q (by simp))
  |int j=>obtain⟨t',rfl⟩:=ry;exact PySem.EqMixed.eq_str_int (aD I q (by simp))
  |str j=>obtain⟨t',rfl⟩:=ry;exact eq_str (aD I q pR)
  |_=>exact absurd (show false=true from hs) aaE
 |FL i=>
  obtain⟨t,rfl⟩:=rx;cases y with
  |FL j=>obtain⟨t',rfl⟩:=ry;exact PySem.W.eq_bytes (aD I q pT)
  |_=>exact absurd (show false=true from hs) aaE
 |_=>cases y<;>exact absurd (show false=true from hs) aaE
theorem yf:zC X (aaL .NotEq) OP:=by
 intro pins s σ H x y v u Q I rx ry h;obtain⟨hs,q⟩:=h;cases x with
 |yB=>
  cases rx;cases y with
  |yB=>cases ry;exact PySem.EqNone.ne_none_none (aD I q (by simp))
  |bl j=>cases ry;exact PySem.EqNone.ne_none_bool (aD I q (by simp))
  |int j=>obtain⟨t',rfl⟩:=ry;exact PySem.EqNone.ne_none_int (aD I q (by simp))
  |str j=>obtain⟨t',rfl⟩:=ry;exact PySem.EqNone.ne_none_str (aD I q (by simp))
  |_=>exact absurd (show false=true from hs) aaE
 |bl i=>
  cases rx;cases y with
  |yB=>cases ry;exact PySem.EqNone.ne_bool_none (aD I q (by simp))
  |bl j=>cases ry;exact ne_bool (aD I q (congrArg not sA))
  |str j=>obtain⟨t',rfl⟩:=ry;exact PySem.EqMixed.ne_bool_str (aD I q (by simp))
  |_=>exact absurd (show false=true from hs) aaE
 |int i=>
  obtain⟨t,rfl⟩:=rx;cases y with
  |yB=>cases ry;exact PySem.EqNone.ne_int_none (aD I q (by simp))
  |int j=>obtain⟨t',rfl⟩:=ry;exact ne_int (aD I q (congrArg not pS))
  |str j=>obtain⟨t',rfl⟩:=ry;exact PySem.EqMixed.ne_int_str (aD I q (by simp))
  |_=>exact absurd (show false=true from hs) aaE
 |str i=>
  obtain⟨t,rfl⟩:=rx;cases y with
  |yB=>cases ry;exact PySem.EqNone.ne_str_none (aD I q (by simp))
  |bl j=>cases ry;exact PySem.EqMixed.ne_str_bool (aD I q (by simp))
  |int j=>obtain⟨t',rfl⟩:=ry;exact PySem.EqMixed.ne_str_int (aD I q (by simp))
  |str j=>obtain⟨t',rfl⟩:=ry;exact ne_str (aD I q (congrArg not pR))
  |_=>exact absurd (show false=true from hs) aaE
 |FL i=>
  obtain⟨t,rfl⟩:=rx;cases y with
  |FL j=>obtain⟨t',rfl⟩:=ry;exact PySem.W.ne_bytes (aD I q (congrArg not pT))
  |_=>exact absurd (show false=true from hs) aaE
 |_=>cases y<;>exact absurd (show false=true from hs) aaE
theorem yg:zC X (aaL .Lt) (Ep λi j=>.bl (decide (i<j))):=HD λ_ _ _ _ _ _ _ q=>lt_int q
theorem yh:zC X (aaL .LtE) (Ep λi j=>.bl (decide (i<=j))):=HD λ_ _ _ _ _ _ _ q=>le_int q
theorem yi:zC X (aaL .Gt) (Ep λi j=>.bl (decide (j<i))):=HD λ_ _ _ _ _ _ _ q=>gt_int q
theorem uC:zC X (aaL .GtE) (Ep λi j=>.bl (decide (j<=i))):=HD λ_ _ _ _ _ _ _ q=>ge_int q
theorem rG:zC X (aaL .Lt) (λx y H Q=>∃i j,x=.str i/\y=.str j/\Q (.bl (decide (i.cps.toList<j.cps.toList))) H):=by
 intro pins s σ H x y v u Q I rx ry h;obtain⟨i,j,rfl,rfl,q⟩:=h;obtain⟨t,rfl⟩:=rx;obtain⟨t',rfl⟩:=ry;exact lt_str (aD I q rfl)
theorem rJ:zC X (aaL .In) (λx y H Q=>∃i j,x=.str i/\y=.str j/\Q (.bl (!(act j i 0 j.length 1).isEmpty)) H):=by
 intro pins s σ H x y v u Q I rx ry h;obtain⟨i,j,rfl,rfl,q⟩:=h;obtain⟨t,rfl⟩:=rx;obtain⟨t',rfl⟩:=ry;exact in_str (aD I q rfl)
def xj:zC X (aaL .Is) (λx y H Q=>y=.yB/\Q (.bl (decide (x=.yB))) H):=by
 intro pins s σ H x y v u Q I rx ry h;obtain⟨rfl,q⟩:=h;cases ry;refine is_none_gen (aD I q ?_);cases x<;>first
  |(rfl)
  |(obtain⟨t,rfl⟩:=rx;rfl)
variable{op:CmpOp}
def BS(b:Expr)(h:op≠.In:=by decide)(h2:op≠.NotIn:=by decide):ab7 op b=false:=by
 have e1:(op==CmpOp.In)=false:=by simp_all
 have e2:(op==CmpOp.NotIn)=false:=by simp_all
 cases b<;>simp[ab7,e1,e2]
def pG(ho:zC X (aaL op) r)(ha:PE X a ta)(hb:PE X b tb)(hm:ab7 op b=false):PE X (.Compare a [op] [b] pos) (Cn r ta tb):=by
 exact λpins s σ H Q I h=>wpAny_Compare1 (Kg ha hb I h λv u s2 x y H2 I2 rx ry q=>ho pins s2 σ H2 x y v u Q I2 rx ry q) hm
def E9(t:TE):TT:=λσ H Q=>t σ H λx H'=>∃k,x=.bl k/\Q k H'
def fE(ho:zC X (aaL op) r)(ha:PE X a ta)(hb:PE X b tb)(hm:ab7 op b=false):PT X (.Compare a [op] [b] pos) (E9 (Cn r ta tb)):=by
 refine λpins s σ H Q I h=>wpAny_isTrue_Compare1 (zk (ha pins s σ H _ I h) λv s1 ⟨x,H1,I1,r1,q1⟩=>zk (hb pins s1 σ H1 _ I1 q1) λu s2 ⟨y,H2,I2,r2,q2⟩=>
  zk (ho pins s2 σ H2 x y v u _ I2 r1 r2 q2) λc s3 ⟨z,H3,I3,r3,k,e,q3⟩=>?_) hm
 subst e;cases r3;exact abf ⟨H3,I3,q3⟩
def Ez(r r':R2)(ta tb tc:TE):TE:=λσ H Q=>ta σ H λx H1=>tb σ H1 λy H2=>r x y H2 λz H3=>∃k,z=.bl k /\
 (if k=true then tc σ H3 λw' H4=>r' y w' H4 Q else Q (.bl false) H3)
variable{r':R2}
def tD{EL:CmpOp}(ho:zC X (aaL op) r)(Cb:zC X (aaL EL) r')(ha:PE X a ta)(hb:PE X b tb)(hc:PE X c tc)
  (hm:lastMarks [op,EL] [b,c]=false:=by with_unfolding_all rfl):PE X (.Compare a [op,EL] [b,c] pos) (Ez r r' ta tb tc):=by
 refine λpins s σ H Q I h=>Compare_chain (zk (ha pins s σ H _ I h) λv s1 ⟨x,H1,I1,r1,q1⟩=>chain_link (zk (hb pins s1 σ H1 _ I1 q1) λu s2 ⟨y,H2,I2,r2,q2⟩=>
  zk (ho pins s2 σ H2 x y v u _ I2 r1 r2 q2) λd s3 ⟨z,H3,I3,r3,k,e,q3⟩=>?_)) hm
 subst e;cases r3;refine abf ?_;cases k with
 |false=>exact ite_ff ⟨.bl false,H3,I3,rfl,q3⟩
 |true=>exact ite_tt (chain_last (zk (hc pins s3 σ H3 _ I3 q3) λw' s4 ⟨z',H4,I4,r4,q4⟩=>Cb pins s4 σ H4 y z' u w' Q I4 r2 r4 q4))
def tf{EL:CmpOp}(ho:zC X (aaL op) r)(Cb:zC X (aaL EL) r')(ha:PE X a ta)(hb:PE X b tb)(hc:PE X c tc)
  (hm:lastMarks [op,EL] [b,c]=false:=by with_unfolding_all rfl):PT X (.Compare a [op,EL] [b,c] pos) (E9 (Ez r r' ta tb tc)):=by
 refine λpins s σ H Q I h=>isTrue_chain (zk (ha pins s σ H _ I h) λv s1 ⟨x,H1,I1,r1,q1⟩=>test_link (zk (hb pins s1 σ H1 _ I1 q1) λu s2 ⟨y,H2,I2,r2,q2⟩=>
  zk (ho pins s2 σ H2 x y v u _ I2 r1 r2 q2) λd s3 ⟨z,H3,I3,r3,k,e,q3⟩=>?_)) hm
 subst e;cases r3;refine abf ?_;cases k with
 |false=>
  obtain⟨k',e',q'⟩:=q3;cases e';exact ite_ff ⟨H3,I3,q'⟩
 |true=>
  refine ite_tt (test_last (zk (hc pins s3 σ H3 _ I3 q3) λw' s4 ⟨z',H4,I4,r4,q4⟩=>zk (Cb pins s4 σ H4 y z' u w' _ I4 r2 r4 q4) λd' s5 ⟨z2,H5,I5,r5,k2,e2,q5⟩=>?_));subst e2;cases r5;exact abf ⟨H5,I5,q5⟩
def MX(K:aaf)(x:V)(H:Hp)(k:Bool):Prop :=
 match x with
 |.yB=>k=false
 |.bl b=>k=b
 |.int i=>k=(i != 0)
 |.str y=>y.length<=sizeLine/\k=((y.length:Int) != 0)
 |.FL y=>y.size<=sizeLine/\k=((y.size:Int) != 0)
 |.ref p=>(∃xs,Ar K H p xs/\k=!xs.isEmpty)\/(∃xs,AF K H p xs/\k=!xs.isEmpty)\/∃gE,H p=some (.dK gE)/\k=!gE.isEmpty
 |_=>False
def qy{κ:Type}{gE:List (κ×V)}{vs:List (κ×Value)}(r:KV gE vs):(!vs.isEmpty)=!gE.isEmpty:=by
 cases r<;>rfl
variable{nE:List Value}
def kn(r:yz xs nE):(!nE.toArray.isEmpty)=!xs.isEmpty:=by
 cases r<;>simp
def Bo:(sizeLine:Nat)<2 ^ 63:=by rw[aaB];decide
def wJ:Qm X (λx H Q=>∃k,MX X.K x H k/\Q k H):=by
 intro pins s σ H x v Q I rx h;obtain⟨k,e,q⟩:=h;have hl:=Bo;have hs:sizeLine=16777216:=aaB;cases x with
 |yB=>
  cases rx;have e':k=false:=e;subst e';exact truthy_none ⟨H,I,q⟩
 |bl b=>
  cases rx;have e':k=b:=e;subst e';exact abf ⟨H,I,q⟩
 |int i=>
  obtain⟨t,rfl⟩:=rx;have e':k=(i != 0):=e;subst e';exact PySem.P.truthy_int ⟨H,I,q⟩
 |str y=>
  obtain⟨t,rfl⟩:=rx;obtain⟨hy,e'⟩:y.length<=sizeLine/\k=((y.length:Int) != 0):=e;subst e';exact PySem.P.truthy_str (by omega) ⟨H,I.tok _,q⟩
 |FL y=>
  obtain⟨t,rfl⟩:=rx;obtain⟨hy,e'⟩:y.size<=sizeLine/\k=((y.size:Int) != 0):=e;subst e';exact PySem.W.truthy_bytes (by omega) ⟨H,I.tok _,q⟩
 |ref p=>
  cases rx;have e'  := e;rcases e' with ⟨xs,hx,e'⟩|⟨xs,hx,e'⟩|⟨gE,hx,e'⟩
  .subst e';obtain⟨nE,r,pl,hz⟩:=I.list hx;have hlen:=r.length;exact wpAny_truthy_list pl.isList (by simp only[aam];omega) ⟨H,I.tok _,by rw[kn r];exact q⟩
  .subst e';obtain⟨nE,r,pl,hz⟩:=I.tuple hx;have hlen:=r.length;exact truthy_tuple pl (by simp only[aam];omega) ⟨H,I.tok _,by rw[kn r];exact q⟩
  .subst e';obtain⟨hz,hS,vs,r,m⟩:gE.length<=sizeLine/\(p==abW)=false/\∃vs,KV gE vs/\s.heap.DictOf (aH X.prog X.w) p vs:=I.yL p _ hx;have hlen:gE.length=vs.length:=adJ r;exact wpAny_truthy_dict hS m (by omega) ⟨H,I.tok _,by rw[qy r];exact q⟩
 |_=>exact(show False from e).elim
def s0(ha:PE X a ta)(he:∀whole,isTrue a X.env whole=(do let v <- whole;standAt a.pos;acn [v] (truthy v))):
  PT X a (λσ H Q=>ta σ H λx H'=>∃k,MX X.K x H' k/\Q k H'):=by
 exact λpins s σ H Q I h=>isTrue_plain (zk (ha pins s σ H _ I h) λv s1 ⟨x,H1,I1,r1,q1⟩=>wJ pins s1 σ H1 x v Q I1 r1 q1) (he _)
theorem qt:zC X (abR .Add) (λx y H Q=>∃i j,x=.str i/\y=.str j/\i.length+j.length<=sizeLine/\Q (.str (i++j)) H):=by
 intro pins s σ H x y v u Q I rx ry h;obtain⟨i,j,rfl,rfl,hz,q⟩:=h;obtain⟨t,rfl⟩:=rx;obtain⟨t',rfl⟩:=ry;exact add_str (λt' tk=>⟨.str _,H,I.tok _,⟨_,rfl⟩,q⟩) hz
def vals1{x:V}(r:yz [x] us):∃u,us=[u]/\RelV x u:=by
 cases r with
 |cons r1 r2=>cases r2;exact⟨_,rfl,r1⟩
def vals2{x:V}(r:yz [x,y] us):∃u w',us=[u,w']/\RelV x u/\RelV y w':=by
 cases r with
 |cons r1 r2=>
  cases r2 with
  |cons r3 r4=>cases r4;exact⟨_,_,rfl,r1,r3⟩
def jW:za X (.builtin "abs") (λxs H Q=>∃i,xs=[.int i]/\Q (.int (if i<0 then -i else i)) H):=by
 intro pins s σ H xs us Q I r h;obtain⟨i,rfl,q⟩:=h;obtain⟨u,rfl,t,rfl⟩:=vals1 r;exact call_abs_int λu tk=>⟨.int _,H,I.tok _,⟨_,rfl⟩,q⟩
theorem sE(hc:X.calm=true):za X (.builtin "max") (λxs H Q=>∃i j,xs=[.int i,.int j]/\Q (.int (if j > i then j else i)) H):=by
 intro pins s σ H xs us Q I r h;obtain⟨i,j,rfl,q⟩:=h;obtain⟨u,w',rfl,⟨t,rfl⟩,⟨t',rfl⟩⟩:=vals2 r;refine max_two_ints (I.ok.hd hc) λh' tk k=>⟨_,H,I.kept k,?_,q⟩
 by_cases hj:j > i
 .rw[if_pos hj,if_pos hj];exact⟨_,rfl⟩
 .rw[if_neg hj,if_neg hj];exact⟨_,rfl⟩
structure Kj(h:Heap)(x dx C:Addr)(mA:Str->Option Value):Prop where
 obj:h.get? x=some (aen C dx)
 ns:h.Ns1 dx mA
 ne:dx≠x
def rQ{dx:Addr}{mA:Str->Option Value}(n:h.Ns1 dx mA):∃od,h.get? dx=some od/\∀name,aey name od=some (mA name):=by
 obtain⟨o,es,ep,ho,hd,hk,_,hm⟩:=n;refine⟨o,ho,λname=>?_⟩;have e:=hm name;unfold nsFind findBy at e;rw[<- Array.find?_toList]at e;unfold aey;rw[hd];dsimp only;split
 .rename_i y q;rw[q]at e;exact congrArg some e
 .rename_i q;rw[q]at e;have a:es.toList.any (·.refKey)=false:=by
   rw[List.any_eq_false];intro y hy;obtain⟨z,t,GJ⟩:=hk y (Array.mem_toList_iff.mp hy);simp[DictEntry.refKey,GJ]
  have a':¬ es.toList.any (·.refKey)=true:=by rw[a];exact aaE
  rw[if_neg a'];exact congrArg some e
variable{C:Addr}
def Kj.look{dx:Addr}{mA:Str->Option Value}(I:Kj h x dx C mA):∃od,PySem.W.InstAt h x (aen C dx) C (some od)/\∀name,aey name od=some (mA name) :=
 let ⟨od,ho,hl⟩:=rQ I.ns
 ⟨od,⟨I.obj,rfl,rfl,ho⟩,hl⟩
variable{prog:aaA}{dx f:Addr}{mA:Str->Option Value}{name:Str}{v:Value}
def Ct.some_of{v:V}{o:Option Value}(r:Ct (some v) o):∃u,o=some u/\RelV v u:=by
 cases o with
 |none=>exact(r).elim
 |some u=>exact⟨u,rfl,r⟩
section
variable{a:Addr}{fs Tw:List (Str×V)}
def vS(yL:Bc P w H h)(e:H a=some (.ins C dx fs)):∃mA,Kj h a dx C mA/\(∀f,Ct (fs.lookup f) (mA f))/\PySem.Within mA (fs.map (·.1))/\fs.length<=1000/\H dx=some (.own a):=by
 obtain⟨d,z,ne,ob,mA,n,r,q⟩:=(yL a _ e)
 exact⟨mA,⟨ob,n,ne⟩,r,q,z,d⟩
end
structure Qv(K:aaf)(C:Addr):Prop where
 pg:PySem.W.plainGet K C Str.empty=true
 hd:PySem.W.hasDictIn K C=true
 po:PySem.W.plainOver K C=true
 sa:PySem.W.findIn K (.ref C) "__setattr__" = some (some (.builtin "object.__setattr__"))
def Qv.get(c:Qv K C)(f:Str):PySem.W.plainGet K C f=true:=c.pg
section
variable{a:Addr}{fs:List (Str×V)}{f:Str}{v:V}
end
variable{o value:Expr}{f:Str}{Gh:Pos}{tv:TE}
variable{Q:Value->Shared->Prop}{c:Value}{b:Bool}
inductive B5 (K:aaf) (H:Hp):V->Value->Prop where
 |yB:B5 K H .yB (.type "NoneType")
 |bl (x:Bool):B5 K H (.bl x) (.type "bool")
 |int (i:Int):B5 K H (.int i) (.type "int")
 |str (x:Str):B5 K H (.str x) (.type "str")
 |KO (x:UInt64):B5 K H (.KO x) (.type "float")
 |lst {a:Addr} {xs:List V} (e:H a=some (.lst xs)):B5 K H (.ref a) (.type "list")
 |Bf {a:Addr} {o:Obj} {xs:List V} (e:H a=some (.Bf o (.lst xs))):B5 K H (.ref a) (.type "list")
 |tup {a:Addr} {xs:List V} (e:H a=some (.tup xs)):B5 K H (.ref a) (.type "tuple")
 |dK {a:Addr} {gE:List (Key×V)} (e:H a=some (.dK gE)):B5 K H (.ref a) (.type "dict")
 |dT {a:Addr} {gE:List (List Key×V)} (e:H a=some (.dT gE)):B5 K H (.ref a) (.type "dict")
 |ins {a C dx:Addr} {fs:List (Str×V)} (e:H a=some (.ins C dx fs)) (cl:Qv K C) (ha:PySem.W.findIn K (.ref C) "__class__" = some (some (.builtin "object.__class__")))
   (hn:PySem.W.specialIn K (.builtin "object.__class__") "__get__" = some (some (.builtin "getset_descriptor.__get__"))) (Kx:PySem.W.takesIn K (.builtin "object.__class__")=some true)
   (hm:PySem.W.mroIn K C (.type "object")=some true):B5 K H (.ref a) (.ref C)
def r8{x:V}{u t:Value}(I:Inv X pins σ H s)(rx:RelV x u)(ty:B5 X.K H x t)(e:ady X.K t c=some b)(h:∀tk,Q (.bool b) {s with toks:=tk}):
  wpAny (model X.prog X.w) A (call (.builtin "isinstance") [u,c]) Q E s:=by
 cases ty with
 |yB=>cases (rx);exact abi PySem.W.kitx_none I.C6 abY e (λz=>nomatch z) h
 |bl y=>cases (rx);exact abi PySem.W.kitx_bool I.C6 abY e (λz=>nomatch z) h
 |int i=>obtain⟨t,q⟩:=(rx);cases q;exact abi PySem.W.kitx_int I.C6 abY e (λz=>nomatch z) h
 |str y=>obtain⟨t,q⟩:=(rx);cases q;exact abi PySem.W.kitx_str I.C6 abY e (λz=>nomatch z) h
 |KO y=>obtain⟨t,q⟩:=(rx);cases q;exact abi PySem.W.kitx_float I.C6 abY e (λz=>nomatch z) h
 |@lst a xs ea=>
  cases (rx);obtain⟨_,_,n,_,h1⟩:=(I.yL a _ ea)
  exact abi PySem.W.kitx_list I.C6 ⟨_,h1,rfl⟩ e (λz=>nomatch z) h
 |@Bf a ob xs ea=>
  cases (rx);obtain⟨_,_,_,n,_,h1⟩:=(I.yL a _ ea)
  exact abi PySem.W.kitx_list I.C6 ⟨_,h1,rfl⟩ e (λz=>nomatch z) h
 |@tup a xs ea=>
  cases (rx);obtain⟨_,_,_,p⟩:=(I.yL a _ ea)
  obtain⟨o,h1,h2,_⟩:=p;exact abi PySem.W.kitx_tuple I.C6 ⟨o,h1,h2⟩ e (λz=>nomatch z) h
 |@dK a gE ea=>
  cases (rx);obtain⟨_,_,vs,_,p⟩:=(I.yL a _ ea)
  obtain⟨o,es,ep,h1,h2,_⟩:=p;exact abi PySem.W.kitx_dict I.C6 ⟨o,h1,h2.1⟩ e (λz=>nomatch z) h
 |@dT a gE ea=>
  cases (rx);obtain⟨_,_,xs,_,o,es,ep,h1,h2,_⟩:=(I.yL a _ ea)
  exact abi PySem.W.kitx_dict I.C6 ⟨o,h1,h2.1⟩ e (λz=>nomatch z) h
 |@ins a C dx fs ea cl ha hn Kx hm=>
  cases (rx);obtain⟨mA,O,_⟩:=vS I.yL ea;obtain⟨od,J,_⟩:=O.look;exact abi (PySem.W.kitx_own (cl.get _) cl.hd ha hn Kx hm) I.C6 J e (λz=>nomatch z) h
structure y9(k:Nat)(A:Around):Prop where
 hd:A.handled=none
 dp:A.depth+3*k+5<recursionLimit
 un:A.units+16*k+200<cLine
 gd:A.guards=some []
theorem y9.mono(r:y9 k A)(h:j<=k):y9 j A:=⟨r.hd,by have:=r.dp;omega,by have:=r.un;omega,r.gd⟩
def y9.deeper(r:y9 (k+1) A)(env:Env):y9 k (A.deeper env) :=
 ⟨r.hd,by have:=r.dp;show A.depth+1+3*k+5<_;omega,by have:=r.un;show A.units+3+16*k+200<_;omega,r.gd⟩
def y9.depth(r:y9 k A):A.depth<recursionLimit:=by have:=r.dp;omega
def y9.IW(r:y9 k A):A.units<cLine:=by have:=r.un;omega
def Ht:TA:=λ_ H Q=>Q [] H
def Ik(ta:TE)(tr:TA):TA:=λσ H Q=>ta σ H λx H1=>tr σ H1 λxs H2=>Q (x::xs) H2
variable{t:TA}
def be:PA X [] Ht:=λ_ _ _ _ H Q I h=>Calls.spliced_nil ⟨[],H,I,.nil,h⟩
def aY(ha:PE X e te)(hr:PA X es t)(hs:aag (e::es) X.env=(false,eval e X.env)::aag es X.env:=by rfl):PA X (e::es) (Ik te t):=by
 intro pos pins s σ H Q I h;rw[hs];refine Calls.spliced_cons (zk (ha pins s σ H _ I h) λu s1 ⟨x,H1,I1,r1,q1⟩=>?_);exact zk (hr pos pins s1 σ H1 _ I1 q1) λus s2 ⟨xs,H2,I2,r2,q2⟩=>⟨_,H2,I2,.cons r1 r2,q2⟩
def Ov(t:TA):TE:=λσ H Q=>t σ H λxs H1=>xs.length<=sizeLine/\∀p,H1 p=none->Q (.ref p) (upd H1 p (.tup xs))
def Jb(t:TA):TE:=λσ H Q=>t σ H λxs H1=>xs.length<=sizeLine/\∀p,H1 p=none->Q (.ref p) (upd H1 p (.lst xs))
def wW{x1}(h:PA X es t):PE X (.Tuple es x1 pos) (Ov t):=by
 refine λpins s σ H Q I hq=>wpAny_Tuple_spliced (zk (h pos pins s σ H _ I hq) λus s1 ⟨xs,H1,I1,r,z,q⟩=>⟨by rw[<- r.length];exact z,?_⟩);have hf  := I1.yL.fresh (aak _);refine⟨.ref s1.heap.objs.size,_,I1.laid (λb u e=>aad _ e) (aak _) ?_,rfl,q _ hf⟩;exact⟨z,us,r,⟨_,aan _ rfl,rfl,_,rfl⟩⟩
def hU(h:PA X es t):PE X (.List es pos) (Jb t):=by
 refine λpins s σ H Q I hq=>wpAny_List_spliced (zk (h pos pins s σ H _ I hq) λus s1 ⟨xs,H1,I1,r,z,q⟩=>⟨by rw[<- r.length];exact z,?_⟩);have hf  := I1.yL.fresh (aak _);refine⟨.ref s1.heap.objs.size,_,I1.laid (λb u e=>aad _ e) (aak _) ?_,rfl,q _ hf⟩;exact⟨z,us,0,r,aan _ rfl⟩
abbrev Sp:=List V->Hp->VK->XK->Prop
abbrev KW:=List Env->Hp->Shared->XK->Value->Shared->Prop
structure Ig(P:aaA)(w:World)(K:aaf)(mg:Str->Option Value)(base:Heap)(A:Around)(outer:List Env)(s:Shared)(H:Hp):Prop where
 frames:A.frames=some outer
 mod:Mod K mg base
 bs:∀b o,base.get? b=some o->s.heap.get? b=some o/\H b=none
 IJ:base.objs.size<=s.heap.objs.size
 CJ:s.heap.FunFrames base outer
 KN:∀b∈GR outer,H b=none
 yL:Bc P w H s.heap
 bare:adD s.gens
def CE(outer:List Env)(P:aaA)(w:World)(H:Hp)(s:Shared)(Q:VK)(u:Value)(s':Shared):Prop :=
 ∃v H',s'.os=s.os/\adD s'.gens/\Un (GR outer) [] H H' s.heap s'.heap/\Bc P w H' s'.heap/\RelV v u/\Q v H'
def CR(CX:KW)(outer:List Env)(P:aaA)(w:World)(H:Hp)(s:Shared)(Q:VK)(E:XK)(r:Result)(s':Shared):Prop :=
 match r with
 |.ok (.ret u)=>CE outer P w H s Q u s'
 |.ok _=>False
 |.error e=>CX outer H s E e s'
structure yG(P:aaA)(w:World)(K:aaf)(mg:Str->Option Value)(base:Heap)(CX:KW)(k:Nat)(f:Addr)(fd:abl)(ps:List Str)(sp:Sp):Prop where
 len:∀vs H Q E,sp vs H Q E->vs.length=ps.length
 run:∀(A:Around) (outer:List Env) (s:Shared) (H:Hp) (args:Args) (us:List Value) (vs:List V) (Q:VK) (E:XK),y9 k A->Ig P w K mg base A outer s H->BindsTo s fd args (ps.zip us)->yz vs us->sp vs H Q E ->
  adn (model P w) A (.call (.ref f) args) (CR CX outer P w H s Q E) s
variable{mg:Str->Option Value}{base:Heap}{CX:KW}{fd:abl}{ps:List Str}{sp:Sp}
theorem yG.mono{f:Addr}(F:yG P w K mg base CX j f fd ps sp)(h:j<=k):
  yG P w K mg base CX k f fd ps sp:=⟨F.len,λA outer s H args us vs Q E hr=>F.run A outer s H args us vs Q E (hr.mono h)⟩
def yG.imp{f:Addr}{QI:Sp}(F:yG P w K mg base CX k f fd ps sp)
  (h:∀vs H Q E,QI vs H Q E->sp vs H Q E):yG P w K mg base CX k f fd ps QI :=
 ⟨λvs H Q E q=>F.len vs H Q E (h _ _ _ _ q),λA outer s H args us vs Q E hr he hb hv hs=>F.run A outer s H args us vs Q E hr he hb hv (h _ _ _ _ hs)⟩
def Inv.Qe(I:Inv X pins σ H s):Ig X.prog X.w X.K X.mg X.base X.A X.stack s H :=
 ⟨I.ok.frames,I.ok.mod,I.bs,aa4 I.ok.IJ I.sz,I.stack,I.Fb,I.yL,I.bare⟩
def Inv.after{Q:VK}{u:Value}(I:Inv X pins σ H s)(h:CE X.stack X.prog X.w H s Q u s'):EP X pins σ Q u s':=by
 obtain⟨v,H',os,bare,un,yL,r,q⟩:=h;obtain⟨hh,g,d,t,EK⟩:=s';obtain rfl:EK=s.os:=os;exact⟨v,H',I.call un yL bare (λb z=>absurd z (by simp)),r,q⟩
def Ln(sp:Sp)(KR:List V)(E:XK)(t:TA):TE:=λσ H Q=>t σ H λvs H1=>sp (vs++KR) H1 Q E
def Binds(K:aaf)(fd:abl)(ps:List Str)(ds:List Value):Prop :=
 ∀(s:Shared) (us:List Value),K.In s.heap->(us++ds).length=ps.length->BindsTo s fd ⟨us,[]⟩ (ps.zip (us++ds))
def Binds.all(h:∀us:List Value,us.length=ps.length->acA fd ⟨us,[]⟩=pure (ps.zip us)):Binds K fd ps []:=λs us _ hl=>by
 rw[abO]at hl ⊢;exact .of_eq (h us hl)
def DN(CX:KW)(X:Cx)(E:XK):Prop:=∀(pins:List (Addr×Obj)) (σ:St) (H:Hp) (s:Shared) (e:Value) (s':Shared),Inv X pins σ H s->CX X.stack H s E e s'->X.xe e s'
variable{f:Addr}{KR:List V}{ds:List Value}{E:XK}{x m:Str}{p apos:Pos}
variable{vs:List V}
def qY{Q:VK}(F:yG X.prog X.w X.K X.mg X.base CX k f fd ps sp)(hr:y9 k X.A)(hb:Binds X.K fd ps ds)(hd:yz KR ds)(hx:DN CX X E)
  (I:Inv X pins σ H s) (r:yz vs us) (h:sp (vs++KR) H Q E):wpAny (model X.prog X.w) X.A (call (.ref f) us) (EP X pins σ Q) X.xe s:=by
 have r2  := r.append hd;have hl:(us++ds).length=ps.length:=by rw[<- r2.length];exact F.len _ _ _ _ h
 refine wpAny_call (codeAny_mono (F.run X.A X.stack s H ⟨us,[]⟩ _ _ Q E hr I.Qe (hb s us I.C6 hl) r2 h) λr s' hq=>?_);cases r with
 |error e=>exact hx pins σ H s e s' I hq
 |ok fl=>
  cases fl with
  |ret u=>exact I.after hq
  |next=>exact ack hq
  |brk=>exact ack hq
  |cont=>exact ack hq
def iG(F:yG X.prog X.w X.K X.mg X.base CX k f fd ps sp)(hr:y9 k X.A)(hg:Gl X x)(hm:X.mg x=some (.ref f))(hk:abx X.K (.ref f)=true)(hb:Binds X.K fd ps ds)(hd:yz KR ds)(hx:DN CX X E)
  (ha:PA X (e::es) t) (BY:(x==("__debug__" : Str))=false:=by decide) (he:aag (e::es) X.env=(false,eval e X.env)::aag es X.env:=by rfl) (AQ:(backTo pos (aag es X.env)).any (·.1)=false:=by rfl) :
  PE X (.Call (.Name x p) (e::es) [] pos) (Ln sp KR E t):=by
 refine λpins s σ H Q I h=>abJ (lJ I hg hm ?_ BY);refine PySem.W.callWith_K I.ok.mod.kin hk (zk (ha pos pins s σ H _ I h) λus s1 ⟨vs,H1,I1,r,q⟩=>⟨I1.C6,?_⟩) he AQ;exact qY F hr hb hd hx I1 r q
def PK(X:Cx)(NA:List adr)(t:TA):Prop :=
 ∀(pos:Pos) (pins:List (Addr×Obj)) (s:Shared) (σ:St) (H:Hp) (Q:List V->Hp->Prop),Inv X pins σ H s->t σ H Q->wpAny (model X.prog X.w) X.A (evalAll ((backToKw pos (adA NA X.env)).map (·.2))) (AP X pins σ Q) X.xe s
variable{ks:List Str}{AN:Pos}{NA:List adr}{tk:TA}{nm:Option Str}
def nA:PK X [] Ht:=λ_ _ _ _ H Q I h=>wpAny_evalAll_nil ⟨[],H,I,.nil,h⟩
def fG(ha:PE X e te)(hr:PK X NA t):PK X (⟨nm,e,AN⟩::NA) (Ik te t):=by
 intro pos pins s σ H Q I h;refine wpAny_evalAll_cons (aab (zk (ha pins s σ H _ I h) λu s1 ⟨x,H1,I1,r1,q1⟩=>aab (ab4 (aal ?_))));exact zk (hr pos pins s1 σ H1 _ I1 q1) λus s2 ⟨xs,H2,I2,r2,q2⟩=>⟨_,H2,I2,.cons r1 r2,q2⟩
variable{g:List Value->List Value->List Value}{gV:List V->List V->List V}
structure av(N P:List Str)(sc:Scope):Prop where
 kind:sc.kind=.function
 co:sc.isCoroutine=false
 gen:sc.isGenerator=false
 nd:N.Nodup
 pre:N.take P.length=P
 par:∀x∈P,sc.names.lookup x=some .local\/sc.names.lookup x=some .cell
 EM:∀y∈sc.names,y.2≠.free
variable{kindOf:Str->Option acT}
def mK:∀{binds:List (Str×Value)} {m:Str->Option Value},(∀v,(x,v)∉binds)->bindL kindOf binds m x=m x
 |[],_,_=>rfl
 |(n,v)::r,m,h=>by
  unfold bindL;rw[mK λw hw=>h w (aaj _ hw)];split
  .have:x≠n:=by rintro rfl;exact h v aar
   simp[this]
  .rfl
def mM:∀{binds:List (Str×Value)} {m:Str->Option Value},(∀v,(x,v)∉binds)->bindC kindOf binds m x=m x
 |[],_,_=>rfl
 |(n,v)::r,m,h=>by
  unfold bindC;rw[mM λw hw=>h w (aaj _ hw)];split
  .rfl
  .have:x≠n:=by rintro rfl;exact h v aar
   simp[this]
def mL:∀{P:List Str} {vs:List Value} {i:Nat} {m:Str->Option Value},P.Nodup->P[i]?=some x->vs[i]?=some v->kindOf x=some .local ->
  bindL kindOf (P.zip vs) m x=some v
 |[],_,_,_,_,h,_,_=>by simp_all
 |_::_,[],_,_,_,_,h,_=>by simp_all
 |p::P,w::vs,0,m,nd,h1,h2,hk=>by
  simp at h1 h2;subst h1;subst h2;show bindL kindOf ((p,w)::P.zip vs) m p=_;unfold bindL;rw[mK λv hv=>(List.nodup_cons.mp nd).1 (acL hv).1,if_pos hk];simp
 |p::P,w::vs,i+1,m,nd,h1,h2,hk=>by
  unfold bindL;exact mL (i:=i) (List.nodup_cons.mp nd).2 (by simp_all) (by simp_all) hk
def mN:∀{P:List Str} {vs:List Value} {i:Nat} {m:Str->Option Value},P.Nodup->P[i]?=some x->vs[i]?=some v->kindOf x≠some .local ->
  bindC kindOf (P.zip vs) m x=some v
 |[],_,_,_,_,h,_,_=>by simp_all
 |_::_,[],_,_,_,_,h,_=>by simp_all
 |p::P,w::vs,0,m,nd,h1,h2,hk=>by
  simp at h1 h2;subst h1;subst h2;show bindC kindOf ((p,w)::P.zip vs) m p=_;unfold bindC;rw[mM λv hv=>(List.nodup_cons.mp nd).1 (acL hv).1,if_neg hk];simp
 |p::P,w::vs,i+1,m,nd,h1,h2,hk=>by
  unfold bindC;exact mN (i:=i) (List.nodup_cons.mp nd).2 (by simp_all) (by simp_all) hk
def start(N:List Str)(vs:List V):St:=vs.map some++aaC (N.length - vs.length) none
def CS(CX:KW)(P:aaA)(w:World)(K:aaf)(mg:Str->Option Value)(base:Heap)(N:List Str)(qual:Str)(scope:Scope)(f:Addr)(cd:Value)(A:Around)(outer:List Env)(s:Shared)(H:Hp)(E:XK):Cx where
 prog:=P
 w:=w
 K:=K
 mg:=mg
 base:=base
 A:=A.deeper (envOfC qual scope s.heap.objs.size f cd)
 N:=N
 s₀:=s
 H₀:=H
 env:=envOfC qual scope s.heap.objs.size f cd
 outer:=outer
 stack:=envOfC qual scope s.heap.objs.size f cd::outer
 ex:=[]
 calm:=true
 fn:=λ_=>true
 pn:=[]
 xe:=λe s'=>wpAny (model P w) (A.deeper (envOfC qual scope s.heap.objs.size f cd)) (leaving (envOfC qual scope s.heap.objs.size f cd) e) (λ_ Ls=>CX outer H s E e Ls) (λe' Ls=>CX outer H s E e' Ls) s'
def oG{sc:Scope}(h:sc.names.lookup x=some .cell):∃c,(cellsFrom n sc.names []).lookup x=some c:=by
 have q:=PySem.W.cellsFrom_some sc.names n [] (.inl h);exact Option.isSome_iff_exists.mp q
variable{qual:Str}{scope:Scope}
def r9{cd:Value}{outer:List Env}{s1:Shared}
  (S:av N ps scope) (hd:A.handled=none) (e0:Ig P w K mg base A outer s H) (hl:vs.length=ps.length) (r:yz vs us)
  (x:InCallC s s.heap.objs.size (bindL (envOfC qual scope s.heap.objs.size f cd).kindOf (ps.zip us) λ_=>none) (cellsFrom (s.heap.objs.size+1) scope.names []) (bindC (envOfC qual scope s.heap.objs.size f cd).kindOf (ps.zip us) λ_=>none) s1) :
  Inv (CS CX P w K mg base N qual scope f cd A outer s H E) [] (start N vs) H s1:=by
 have AQ  :=by have:=congrArg ada S.pre;rw[abe]at this;omega
 obtain⟨h1,tk,rfl,hk⟩:=x.done;have LR:∀b:Addr,b∉(CS CX P w K mg base N qual scope f cd A outer s H E).ex:=λb z=>absurd (show b∈[]from z) (by simp);refine⟨⟨e0.mod,S.kind,rfl,rfl,aak _,λy z c h1 h2=>?_,λy hy=>?_,λy c _ h=>?_,λ_=>hd,Around.frames_deeper e0.frames,.inr ⟨rfl,rfl⟩,λb z=>absurd z (LR b),e0.bs,e0.IJ,λb _ _=>LR b,λb z=>absurd z (LR b),e0.CJ,e0.KN⟩,
  rfl,e0.bare,Un.kept hk,⟨_,x.toInCall.ns,λi y v h1 h2 h3=>?_⟩,λy c h=>⟨_,x.cell y c h⟩,e0.yL.fresh (aak _),λy c h=>?_,λp hp=>absurd (show p∈[]from hp) (by simp),e0.yL.kept hk,?_⟩
 .exact name_of_addr x.apart (abC h1) (abC h2)
 .rcases hy with hy|hy
  .exact oG hy
  .exact absurd rfl (S.EM _ (abC hy))
 .exact ad6 (x.above y c (abC h))
 .have hi:i<vs.length:=by
   unfold start at h2;by_cases hi:i<vs.length
   .exact hi
   .rw[acP (by simp_all)]at h2;rw[List.getElem?_replicate]at h2;split at h2<;>cases h2
  have ha:vs[i]?=some v:=by
   unfold start at h2;rw[aat (by simp_all),aah]at h2;cases e:vs[i]? with
   |none=>rw[e]at h2;cases h2
   |some a=>rw[e]at h2;cases h2;rfl
  obtain⟨u,hu,rv⟩:=r.get ha;have hp:ps[i]?=some y:=by
   rw[<- S.pre,List.getElem?_take_of_lt (by omega)];exact h1
  have QU:ps.Nodup:=by rw[<- S.pre];exact S.nd.sublist (ad0 _ _)
  refine⟨u,rv,?_⟩;rcases S.par y (aa1 hp)with k|k
  .exact .inl ⟨k,mL QU hp hu k⟩
  .obtain⟨c,e⟩:=oG k;refine .inr ⟨.inl k,c,e,?_⟩;have q:=x.cell y c e;rw[mN QU hp hu (by show scope.names.lookup y≠_;rw[k];decide)]at q;exact q
 .exact e0.yL.fresh (ad6 (x.above y c (abC h)))
 .unfold start;show _=N.length;rw[aa3,aae,abL];omega
variable{pm:Value}
def uD{params:Arguments}{dV kV doc y6 ct oc:Value}{an od:Option Addr}
  {HC:Array (Option Value)} {N ps:List Str} {sp:Sp} (lk:K.lookup f=some ⟨oc,od,.func (acj name qual params body scope dV kV doc pm an y6 ct),HC⟩) (Cr:adz K y6 qual=true) (S:av N ps scope)
  (len:∀vs H Q E,sp vs H Q E->vs.length=ps.length)
  (Ea:∀(A:Around) (outer:List Env) (s:Shared) (H:Hp) (vs:List V) (Q:VK) (E:XK),y9 k (A.deeper (envOfC qual scope s.heap.objs.size f y6))->sp vs H Q E ->
   ∃t,E4 (CS CX P w K mg base N qual scope f y6 A outer s H E) body t/\t {nx:=λ_ H'=>Q .yB H',rt:=Q} (start N vs) H) :
  yG P w K mg base CX (k+1) f (acj name qual params body scope dV kV doc pm an y6 ct) ps sp:=by
 refine⟨len,λA outer s H args us vs Q E hr e0 hb r Ha=>?_⟩;have hl:=len _ _ _ _ Ha;have KX  := e0.mod.kin.keeps λb o e=>(e0.bs b o e).1;have lim  := e0.mod.nolimit.keeps λb o e=>(e0.bs b o e).1;have yY:∀y∈ps.zip us,scope.names.lookup y.1=some .local\/(scope.names.lookup y.1=some .cell/\((cellsFrom (s.heap.objs.size+1) scope.names []).lookup y.1).isSome=true):=λ⟨n,v⟩ hy=>by
  rcases S.par n (acL hy).1 with q|q
  .exact .inl q
  .exact .inr ⟨q,PySem.W.cellsFrom_some _ _ _ (.inl q)⟩
 refine codeAny_call_function hr.depth (KX _ _ lk) rfl S.co S.gen rfl (PySem.W.codeRec_of KX Cr) (hb _ _ _ _ ?_);refine wpAny_newFunctionEnv_cells S.kind yY λenv he s1 x=>?_;subst he;refine⟨lim.keeps x.toInCall.keep,codeAny_func ?_⟩;obtain⟨t,ht,hq⟩:=Ea A outer s H vs Q E (hr.deeper _) Ha;have I:Inv (CS CX P w K mg base N qual scope f y6 A outer s H E) [] _ H s1:=r9 S hr.hd e0 hl r x;refine aaK (ht [] s1 _ H _ I hq) (λfl s' hs=>?_) λe s' hs=>hs;have fin:∀{σ':St} {H':Hp} {v:V} {u:Value},Inv (CS CX P w K mg base N qual scope f y6 A outer s H E) [] σ' H' s'->RelV v u->Q v H'->CE outer P w H s Q u s' :=
  λ{σ' H' v u} J rv q=>⟨v,H',J.os,J.bare,J.base,J.yL,rv,q⟩
 cases fl with
 |ret u=>
  obtain⟨v,σ',H',J,rv,q⟩:=hs;exact fin J rv q
 |next=>
  obtain⟨σ',H',J,q⟩:=hs;exact fin (v:=V.yB) J rfl q
 |brk=>
  obtain⟨_,_,_,q⟩:=hs;exact ack q
 |cont=>
  obtain⟨_,_,_,q⟩:=hs;exact ack q
variable{id T:String}{r:List V->Hp->VK->Prop}
def OB(r:List V->Hp->VK->Prop)(t:TA):TE:=λσ H Q=>t σ H λvs H1=>r vs H1 Q
def cw(hc:za X (.builtin id) r)(hg:Gl X x)(hm:X.mg x=none)(hv:ab2 x=some (.builtin id))(ha:PA X (e::es) t)(hn:x ≠ "__name__" :=by decide)(BY:(x==("__debug__" : Str))=false:=by decide)
  (he:aag (e::es) X.env=(false,eval e X.env)::aag es X.env:=by rfl) (AQ:(backTo pos (aag es X.env)).any (·.1)=false:=by rfl):PE X (.Call (.Name x p) (e::es) [] pos) (OB r t):=by
 refine λpins s σ H Q I h=>abJ (er I hg hm hv ?_ hn BY);exact PyProof.Rows.callWith_builtin1 (zk (ha pos pins s σ H _ I h) λus s1 ⟨vs,H1,I1,r1,q1⟩=>hc pins s1 σ H1 vs us Q I1 r1 q1) he AQ
def rA(hc:za X (.type T) r)(hg:Gl X x)(hm:X.mg x=none)(hv:ab2 x=some (.type T))(ha:PA X (e::es) t)(hn:x ≠ "__name__" :=by decide)(BY:(x==("__debug__" : Str))=false:=by decide)
  (he:aag (e::es) X.env=(false,eval e X.env)::aag es X.env:=by rfl) (AQ:(backTo pos (aag es X.env)).any (·.1)=false:=by rfl):PE X (.Call (.Name x p) (e::es) [] pos) (OB r t):=by
 refine λpins s σ H Q I h=>abJ (er I hg hm hv ?_ hn BY);exact aep (zk (ha pos pins s σ H _ I h) λus s1 ⟨vs,H1,I1,r1,q1⟩=>hc pins s1 σ H1 vs us Q I1 r1 q1) he AQ
end L2
namespace HT
open PySem PyProof.Rows
section
open PySem.SeqAt
open PySem.AutoSeq1 (wpAny_loadPart')
open PySem.MeetsSeq PySem.MeetsSeq2 PySem.MeetsSeq3
end
variable{prog:aaA}{w:World}{A:Around}{E:Value->Shared->Prop}{s:Shared}
def HZ{t b:Addr}{vs ws:List Value}{Q:Value->Shared->Prop}(ht:IsTup s.heap t vs.toArray)(hb:IsTup s.heap b ws.toArray)(hv:vs≠[])
  (h1:ws=[]->Q (.ref t) s) (h2:ws≠[]->Q (.ref s.heap.objs.size) {s with heap:=s.heap.push {cls:=.type "tuple",data:=.seq (vs++ws).toArray}})
  (hsz:vs.length+ws.length<=sizeLine):wpAny (model prog w) A (abR .Add (.ref t) (.ref b)) Q E s:=by
 obtain⟨⟨cls,dd,data,sl⟩,ho,hc,n,hd⟩:=id ht;obtain⟨⟨MS,Hh,data2,G6⟩,Hb,IE,n2,hd2⟩:=id hb;subst hc hd IE hd2;have e:vs.toArray++ws.toArray=(vs++ws).toArray:=by simp
 by_cases hw:ws=[]
 .exact concat_meets ⟨_,ho,rfl⟩ ⟨_,Hb,rfl⟩ aeb seq_tuple_add ade ac9 (ac1 _ _)
   (tuple_addW1 t b vs.toArray ws.toArray n n2 dd Hh sl G6 (by simp_all) (by simp_all)) ⟨ho,Hb,h1 hw⟩
 .refine concat_meets ⟨_,ho,rfl⟩ ⟨_,Hb,rfl⟩ aeb seq_tuple_add ade ac9 (ac1 _ _)
   (tuple_addW2 t b vs.toArray ws.toArray n n2 dd Hh sl G6 (by simp_all) (by simp_all) (by simp_all)) ⟨ho,Hb,?_⟩
  rw[e];exact h2 hw
def Ae(n d:Nat):Option Int->Nat
 |none=>d
 |some v=>if v<0 then (v+(n:Int)).toNat else min v.toNat n
def CA(n d:Nat):Ae n d none=d:=rfl
def Du(n d k:Nat):Ae n d (some (k:Int))=min k n:=rfl
def pX(v:Int)(n d:Nat):(if v<0 then max (v+(n:Int)) 0 else min v (n:Int))=((Ae n d (some v):Nat):Int):=by
 show (if v<0 then max _ 0 else min v _)=((if v<0 then (v+(n:Int)).toNat else min v.toNat n):Nat)
 by_cases hv:v<0
 .simp only[if_pos hv];omega
 .simp only[if_neg hv];omega
def qI(lo hi:Option Int)(n:Nat):aeC lo hi 1 (n:Int)=(((Ae n 0 lo:Nat):Int),((Ae n n hi:Nat):Int)):=by
 have h1  :=by omega
 refine Prod.ext ?_ ?_
 .cases lo with
  |none=>rfl
  |some v=>exact pX v n 0
 .cases hi with
  |none=>rfl
  |some v=>exact pX v n n
theorem ql(i j:Nat):acZ (i:Int) (j:Int) 1=j - i:=by
 unfold acZ;have h1  :=by omega
 split<;>omega
def j0{v:Value}{o:Option Int}{Q:Option Int->Shared->Prop}(p:IsPart v o)(h:Q o s):wpAny (model prog w) A (Builtin.Slice.slicePartIndex v) Q E s:=by
 cases p with
 |none=>exact slicePart_none h
 |int i t=>exact slicePart_int h
def AG{sl:Addr}{vl vu:Value}{lo hi:Option Int}{n:Nat}{Q:Int×Int×Nat->Shared->Prop}(hs:s.heap.IsSliceOf sl vl vu .none)(pl:IsPart vl lo)(pu:IsPart vu hi)
  (h:Q (((Ae n 0 lo:Nat):Int),1,Ae n n hi - Ae n 0 lo) s):wpAny (model prog w) A (Builtin.Slice.sliceApplied (.ref sl) (pure (n:Int))) Q E s:=by
 obtain⟨os,Ms,JS,NJ⟩:=id hs;refine aab (aab (wpAny_field Ms NJ rfl (aab (wpAny_field Ms NJ rfl (aab (wpAny_field Ms NJ rfl (aal ?_)))))));refine aab (slicePart_none ?_);refine aab (j0 pl (aab (j0 pu (aab (aal ?_)))));show wpAny _ _ (match aeC lo hi 1 _ with|(lo,hi)=>pure (lo,(1:Int),acZ lo hi 1)) _ _ s;rw[qI lo hi n];show wpAny _ _ (pure _) _ _ s;rw[ql];exact aal h
def tt(xs:Array Value)(i k:Nat):((aaZ k).filterMap λ(m:Nat)=>xs[((i:Int)+(m:Int)*1).toNat]?).toArray=((xs.toList.drop i).take k).toArray:=by
 have e:(λ(m:Nat)=>xs[(i+(m:Int)*1).toNat]?)=λm=>xs[i+m]?:=by
  funext m;have:(i+(m:Int)*1).toNat=i+m:=by omega
  rw[this]
 rw[e];have:=pick_run xs i k;rw[acs]at this;have e2:((λx=>xs[x]?) ∘ λx=>i+x)=λm=>xs[i+m]?:=rfl;rw[e2]at this;rw[this]
def BC{t sl:Addr}{items:Array Value}{vl vu:Value}{lo hi:Option Int}{Q:Value->Shared->Prop}(ht:IsTup s.heap t items)(hs:s.heap.IsSliceOf sl vl vu .none)(pl:IsPart vl lo)(pu:IsPart vu hi)
  (hw:¬ (Ae items.size 0 lo=0/\Ae items.size items.size hi=items.size))
  (h:Q (.ref s.heap.objs.size) {s with heap:=s.heap.push {cls:=.type "tuple",data:=.seq ((items.toList.drop (Ae items.size 0 lo)).take (Ae items.size items.size hi - Ae items.size 0 lo)).toArray}})
  (hsz:items.size<=sizeLine):wpAny (model prog w) A (acV (.ref t) (.ref sl)) Q E s:=by
 have Mo  :=by
  show ((items.toList.drop (Ae items.size 0 lo)).take (Ae items.size items.size hi - Ae items.size 0 lo)).toArray.size<=sizeLine;rw[aam,abe,List.length_drop,abw];omega
 obtain⟨os,Ms,JS,NJ⟩:=id hs;have Tf:s.TypeIs (.ref sl) _:=⟨os,Ms,JS⟩
 unfold acV;try with_reducible refine aaM ?_
 refine aab (adO ht.typeIs (rfl) ?_);refine aab (ac5 ht.typeIs abN
  (abI abN ht.typeIs entry_tuple_getitem ?_ (args_tuple_getitem _ _)))
 show wpAny _ _ (aew _ >>= _) _ _ s;refine aab (tupleItemsOf_ ht ?_);refine aab (wpAny_typeOf Tf ?_);refine aab (AG hs pl pu ?_);have SH:¬ (((Ae items.size 0 lo:Int)==0 && (1:Int)==1 && (Ae items.size items.size hi - Ae items.size 0 lo)==items.size)=true):=by simp_all
 show wpAny _ _ (if ((Ae items.size 0 lo:Int)==0 && 1==1 && (Ae items.size items.size hi - Ae items.size 0 lo)==items.size)=true then _ else _) _ _ s;rw[if_neg SH,tt];first
  |exact aab (adQ (aal ⟨_,rfl,aal h⟩) Mo)
  |exact aab _
  |exact aab _
  |exact aab _
end HT
namespace L2
open PySem PySem.Spec PyProof.Rows
abbrev TO:=St->Hp->(Option Int->Hp->Prop)->Prop
def PO(X:Cx)(e:Option Expr)(t:TO):Prop :=
 ∀(pins:List (Addr×Obj)) (s:Shared) (σ:St) (H:Hp) (Q:Option Int->Hp->Prop),Inv X pins σ H s->t σ H Q ->
  wpAny (model X.prog X.w) X.A (evalPart e X.env) (λu s'=>∃o H',Inv X pins σ H' s'/\IsPart u o/\Q o H') X.xe s
def uO:TO:=λ_ H Q=>Q none H
def Lf(t:TE):TO:=λσ H Q=>t σ H λx H1=>∃i,x=.int i/\Q (some i) H1
variable{X:Cx}{e:Expr}{te:TE}{lo hi:Option Expr}{tl th:TO}{pos p2:Pos}
def lu:PO X none uO:=by
 intro pins s σ H Q I h;exact aal ⟨none,H,I,.none,h⟩
def ls(h:PE X e te):PO X (some e) (Lf te):=by
 intro pins s σ H Q I hw;refine zk (h pins s σ H _ I hw) λu s1 ⟨x,H1,I1,r1,q1⟩=>?_;obtain⟨i,rfl,q⟩:=q1;obtain⟨t,rfl⟩:=r1;exact⟨some i,H1,I1,.int i t,q⟩
def H0(X:Cx)(r:V->Option Int->Option Int->Hp->VK->Prop):Prop :=
 ∀(pins:List (Addr×Obj)) (s:Shared) (σ:St) (H:Hp) (x:V) (v vl vu:Value) (lo hi:Option Int) (sl:Addr) (Q:VK),Inv X pins σ H s->RelV x v->s.heap.IsSliceOf sl vl vu .none->IsPart vl lo->IsPart vu hi->r x lo hi H Q ->
  ∃T id,typeLookup (.type T) "__getitem__" = pure (some (.builtin id))/\s.TypeIs v T/\wpAny (model X.prog X.w) X.A (acV v (.ref sl)) (EP X pins σ Q) X.xe s
def H0.or{r r':V->Option Int->Option Int->Hp->VK->Prop}(h:H0 X r)(h':H0 X r'):H0 X (λx lo hi H Q=>r x lo hi H Q\/r' x lo hi H Q):=by
 intro pins s σ H x v vl vu lo hi sl Q I rx hs pl pu q;rcases q with q|q
 .exact h pins s σ H x v vl vu lo hi sl Q I rx hs pl pu q
 .exact h' pins s σ H x v vl vu lo hi sl Q I rx hs pl pu q
def RX(r:V->Option Int->Option Int->Hp->VK->Prop)(te:TE)(tl th:TO):TE:=λσ H Q=>te σ H λx H1=>tl σ H1 λl H2=>th σ H2 λu H3=>r x l u H3 Q
def jJ{r:V->Option Int->Option Int->Hp->VK->Prop}(hr:H0 X r)(he:PE X e te)(hl:PO X lo tl)(hu:PO X hi th):PE X (.Subscript e (.Slice lo hi none p2) pos) (RX r te tl th):=by
 intro pins s σ H Q I h;refine Subscript_ (zk (he pins s σ H _ I h) λv s1 ⟨x,H1,I1,r1,q1⟩=>?_);refine wpAny_Slice (zk (hl pins s1 σ H1 _ I1 q1) λvl s2 ⟨l,H2,I2,pl,q2⟩=>zk (hu pins s2 σ H2 _ I2 q2) λvu s3 ⟨u,H3,I3,pu,q3⟩=>?_);rw[evalPart_none];refine aal ?_;have I4:Inv X pins σ H3 {s3 with heap:=s3.heap.push {cls:=.type "slice",data:=.fields #[vl,vu,.none]}}:=I3.kept (t':=s3.toks) λb ob q=>aad _ q;obtain⟨T,id,hT,ht,hg⟩:=hr pins {s3 with heap:=s3.heap.push {cls:=.type "slice",data:=.fields #[vl,vu,.none]}} σ H3 x v vl vu l u s3.heap.objs.size Q I4 r1 (Heap.IsSliceOf.new ..) pl pu q3;show wpAny (model X.prog X.w) X.A (subscriptTail e (.Slice lo hi none p2) v (.ref s3.heap.objs.size)) (EP X pins σ Q) X.xe {s3 with heap:=s3.heap.push {cls:=.type "slice",data:=.fields #[vl,vu,.none]}};exact tail_any (ops:=[.ref s3.heap.objs.size,v]) ht hT hg (by with_unfolding_all rfl)
def CT(xs:List V)(lo hi:Option Int):List V:=(xs.drop (HT.Ae xs.length 0 lo)).take (HT.Ae xs.length xs.length hi - HT.Ae xs.length 0 lo)
def jq(xs:List V)(lo hi:Option Int):(CT xs lo hi).length<=xs.length:=by
 unfold CT;rw[abe,List.length_drop];omega
def ON(K:aaf):V->Option Int->Option Int->Hp->VK->Prop:=λx lo hi H Q=>∃a xs,x=.ref a/\AF K H a xs /\
 ¬ (HT.Ae xs.length 0 lo=0/\HT.Ae xs.length xs.length hi=xs.length)/\∀p,H p=none->Q (.ref p) (upd H p (.tup (CT xs lo hi)))
def wM:H0 X (ON X.K):=by
 intro pins s σ H x v vl vu lo hi sl Q I rx hs pl pu h;obtain⟨a,xs,rfl,hx,hw,q⟩:=h;cases rx;obtain⟨nE,r,ht,hz⟩:=I.tuple hx;have hlen:nE.toArray.size=xs.length:=by exact r.length.symm
 refine⟨_,_,PyProof.Rows.slot_tuple_getitem.lookup,ht.typeIs,?_⟩;refine HT.BC ht hs pl pu (by simp_all) ?_ (by simp_all);rw[hlen];refine⟨.ref s.heap.objs.size,_,I.laid (λb ob q=>aad _ q) (aak _) ?_,rfl,q _ (I.yL.fresh (aak _))⟩;exact⟨aa4 (jq xs lo hi) hz,_,(r.drop _).take _,IsTup.new _ _⟩
def LI(K:aaf):R2:=λx y H Q=>∃a b xs ys,x=.ref a/\y=.ref b/\AF K H a xs/\AF K H b ys/\xs≠[]/\xs.length+ys.length<=sizeLine /\
 (ys=[]->Q (.ref a) H)/\(ys≠[]->∀p,H p=none->Q (.ref p) (upd H p (.tup (xs++ys))))
variable{xs:List V}{us:List Value}
def yz.Dx(r:yz xs us):us=[]↔xs=[]:=by
 cases r with
 |nil=>simp
 |cons _ _=>simp
def vn:zC X (abR .Add) (LI X.K):=by
 intro pins s σ H x y v u Q I rx ry h;obtain⟨a,b,xs,ys,rfl,rfl,ha,hb,hx,hz,q1,q2⟩:=h;cases rx;cases ry;obtain⟨nE,r1,p1,_⟩:=I.tuple ha;obtain⟨Aa,r2,p2,_⟩:=I.tuple hb;refine HT.HZ p1 p2 (λz=>hx (r1.Dx.mp z)) (λz=>⟨.ref a,H,I,rfl,q1 (r2.Dx.mp z)⟩) (λz=>?_) (by rw[<- r1.length,<- r2.length];exact hz);refine⟨.ref s.heap.objs.size,_,I.laid (t':=s.toks) (o:=.tup (xs++ys)) (λb ob q=>aad _ q) (aak _) ?_,rfl,q2 (λw=>z (r2.Dx.mpr w)) _ (I.yL.fresh (aak _))⟩;exact⟨by rw[aa3];exact hz,_,r1.append r2,IsTup.new _ _⟩
def G9(n:Nat)(i:Int):Option Nat:=if 0<=i then (if i<n then some i.toNat else none)else if -(n:Int)<=i then some (i+n).toNat else none
variable{α:Type}
def E2(xs:List α)(i:Int):Option α:=(G9 xs.length i).bind λj=>xs[j]?
variable{n j:Nat}{i:Int}
theorem pN(h:G9 n i=some j):seqIndex? i n=some j/\j<n /\ -(n:Int)<=i/\i<n:=by
 unfold G9 at h;by_cases h0:0<=i
 .rw[if_pos h0]at h;by_cases h1:i<n
  .rw[if_pos h1]at h;have e  := aaq h;exact⟨by rw[seqIndex_of h0 h1,e],by omega,by omega,h1⟩
  .rw[if_neg h1]at h;cases h
 .rw[if_neg h0]at h;by_cases h1 : -n<=i
  .rw[if_pos h1]at h;have e  := aaq h;exact⟨by rw[seqIndex_neg (by omega) h1,e],by omega,h1,by omega⟩
  .rw[if_neg h1]at h;cases h
theorem lV{xs:List α}{v:α}(h:E2 xs i=some v):∃j,seqIndex? i xs.length=some j/\xs[j]?=some v/\j<xs.length /\ -(xs.length:Int)<=i/\i<xs.length:=by
 unfold E2 at h;cases e:G9 xs.length i with
 |none=>rw[e]at h;cases h
 |some j=>
  rw[e]at h;obtain⟨h1,h2,h3,h4⟩:=pN e;exact⟨j,h1,h,h2,h3,h4⟩
theorem ao{xs:List α}{v:α}(h:xs[j]?=some v):E2 xs (j:Int)=some v:=by
 have hj  := (List.getElem?_eq_some_iff.mp h).1;have e:G9 xs.length j=some j:=by
  unfold G9;rw[if_pos (by omega),if_pos (by omega)];simp
 unfold E2;rw[e];exact h
def ga(b:Expr):Prop:=∀o i,aeh b false o i=operate [o,i] (acV o i)
def G2(X:Cx)(r:R2):Prop :=
 ∀(value slice:Expr) (pins:List (Addr×Obj)) (s:Shared) (σ:St) (H:Hp) (x y:V) (v u:Value) (Q:VK),Inv X pins σ H s->RelV x v->RelV y u->r x y H Q ->
  aeh slice false v u=operate [v,u] (acV v u)->wpAny (model X.prog X.w) X.A (subscriptTail value slice v u) (EP X pins σ Q) X.xe s
def NV(X:Cx)(id:String)(r:V->List V->Hp->VK->Prop):Prop :=
 ∀(pins:List (Addr×Obj)) (s:Shared) (σ:St) (H:Hp) (x:V) (xs:List V) (v:Value) (us:List Value) (Q:VK),Inv X pins σ H s->RelV x v->yz xs us->r x xs H Q ->
  wpAny (model X.prog X.w) X.A (call (.builtin id) (v::us)) (EP X pins σ Q) X.xe s
variable{a b:Expr}{ta tb:TE}
variable{r r':R2}
def G2.or(h:G2 X r)(h':G2 X r'):G2 X (λx y H Q=>r x y H Q\/r' x y H Q):=by
 intro value slice pins s σ H x y v u Q I rx ry q hs;rcases q with q|q
 .exact h value slice pins s σ H x y v u Q I rx ry q hs
 .exact h' value slice pins s σ H x y v u Q I rx ry q hs
def bI(hr:G2 X r)(ha:PE X a ta)(hb:PE X b tb)(hs:ga b):PE X (.Subscript a b pos) (Cn r ta tb):=by
 exact λpins s σ H Q I h=>Subscript_ (Kg ha hb I h λv u s2 x y H2 I2 rx ry q=>hr a b pins s2 σ H2 x y v u Q I2 rx ry q (hs _ _))
def CD(K:aaf):R2:=λx y H Q=>∃p xs i v,x=.ref p/\y=.int i/\Ar K H p xs/\E2 xs i=some v/\Q v H
def LA(K:aaf):R2:=λx y H Q=>∃p xs i v,x=.ref p/\y=.int i/\AF K H p xs/\E2 xs i=some v/\Q v H
def LB:R2:=λx y H Q=>∃z i c,x=.str z/\y=.int i/\z.length<=sizeLine/\E2 z.cps.toList i=some c/\Q (.str ⟨#[c]⟩) H
theorem zq:G2 X (CD X.K):=by
 intro value slice pins s σ H x y v u Q I rx ry h hs;obtain⟨p,xs,i,z,rfl,rfl,hq,he,q⟩:=h;cases rx;obtain⟨t,rfl⟩:=ry;obtain⟨nE,r,pl,hz⟩:=I.list hq;obtain⟨j,h1,h2,h3,h4,h5⟩:=lV he;obtain⟨w,ew,Cv⟩:=r.get h2;have hl:=r.length;have hn:=Bo;have fin:EP X pins σ Q w s:=⟨z,H,I,Cv,q⟩
 by_cases h0:0<=i
 .have hj  :=by
   rw[seqIndex_of h0 h5]at h1;exact aaq h1
  exact item_listR pl.isList h0 (by omega) (by simp_all) fin hs
 .have hj:(i+nE.toArray.size).toNat=j:=by
   rw[seqIndex_neg (by omega) h4]at h1;rw[aam,<- hl];exact aaq h1
  exact subscriptTail_builtinR pl.isList.typeIs slot_list_getitem.lookup
   (wpAny_getItem_list_neg pl.isList (by omega) (by simp_all) (by omega) (by simp_all) ⟨rfl,fin⟩) hs
theorem Jz:G2 X (LA X.K):=by
 intro value slice pins s σ H x y v u Q I rx ry h hs;obtain⟨p,xs,i,z,rfl,rfl,hq,he,q⟩:=h;cases rx;obtain⟨t,rfl⟩:=ry;obtain⟨nE,r,pl,hz⟩:=I.tuple hq;obtain⟨j,h1,h2,h3,h4,h5⟩:=lV he;obtain⟨w,ew,Cv⟩:=r.get h2;have hl:=r.length;have hn:=Bo;have fin:EP X pins σ Q w s:=⟨z,H,I,Cv,q⟩
 exact subscriptTail_builtinR pl.typeIs slot_tuple_getitem.lookup
  (getItem_tuple (j:=j) pl (by omega) (by omega) (by simp_all) (by simp_all) ⟨rfl,fin⟩) hs
theorem xG:G2 X LB:=by
 intro value slice pins s σ H x y v u Q I rx ry h hs;obtain⟨z,i,c,rfl,rfl,hz,he,q⟩:=h;obtain⟨t,rfl⟩:=rx;obtain⟨t',rfl⟩:=ry;obtain⟨j,h1,h2,h3,h4,h5⟩:=lV he;have hl:z.cps.toList.length=z.length:=rfl;have hn:=Bo;exact tail_any (typeIs_str s z t) slot_str_getitem.lookup (getItem_str (by
  have e1:decide (i < -2 ^ 63)=false:=decide_eq_false (by omega);have e2:decide (i ≥ 2 ^ 63)=false:=decide_eq_false (by omega);rw[e1,e2,Bool.or_false]) (by simp_all) ⟨.str _,H,I.tok _,⟨_,rfl⟩,q⟩) hs
def QN(K:aaf):R2:=λx y H Q=>CD K x y H Q\/LA K x y H Q\/LB x y H Q
def JA:G2 X (QN X.K):=zq.or (Jz.or xG)
theorem qv(nE:List Value)(n j:Nat)(u:Value):abz (·.setIfInBounds j u) {cls:=.type "list",data:=.seq nE.toArray n}={cls:=.type "list",data:=.seq (nE.set j u).toArray n}:=by
 simp[abz]
variable{pins:List (Addr×Obj)}{σ:St}{H:Hp}{s:Shared}
def Inv.lst{p:Addr}(I:Inv X pins σ H s)(h:H p=some (.lst xs)):
  ∃(nE:List Value) (n:Nat),yz xs nE/\s.heap.get? p=some {cls:=.type "list",data:=.seq nE.toArray n}/\xs.length<=sizeLine:=by
 obtain⟨z,nE,n,r,e⟩:=I.yL p _ h;exact⟨nE,n,r,e,z⟩
variable{nE:List Value}
def Inv.Jx{p:Addr}{ys:List V}{Cp:List Value}{n':Nat}{f:Obj->Obj}(I:Inv X pins σ H s)(h:H p=some (.lst xs))
  (ho:s.heap.get? p=some {cls:=.type "list",data:=.seq nE.toArray n}) (hf:f {cls:=.type "list",data:=.seq nE.toArray n}={cls:=.type "list",data:=.seq Cp.toArray n'}) (r:yz ys Cp) (hz:ys.length<=sizeLine) (t:Nat) :
  Inv X pins σ (upd H p (.lst ys)) {s with heap:=s.heap.update p f,toks:=t}:=by
 have e:(s.heap.update p f).get? p=some {cls:=.type "list",data:=.seq Cp.toArray n'}:=by
  rw[Heap.get?_update_self f ho (by rw[hf]<;>rfl),hf]
 refine I.write (by rw[h];trivial) (.inl rfl) (λb u hb q=>(Heap.get?_update_other _ _ (abm hb)).trans q) ⟨_,e⟩ ?_;exact⟨hz,Cp,n',r,e⟩
def Fe:V->V->V->Hp->(Hp->Prop)->Prop:=λo i v H Q=>∃p xs k j,o=.ref p/\i=.int k/\H p=some (.lst xs)/\G9 xs.length k=some j/\Q (upd H p (.lst (xs.set j v)))
theorem jB:Eh X Fe:=by
 intro pins s σ H o i v ov iv u Q I ro ri rv h;obtain⟨p,xs,k,j,rfl,rfl,hp,hj,q⟩:=h;cases ro;obtain⟨t,rfl⟩:=ri;obtain⟨nE,n,r,ho,hz⟩:=I.lst hp;obtain⟨h1,h2,h3,h4⟩:=pN hj;have hl:=r.length;have hn:=Bo;have I'  :=
  I.Jx hp ho (qv nE n j u) (r.set rv j) (by simp_all) s.toks
 by_cases h0:0<=k
 .have hk  :=by
   rw[seqIndex_of h0 h4]at h1;exact aaq h1
  exact PySem.W.ki_setAt ho h0 (by omega) (by simp_all) (by rw[hk];exact⟨_,I',q⟩)
 .have hk:(k+nE.toArray.size).toNat=j:=by
   rw[seqIndex_neg (by omega) h3]at h1;rw[aam,<- hl];exact aaq h1
  exact PySem.W.ki_setBack ho (by omega) (by simp_all) (by omega) (by rw[hk];exact⟨_,I',q⟩)
def m7(lo hi:Option Int)(n:Nat):(acK lo hi none n).1=((HT.Ae n 0 lo:Nat):Int)/\(acK lo hi none n).2.1=((HT.Ae n n hi:Nat):Int)/\(acK lo hi none n).2.2=1:=by
 refine⟨?_,?_,rfl⟩
 .cases lo with
  |none=>simp[acK,HT.Ae]
  |some i=>
   simp only[acK,HT.Ae,Option.getD_none,if_true];by_cases h:i<0
   .simp only[h,if_true]<;>omega
   .simp only[h,if_false]<;>omega
 .cases hi with
  |none=>simp[acK,HT.Ae]
  |some i=>
   simp only[acK,HT.Ae,Option.getD_none,if_true];by_cases h:i<0
   .simp only[h,if_true]<;>omega
   .simp only[h,if_false]<;>omega
def mO(nE:List Value)(lo hi:Option Int):slicePick nE.toArray lo hi none=((nE.drop (HT.Ae nE.length 0 lo)).take (HT.Ae nE.length nE.length hi - HT.Ae nE.length 0 lo)).toArray:=by
 obtain⟨h1,h2,h3⟩:=m7 lo hi nE.toArray.size;unfold slicePick;rw[h1,h2,h3];simp only[sliceRange_one,pick_run]<;>rfl
def OO(K:aaf):V->Option Int->Option Int->Hp->VK->Prop:=λx lo hi H Q=>∃a xs,x=.ref a/\Ar K H a xs/\∀p,H p=none->Q (.ref p) (upd H p (.lst (CT xs lo hi)))
def kU:H0 X (OO X.K):=by
 intro pins s σ H x v vl vu lo hi sl Q I rx hs pl pu h;obtain⟨a,xs,rfl,hx,q⟩:=h;cases rx;obtain⟨nE,r,ht,hz⟩:=I.list hx;have hlen:=r.length;refine⟨_,_,slot_list_getitem.lookup,ht.isList.typeIs,?_⟩;refine wpAny_getItem_list_slice ht.isList hs pl pu .none (by simp) ?_ (by simp_all);rw[mO,<- hlen];refine⟨.ref s.heap.objs.size,_,I.laid (λb ob q=>aad _ q) (aak _) ?_,rfl,q _ (I.yL.fresh (aak _))⟩;exact⟨aa4 (jq xs lo hi) hz,_,0,(r.drop _).take _,aan _ rfl⟩
theorem nN:zC X (aaL .NotIn) (λx y H Q=>∃i j,x=.str i/\y=.str j/\Q (.bl (!(!(act j i 0 j.length 1).isEmpty))) H):=by
 intro pins s σ H x y v u Q I rx ry h;obtain⟨i,j,rfl,rfl,q⟩:=h;obtain⟨t,rfl⟩:=rx;obtain⟨t',rfl⟩:=ry;exact notIn_str ⟨.bl _,H,I,rfl,q⟩
def ir:za X (.builtin "len") (λxs H Q=>∃p ys,xs=[.ref p]/\(Ar X.K H p ys\/AF X.K H p ys)/\Q (.int ys.length) H):=by
 intro pins s σ H xs us Q I r h;obtain⟨p,ys,rfl,hq,q⟩:=h;obtain⟨u,rfl,rx⟩:=vals1 r;cases rx;have hn:=Bo;rcases hq with hq|hq
 .obtain⟨nE,r',pl,hz⟩:=I.list hq;have hlen:=r'.length;exact Calls.call_len_list pl.isList (by simp only[aam]<;>omega) ⟨.int ys.length,H,I.tok _,⟨s.toks+1,by simp_all⟩,q⟩
 .obtain⟨nE,r',pl,hz⟩:=I.tuple hq;have hlen:=r'.length;exact len_tuple pl (by simp only[aam]<;>omega) ⟨.int ys.length,H,I.tok _,⟨s.toks+1,by simp_all⟩,q⟩
def oJ:za X (.builtin "len") (λxs H Q=>∃z,xs=[.str z]/\z.length<=sizeLine/\Q (.int z.length) H):=by
 intro pins s σ H xs us Q I r h;obtain⟨z,rfl,hz,q⟩:=h;obtain⟨u,rfl,t,rfl⟩:=vals1 r;have hn:=Bo;exact len_str (by omega) ⟨.int z.length,H,I.tok _,⟨_,rfl⟩,q⟩
variable{f:Value}
def za.or{r r':List V->Hp->VK->Prop}(h:za X f r)(h':za X f r'):za X f (λxs H Q=>r xs H Q\/r' xs H Q):=by
 intro pins s σ H xs us Q I rs q;rcases q with q|q
 .exact h pins s σ H xs us Q I rs q
 .exact h' pins s σ H xs us Q I rs q
def mW:za X (.type "tuple") (λxs H Q=>∃p ys,xs=[.ref p]/\((Ar X.K H p ys/\∀l,H l=none->Q (.ref l) (upd H l (.tup ys)))\/(AF X.K H p ys/\Q (.ref p) H))):=by
 intro pins s σ H xs us Q I r h;obtain⟨p,ys,rfl,h⟩:=h;obtain⟨u,rfl,rx⟩:=vals1 r;cases rx;rcases h with ⟨hq,q⟩|⟨hq,q⟩
 .obtain⟨nE,r',pl,hz⟩:=I.list hq;have hlen:=r'.length;refine call_tuple_list pl.isList (λh' kp=>?_) (by simp_all);have I1  := I.kept (t':=s.toks) kp;have I2  :=
   I1.laid (t':=s.toks) (λb o e=>aad _ e) (aak _) (show zr X.prog X.w _ _ _ (.tup ys)from ⟨hz,nE,r',IsTup.new _ _⟩)
  exact⟨.ref h'.objs.size,_,I2,rfl,q _ (I1.yL.fresh (aak _))⟩
 .obtain⟨nE,r',pl,hz⟩:=I.tuple hq;exact call_tuple_same pl ⟨.ref p,H,I,rfl,q⟩
def Om(K:aaf)(T:String)(x:V)(H:Hp):Prop:=match x with
 |.str _=>T = "str"
 |.int _=>T = "int"
 |.ref p=>(T = "list" /\ ∃xs,Ar K H p xs)\/(T = "tuple" /\ ∃o,K.lookup p=some o/\o.cls=.type "tuple" /\ o.dict=none) \/
   (T = "dict" /\ ((∃gE,H p=some (.dK gE))\/∃gE,H p=some (.dT gE)))\/(T = "set" /\ ∃S n,H p=some (.set S n))
 |_=>False
variable{x:V}{v:Value}
def qN{T:String}(I:Inv X pins σ H s)(r:RelV x v)(ty:Om X.K T x H):
  s.TypeIs v T/\∀a,v=.ref a->∃ob,s.heap.get? a=some ob/\ob.dict=none:=by
 cases x with
 |str z=>
  obtain⟨t,rfl⟩:=r;cases (ty);exact⟨typeIs_str s z t,λ_ e=>nomatch e⟩
 |int i=>
  obtain⟨t,rfl⟩:=r;cases (ty);exact⟨typeIs_int s i t,λ_ e=>nomatch e⟩
 |ref p=>
  cases r;rcases ty with ⟨rfl,xs,hq⟩|⟨rfl,o,hk,hc,hd⟩|⟨rfl,hk⟩|⟨rfl,S,n,hk⟩
  .obtain⟨nE,_,pl,_⟩:=I.list hq;refine⟨pl.isList.typeIs,λa e=>?_⟩;cases e;obtain⟨o,n,e,c,hd,_⟩:=pl;exact⟨o,e,hd⟩
  .refine⟨⟨o,I.C6 p o hk,hc⟩,λa e=>?_⟩;cases e;exact⟨o,I.C6 _ o hk,hd⟩
  .have z:∃o,s.heap.get? p=some o/\o.ExactDict:=by
    rcases hk with ⟨gE,hk⟩|⟨gE,hk⟩
    .obtain⟨_,_,_,_,o,_,_,e,ex,_⟩:=I.yL p _ hk;exact⟨o,e,ex⟩
    .obtain⟨_,_,_,_,o,_,_,e,ex,_⟩:=I.yL p _ hk;exact⟨o,e,ex⟩
   obtain⟨o,e,ex⟩:=z;refine⟨⟨o,e,ex.1⟩,λa e2=>?_⟩;cases e2;exact⟨o,e,ex.2.1⟩
  .obtain⟨o,_,_,_,e,ex,_⟩:=I.yL p _ hk;refine⟨⟨o,e,ex.1⟩,λa e2=>?_⟩;cases e2;exact⟨o,e,ex.2.1⟩
 |_=>exact ack ty
def OC(K:aaf)(T:String)(r:V->List V->Hp->VK->Prop)(to:TE):TE:=λσ H Q=>to σ H λx H1=>Om K T x H1/\r x [] H1 Q
def QF(K:aaf)(T:String)(r:V->List V->Hp->VK->Prop)(to:TE)(t:TA):TE:=λσ H Q=>to σ H λx H1=>Om K T x H1/\t σ H1 λxs H2=>r x xs H2 Q
variable{o:Expr}{es:List Expr}{to:TE}{t:TA}{name:Str}{apos zE:Pos}{T id:String}{r:V->List V->Hp->VK->Prop}
def w4(pa:PlainAttrs T)(slot:Slot T name id)(JF:typeOf (.builtin id)=pure (.type "method_descriptor"))(hm:NV X id r)(ho:PE X o to)
  (Ao:ab8 o name X.env (eval o X.env)=eval o X.env:=by rfl) (Am:(apos.endLine==zE.line)=true:=by rfl):PE X (.Call (.Attribute o name apos) [] [] zE) (OC X.K T r to):=by
 refine λpins s σ H Q I h=>wpAny_Call_method0_late Ao Am (zk (ho pins s σ H _ I h) λv s1 ⟨x,H1,I1,r1,ty,q1⟩=>?_);obtain⟨h1,h2⟩:=qN I1 r1 ty;exact⟨T,id,pa,slot,JF,h1,h2,adg rfl (PySem.evalArgs_none (hm pins s1 σ H1 x [] v [] Q I1 r1 .nil q1))⟩
def qm(pa:PlainAttrs T)(slot:Slot T name id)(JF:typeOf (.builtin id)=pure (.type "method_descriptor"))(hm:NV X id r)(ho:PE X o to)(ha:PA X (e::es) t)
  (Ao:ab8 o name X.env (eval o X.env)=eval o X.env:=by rfl)
  (ES:((backTo zE (aag (e::es) X.env)).all (λx=>!x.1) && (backToKw zE (adA [] X.env)).all (λx=>x.1.isSome)
   && decide ((e::es).length+([]:List adr).length+(if ([]:List adr).isEmpty then 0 else 1)<30))=true:=by rfl)
  (Am:(apos.endLine==zE.line)=true:=by rfl) (hs:aag (e::es) X.env=(false,eval e X.env)::aag es X.env:=by rfl) (BX:(backTo zE (aag es X.env)).any (·.1)=false:=by rfl) :
  PE X (.Call (.Attribute o name apos) (e::es) [] zE) (QF X.K T r to t):=by
 refine λpins s σ H Q I h=>wpAny_Call_method_late Ao ES Am rfl (zk (ho pins s σ H _ I h) λv s1 ⟨x,H1,I1,r1,ty,q1⟩=>?_);obtain⟨h1,h2⟩:=qN I1 r1 ty;refine⟨T,id,pa,slot,JF,h1,h2,?_⟩;have hA:=ha zE pins s1 σ H1 _ I1 q1;rw[hs]at hA ⊢;refine adg (by simp_all) (Calls.evalArgs_plain ?_);exact zk hA λus s2 ⟨vs,H2,I2,r2,q2⟩=>hm pins s2 σ H2 x vs v us Q I2 r1 r2 q2

def Qn(X:Cx)(id:String)(r:V->List V->Hp->VK->Prop):Prop :=
 ∀(pins:List (Addr×Obj)) (s:Shared) (σ:St) (H:Hp) (x:V) (xs:List V) (v:Value) (us:List Value) (Q:VK),Inv X pins σ H s->RelV x v->yz xs us->r x xs H Q ->
  wpAny (model X.prog X.w) X.A (call (.builtin id) (v::us)) (EP X pins σ Q) X.xe s
def yz.one:∀{x:V} {us:List Value},yz [x] us->∃u,us=[u]/\RelV x u
 |_,_,.cons r .nil=>⟨_,rfl,r⟩
def yz.two:∀{x y:V} {us:List Value},yz [x,y] us->∃u v,us=[u,v]/\RelV x u/\RelV y v
 |_,_,_,.cons r (.cons q .nil)=>⟨_,_,rfl,r,q⟩
def yz.zero:∀{us:List Value},yz [] us->us=[]
 |_,.nil=>rfl
def yz.dropLast(h:yz xs us):yz xs.dropLast us.dropLast:=by
 induction h with
 |nil=>exact .nil
 |cons r t ih=>
  cases t with
  |nil=>exact .nil
  |cons q t'=>exact .cons r ih
def yz.eraseIdx:∀{xs:List V} {us:List Value} (i:Nat),yz xs us->yz (xs.eraseIdx i) (us.eraseIdx i)
 |_,_,_,.nil=>.nil
 |_,_,0,.cons _ t=>t
 |_,_,i+1,.cons r t=>.cons r (yz.eraseIdx i t)
def yz.rep(h:yz xs us):∀k:Nat,yz (aaC k xs).flatten (aaC k us).flatten
 |0=>.nil
 |k+1=>by
  exact yz.append h (yz.rep h k)
def qD(l:List α):l.eraseIdx (l.length - 1)=l.dropLast:=by
 induction l with
 |nil=>rfl
 |cons a r ih=>
  cases r with
  |nil=>rfl
  |cons b r=>
   have e:(a::b::r).length - 1=((b::r).length - 1)+1:=by
    have h1:(a::b::r).length=r.length+2:=rfl;have h2:(b::r).length=r.length+1:=rfl;omega
   rw[e,List.eraseIdx_cons_succ,ih];all_goals rfl
def mt:∀(l:List α) (i:Nat),(l.eraseIdx i).length<=l.length
 |[],_=>aak _
 |_::_,0=>Nat.le_succ _
 |_::r,i+1=>Nat.succ_le_succ (mt r i)
def mB(nE:List Value):∀(k:Nat) (acc:List Value),
  List.foldl (λx1 x2=>x1++x2) acc.toArray (aaC k nE.toArray)=(acc++(aaC k nE).flatten).toArray
 |0,acc=>by simp
 |k+1,acc=>by
  have e:acc.toArray++nE.toArray=(acc++nE).toArray:=by simp
  have e2:(acc++nE)++(aaC k nE).flatten=acc++(aaC (k+1) nE).flatten:=by
   rw[abD,List.flatten_cons,ad3]
  rw[<- e2,<- mB nE k _,<- e,abD,List.foldl_cons]
variable{l b:Addr}{ys zs:List V}
variable{t':Nat}
def Inv.Jy{Cp:List Value}{f:Array Value->Array Value}(I:Inv X pins σ H s)(hH:H l=some (.lst xs))
  (e:s.heap.get? l=some {cls:=.type "list",data:=.seq nE.toArray n}) (hf:f nE.toArray=Cp.toArray) (hv:yz ys Cp) (hz:ys.length<=sizeLine) :
  Inv X pins σ (upd H l (.lst ys)) {s with heap:=s.heap.update l (abz f),toks:=t'}:=by
 have q:=PySem.IsL.update e f;rw[hf]at q;refine I.write (by rw[hH];exact trivial) (.inl rfl) (λb' u hb hu=>(Heap.get?_update_other s.heap _ (abm hb)).trans hu) ⟨_,q⟩ ?_;exact⟨hz,Cp,_,hv,q⟩
def Inv.LZ(I:Inv X pins σ H s)(hv:yz ys nE)(hz:ys.length<=sizeLine):
  Inv X pins σ (upd H s.heap.objs.size (.lst ys)) {s with heap:=s.heap.push {cls:=.type "list",data:=.seq nE.toArray},toks:=t'} :=
 I.laid (λ_ _ q=>aad _ q) (aak _) ⟨hz,nE,0,hv,aan _ rfl⟩
def Inv.fresh(I:Inv X pins σ H s):H s.heap.objs.size=none:=I.yL.fresh (aak _)
def Inv.FA(I:Inv X pins σ H s)(hH:H l=some (.lst xs)):xs.length<=sizeLine/\∃(nE:List Value) (n:Nat),yz xs nE/\xs.length=nE.length/\s.heap.get? l=some {cls:=.type "list",data:=.seq nE.toArray n}:=by
 obtain⟨z,nE,n,r,e⟩:=I.yL l _ hH;exact⟨z,nE,n,r,r.length,e⟩
def tP(h:n<=sizeLine):Builtin.List.listTooLong n=false:=by
 exact decide_eq_false (by omega)
def pC:V->List V->Hp->VK->Prop:=λx vs H Q=>∃l xs y,x=.ref l/\vs=[y]/\H l=some (.lst xs)/\xs.length<sizeLine/\Q .yB (upd H l (.lst (xs++[y])))
def bE:Qn X "list.append" pC:=by
 intro pins s σ H x vs v us Q I rx rv h;obtain⟨l,xs,y,rfl,rfl,hH,hz,q⟩:=h;cases rx;obtain⟨u,rfl,ru⟩:=rv.one;obtain⟨z,nE,n,r,hl,e⟩:=I.FA hH;refine adT F.slot_list_append ⟨_,e,rfl⟩ F.entry_list_append (F.args_list_append_2 _ _) (PySem.list_append l nE.toArray n u (by simp_all)) ⟨e,?_⟩;refine⟨.yB,_,I.Jy hH e (by simp) (r.append (.cons ru .nil)) ?_,rfl,q⟩;rw[aa3,acC];omega
def Lx:V->List V->Hp->VK->Prop:=λx vs H Q=>∃l xs y,x=.ref l/\vs=[]/\H l=some (.lst xs)/\xs[xs.length - 1]?=some y/\Q y (upd H l (.lst xs.dropLast))
def xo:Qn X "list.pop" Lx:=by
 intro pins s σ H x vs v us Q I rx rv h;obtain⟨l,xs,y,rfl,rfl,hH,hy,q⟩:=h;cases rx;have Su:=rv.zero;subst Su;obtain⟨z,nE,n,r,hl,e⟩:=I.FA hH;obtain⟨u,hu,ru⟩:=r.get hy;have Sn:nE.toArray[nE.toArray.size - 1]?=some u:=by simp_all
 refine adT F.slot_list_pop ⟨_,e,rfl⟩ F.entry_list_pop (F.args_list_pop_1 _) (MeetsSeq.list_pop_last l nE.toArray n u Sn (by simp_all)) ⟨e,?_⟩;refine⟨y,_,I.Jy hH e ?_ r.dropLast ?_,ru,q⟩
 .rw[aam,ad2,qD]
 .rw[List.length_dropLast];omega
def Jt:V->List V->Hp->VK->Prop:=λx vs H Q=>∃l xs i k y,x=.ref l/\vs=[.int i]/\H l=some (.lst xs) /\ -(2 ^ 63)<=i/\i<2 ^ 63/\seqIndex? i xs.length=some k/\xs[k]?=some y/\Q y (upd H l (.lst (xs.eraseIdx k)))
def tS:Qn X "list.pop" Jt:=by
 intro pins s σ H x vs v us Q I rx rv h;obtain⟨l,xs,i,k,y,rfl,rfl,hH,h1,h2,hk,hy,q⟩:=h;cases rx;obtain⟨u,rfl,ru⟩:=rv.one;obtain⟨t,rfl⟩:=ru;obtain⟨z,nE,n,r,hl,e⟩:=I.FA hH;obtain⟨w,hw,Cv⟩:=r.get hy;refine adT F.slot_list_pop ⟨_,e,rfl⟩ F.entry_list_pop (F.args_list_pop_2 _ _)
  (MeetsSeq.list_pop_at l nE.toArray n i t k w (fitsIndex_both h1 h2) (by simp_all) (by simp_all) (by simp_all)) ⟨e,?_⟩
 refine⟨y,_,I.Jy hH e ?_ (r.eraseIdx k) ?_,Cv,q⟩
 .rw[ad2]
 .have:=mt xs k;omega
def LJ:R2:=λx y H Q=>∃l b xs zs,x=.ref l/\y=.ref b/\H l=some (.lst xs)/\H b=some (.lst zs)/\xs.length+zs.length<=sizeLine/\∀p,H p=none->Q (.ref p) (upd H p (.lst (xs++zs)))
def xl:zC X (abR .Add) LJ:=by
 intro pins s σ H x y v u Q I rx ry h;obtain⟨l,b,xs,zs,rfl,rfl,hH,hB,hz,q⟩:=h;cases rx;cases ry;obtain⟨z,nE,n,r,hl,e⟩:=I.FA hH;obtain⟨z2,Aa,n2,r2,FW,e2⟩:=I.FA hB;refine PySem.P.add_list e e2 ?_ (by simp_all);have ea:nE.toArray++Aa.toArray=(nE++Aa).toArray:=by simp
 rw[ea];exact⟨.ref _,_,I.LZ (r.append r2) (by simp_all),rfl,q _ I.fresh⟩
def Lw:R2:=λx y H Q=>∃l k xs,x=.ref l/\y=.int k/\H l=some (.lst xs) /\ -(2 ^ 63)<=k/\k<2 ^ 63/\xs.length*k.toNat<=sizeLine /\
 ∀p,H p=none->Q (.ref p) (upd H p (.lst (aaC k.toNat xs).flatten))
def vK(xs:List α)(k:Nat):(aaC k xs).flatten.length=k*xs.length:=by simp_all
def xh:zC X (abR .Mult) Lw:=by
 intro pins s σ H x y v u Q I rx ry h;obtain⟨l,k,xs,rfl,rfl,hH,h1,h2,hz,q⟩:=h;cases rx;obtain⟨t,rfl⟩:=ry;obtain⟨z,nE,n,r,hl,e⟩:=I.FA hH;have hlen:nE.toArray.size*k.toNat<=sizeLine:=by simp_all
 have zD:¬ nE.toArray.size*k.toNat > (2 ^ 63 - 1) / 8:=by
  have:sizeLine<=(2 ^ 63 - 1) / 8:=by decide
  omega
 have PH:¬ (!Builtin.List.listFitsIndex k)=true:=by
  rw[fitsIndex_both h1 h2];exact aaE
 have Mx:¬ Builtin.List.listTooLong (nE.toArray.size*k.toNat)=true:=by
  rw[tP hlen];exact aaE
 have FF:List.foldl (λx1 x2=>x1++x2) #[] (aaC (if nE.toArray.isEmpty=true then 0 else k.toNat) nE.toArray)=(aaC k.toNat nE).flatten.toArray:=by
  have f0  := λm=>by
   have:=mB nE m [];rw[aby]at this;exact this
  rw[f0];cases nE with
  |nil=>simp
  |cons a r'=>rw[if_neg (by simp)]
 refine wpAny_binaryOp_repeat_ref (rfl) ⟨_,e,rfl⟩ (λs'=>typeIs_int s' k t) noFill_list_mul F.fills_int_mul F.slot_int_rmul repeat_list F.slot_int_index.lookup
  (adT F.slot_int_rmul (typeIs_int s k t) F.entry_int_rmul (F.args_int_rmul_2 _ _) (int___rmul___int_list k t l nE.toArray n)
   ⟨e,rfl,⟨_,e,rfl⟩,adT F.slot_list_mul ⟨_,e,rfl⟩ F.entry_list_mul (F.args_list_mul_2 _ _) (AutoListH.list___mul___list_int_3 l nE.toArray n k t PH zD Mx) ⟨e,?_⟩⟩)
 rw[FF];exact⟨.ref _,_,I.LZ (r.rep k.toNat) (by rw[vK,Nat.mul_comm];exact hz),rfl,q _ I.fresh⟩
variable{prog:aaA}{w:World}{A:Around}{E:Value->Shared->Prop}
end L2
namespace Att
open PySem PySem.W PySem.Calls PyProof.Rows
def ko{P:Params}{h:Heap}:∀(ns:List Int) (vs:List Value),WellAll P h vs (ns.map WData.int)->IntsAre vs ns:=by
 intro ns;induction ns with
 |nil=>
  intro vs w;cases w;exact .nil
 |cons n ns ih=>
  intro vs w;cases w with
  |cons a b=>
   cases a;exact .cons _ _ (ih _ b)
def qX{l:OpenLaw}{n:Nat}(hn:l.most=some n){P:Params}{h:Heap}{args:List WData}{vals:List Value}
  (HJ:l.row.toRowW.claim.pre args=true) (Pe:WellAll P h vals args) :
  ∃a vs ns,vals=[aa0 a]/\args=[WData.list (ns.map WData.int)]/\h.get? a=some {cls:=.type "list",data:=.seq vs.toArray}/\IntsAre vs ns/\ns.length<=n:=by
 have Sy  := (pre_splitW HJ).1;have hc:l.pre.holds [] _=true:=(pre_splitW HJ).2;obtain⟨d,r,rfl,h1,h2⟩:=hasAllW_cons Sy;obtain rfl:=hasAllW_nil h2;obtain⟨xs,rfl,h3⟩:=hasW_list h1;obtain⟨ns,rfl⟩:=items_int h3;have hlen  :=by
  have h4  :=by
   have h4:=(holds_andW hc).1;rw[hn]at h4;exact h4
  have h5:=condW_of h4 (w_not (w_lt w_lit (w_len_list (w_arg rfl))));first
   |(rw[decide_eq_true q']at h5)
   |(simp at h5;omega)
 cases Pe with
 |cons w1 w2=>
  cases w2;cases w1 with
  |list ho JV=>exact⟨_,_,ns,rfl,rfl,ho,ko ns _ JV,hlen⟩
def rl(l:OpenLaw)(args:List WData):l.row.toRowW.claim.post args (.bool true) args=true :=
 postW_of
  (by first|rfl|decide|simp[WShape.has,WShape.arms,WShape.armsAll])
  (w_eq_bool (w_res rfl) w_lit) rfl
def Ee{l:OpenLaw}{n:Nat}{q:aaA}{loose:List Str}{XP:(Str->Option Value)->Heap->Prop}{YP:World->Heap->Prop}{d:DefRec}
  (hn:l.most=some n) (MA:d.params.defaults=[])
  (call:∀(w:World) (s₀ s₁:Shared) (mg mb:Str->Option Value) (fa:Addr) (o:Obj) (pm cd doc:Value) (a:Addr) (vs:List Value) (ns:List Int),
   Ground q loose [] XP w s₀ mg mb s₁.heap->YP w s₁.heap ->
   s₁.heap.get? fa=some o->o.data=.func (docDef d.name d.params d.body d.scope pm cd doc)->s₁.heap.CodeRec cd d.name->mg d.name=some (.ref fa) ->
   s₁.heap.get? a=some {cls:=.type "list",data:=.seq vs.toArray}->IntsAre vs ns->ns.length<=n->s₁.gens=#[] ->
   adn (model l.prog w) aek (.call (.ref fa) ⟨[.ref a],[]⟩) (λr s'=>r=.ok (.ret (.bool true))/\OldK s₁.heap s'.heap/\s'.os=s₁.os/\adD s'.gens) s₁) :
  WalkO q loose XP YP l.row.toRowW d [] (λf vs=>PySem.call f vs):=by
 intro w s₀ s₁ mg mb G Y fa o pm cd doc dV kV ho hd Cr hD hmg hg args vals as HJ SO UE Pe UI;obtain rfl:dV=.none:=Dflts.none hD MA;obtain rfl:kV=.none:=Dflts.noKw hD;obtain⟨a,vs,ns,rfl,rfl,JM,hints,hlen⟩:=qX hn HJ Pe;refine enter_call (codeAny_mono (call w s₀ s₁ mg mb fa o pm cd doc a vs ns G Y ho (fd_plain hd) Cr hmg JM hints hlen hg) λr s' hq=>?_);obtain⟨rfl,h2,h3,h4⟩:=hq;exact⟨.inl ⟨_,_,[],rfl,λ_=>rfl,.bool true,rl l _,λ_=>⟨ad4,λ_ hm=>(nomatch hm)⟩⟩,h2,h3,h4⟩
variable{prog:aaA}{w:World}{A:Around}{E:Value->Shared->Prop}{s:Shared}{K:Frag}
end Att
namespace L2
open PySem PySem.Spec PyProof.Rows
def ma:∀{vs:List Value} {ns:List Int},IntsAre vs ns->yz (ns.map V.int) vs
 |_,_,.nil=>.nil
 |_,_,.cons n t h=>.cons ⟨t,rfl⟩ (ma h)
end L2

namespace L2
open PySem PySem.Spec PyProof.Rows
def dU(s:Stmt):Arguments:=match s with
 |.FunctionDef _ a _ _ _ _ _ _ _ _=>a
 |_=>{posonlyargs:=[],args:=[],vararg:=none,kwonlyargs:=[],kw_defaults:=[],kwarg:=none,defaults:=[]}
def bp(s:Stmt):List Stmt:=match s with
 |.FunctionDef _ _ b _ _ _ _ _ _ _=>b
 |_=>[]
def ap(s:Stmt):Scope:=match s with
 |.FunctionDef _ _ _ _ _ _ sc _ _ _=>sc
 |_=>{kind:=.function,names:=[],isGenerator:=false,isCoroutine:=false}
abbrev zB:KW:=λ_ _ _ _ _ _=>False
abbrev E0:XK:=λ_ _ _=>False
variable{X:Cx}
def D3:DN zB X E0:=λ_ _ _ _ _ _ _ h=>h.elim
structure Fp(K:aaf)(x qual:Str)(st:Stmt)(f:Addr)(fd:abl):Prop where
 ex:∃(oc:Value) (od:Option Addr) (kV doc pm:Value) (an:Option Addr) (y6 ct:Value) (HC:Array (Option Value)),
  fd=acj x qual (dU st) (bp st) (ap st) .none kV doc pm an y6 ct/\K.lookup f=some ⟨oc,od,.func fd,HC⟩/\adz K y6 qual=true
 kp:abx K (.ref f)=true
variable{P:aaA}{w:World}{K:aaf}{mg:Str->Option Value}{base:Heap}
variable{x qual:Str}{st:Stmt}{f:Addr}{fd:abl}{N ps:List Str}{k:Nat}{sp:Sp}
def Fp.ok(F:Fp K x qual st f fd)(S:av N ps (ap st))(len:∀vs H Q E,sp vs H Q E->vs.length=ps.length)
  (Ea:∀(y6:Value) (A:Around) (outer:List Env) (s:Shared) (H:Hp) (vs:List V) (Q:VK) (E:XK),y9 k (A.deeper (envOfC qual (ap st) s.heap.objs.size f y6))->sp vs H Q E ->
   ∃t,E4 (CS zB P w K mg base N qual (ap st) f y6 A outer s H E).G8 (bp st) t/\t {nx:=λ_ H'=>Q .yB H',rt:=Q} (start N vs) H):yG P w K mg base zB (k+1) f fd ps sp:=by
 obtain⟨oc,od,kV,doc,pm,an,y6,ct,HC,rfl,lk,Cr⟩:=F.ex;refine uD lk Cr S len λA outer s H vs Q E hr Ha=>?_;obtain⟨t,h,q⟩:=Ea y6 A outer s H vs Q E hr Ha;exact⟨t,h.G8,q⟩
def Fp.binds(F:Fp K x qual st f fd)
  (h:∀(kV doc pm:Value) (an:Option Addr) (y6 ct:Value) (us:List Value),us.length=ps.length->acA (acj x qual (dU st) (bp st) (ap st) .none kV doc pm an y6 ct) ⟨us,[]⟩=pure (ps.zip us)):Binds K fd ps []:=by
 obtain⟨oc,od,kV,doc,pm,an,y6,ct,HC,rfl,lk,Cr⟩:=F.ex;exact .all (h kV doc pm an y6 ct)
variable{pm:Value}
def sj{oc:Value}{od an:Option Addr}{HC:Array (Option Value)}{kV doc y6 ct:Value}(l:K.lookup f=some ⟨oc,od,.func (acj x qual (dU st) (bp st) (ap st) .none kV doc pm an y6 ct),HC⟩)
  (c:adz K y6 qual=true) (k:abx K (.ref f)=true):Fp K x qual st f (acj x qual (dU st) (bp st) (ap st) .none kV doc pm an y6 ct):=⟨⟨oc,od,kV,doc,pm,an,y6,ct,HC,rfl,l,c⟩,k⟩
variable{pos:Pos}
def pv(i:Nat)(hN:X.N[i]?=some x:=by rfl)(hv:Cy X.env.scope x:=by first|exact Or.inl rfl|exact Or.inr (Or.inl rfl)|exact Or.inr (Or.inr rfl))(hd:(x==("__debug__" : Str))=false:=by decide)
  (Cr:(x==("__classdict__" : Str))=false:=by decide):PE X (.Name x pos) (zt i):=wV hN hv hd Cr
variable{A B:Prop}
def BW(h:B):if false=true then A else B:=by
 rw[if_neg aaE];exact h
def Cq(h:A):if true=true then A else B:=by
 rw[if_pos rfl];exact h
def Mi{c:Prop}[Decidable c](h1:c->A)(h2:¬ c->B):if c then A else B:=by simp_all
def eQ(H H':Hp):Prop:=∀b o,H b=some o->H' b=some o
def eQ.refl(H:Hp):eQ H H:=λ_ _ h=>h
variable{H H':Hp}{l:Addr}
def eQ.free(e:eQ H H')(h:H' l=Option.none):H l=Option.none:=by
 cases q:H l with
 |none=>rfl
 |some o=>
  rw[e l o q]at h;cases h
variable{a:Addr}{xs:List V}
def eQ.seq(e:eQ H H')(h:Ar K H a xs):Ar K H' a xs:=by
 rcases h with (h|⟨o,h⟩)|h
 .exact .inl (.inl (e _ _ h))
 .exact .inl (.inr ⟨o,e _ _ h⟩)
 .exact .inr h
section
variable{κ:Type}[DecidableEq κ]
def Az(gE:List (κ×V))(k:κ):Option V:=(gE.find? λkv=>decide (kv.1=k)).map (·.2)
def putK(gE:List (κ×V))(k:κ)(v:V):List (κ×V) :=
 if (gE.any λkv=>decide (kv.1=k))=true then gE.map (λkv=>if kv.1=k then (kv.1,v)else kv)else gE++[(k,v)]
def gf{p:κ×V}{r:List (κ×V)}{k:κ}(e:p.1=k):Az (p::r) k=some p.2:=by simp[Az,e]
def gg{p:κ×V}{r:List (κ×V)}{k:κ}(e:¬ p.1=k):Az (p::r) k=Az r k:=by simp[Az,e]
def m3(k:κ):∀gE:List (κ×V),(gE.any λkv=>decide (kv.1=k))=(Az gE k).isSome
 |[]=>rfl
 |p::r=>by
  rw[List.any_cons];by_cases e:p.1=k
  .simp only[gf e,decide_eq_true e,Bool.true_or,adK]
  .rw[gg e,decide_eq_false e];exact m3 k r
def db(gE:List (κ×V))(k:κ)(v:V):(putK gE k v).length<=gE.length+1:=by
 unfold putK;split
 .rw[aae];omega
 .rw[aa3,aaI,abF];omega
def Ct.AJ{o:Option V}{u:Option Value}(r:Ct o u):o.isSome=u.isSome:=by
 cases o with
 |none=>cases u with
  |none=>rfl
  |some _=>exact(r).elim
 |some _=>cases u with
  |none=>exact(r).elim
  |some _=>rfl
def KV.val{gE:List (κ×V)}{vs:List (κ×Value)}(r:KV gE vs)(k:κ):Ct (Az gE k) (valueAt vs k):=by
 induction r with
 |nil=>exact abY
 |@cons p q ps qs h t ih=>
  obtain⟨h1,h2⟩:=h;by_cases e:p.1=k
  .have e'  := h1.symm.trans e;have b:valueAt (q::qs) k=some q.2:=by simp[valueAt,e']
   rw[gf e,b];exact h2
  .have e':¬ q.1=k:=λz=>e (h1.trans z);have b:valueAt (q::qs) k=valueAt qs k:=by simp[valueAt,e']
   rw[gg e,b];exact ih
def KV.any{gE:List (κ×V)}{vs:List (κ×Value)}(r:KV gE vs)(k:κ):(gE.any λkv=>decide (kv.1=k))=vs.any λkv=>decide (kv.1=k):=by
 induction r with
 |nil=>rfl
 |cons h t ih=>rw[List.any_cons,List.any_cons,ih,h.1]
def KV.Jo{gE:List (κ×V)}{vs:List (κ×Value)}(r:KV gE vs)(k:κ){y:V}{u:Value}(ry:RelV y u):
  KV (gE.map λkv=>if kv.1=k then (kv.1,y)else kv) (vs.map λkv=>if kv.1=k then (kv.1,u)else kv):=by
 induction r with
 |nil=>exact .nil
 |@cons p q ps qs h t ih=>
  rw[aaz,aaz];refine .cons ?_ ih;obtain⟨h1,h2⟩:=h;by_cases e:p.1=k
  .rw[if_pos e,if_pos (h1.symm.trans e)];exact⟨h1,ry⟩
  .rw[if_neg e,if_neg (λz=>e (h1.trans z))];exact⟨h1,h2⟩
def KV.put{gE:List (κ×V)}{vs:List (κ×Value)}(r:KV gE vs)(k:κ){y:V}{u:Value}(ry:RelV y u):KV (putK gE k y) (stored vs k u):=by
 unfold putK stored;rw[r.any k];by_cases e:(vs.any λkv=>decide (kv.1=k))=true
 .rw[if_pos e,if_pos e];exact r.Jo k ry
 .rw[if_neg e,if_neg e];exact Paired.snoc r ⟨rfl,ry⟩
def KV.keys{gE:List (κ×V)}{vs:List (κ×Value)}(r:KV gE vs):gE.map (·.1)=vs.map (·.1):=by
 induction r with
 |nil=>rfl
 |cons h t ih=>rw[aaz,aaz,ih,h.1]
def KV.length{gE:List (κ×V)}{vs:List (κ×Value)}(r:KV gE vs):gE.length=vs.length:=adJ r
end
variable{u:Value}
def eZ{k:Key}(r:RelV (kV k) u):(aH P w).is k u=true:=by
 cases k with
 |inl i=>obtain⟨t,e⟩:=(r);subst e;exact o6 P w i t
 |inr x=>obtain⟨t,e⟩:=(r);subst e;exact o5 P w x t
def my:∀{ks:List Key} {us:List Value},yz (ks.map kV) us->ItemsAre (aH P w) ks us
 |[],_,r=>by cases r;exact .nil
 |k::ks,_,r=>by
  cases r with
  |cons h t=>exact .cons (eZ h) (my t)
abbrev KT(H:Hp):List (List Key×V)->List (List Key×Addr×Value)->Prop:=Paired λp q=>p.1=q.1/\H q.2.1=some (.tup (p.1.map kV))/\RelV p.2 q.2.2
variable{gE:List (List Key×V)}
def KT.val{xs:List (List Key×Addr×Value)}(r:KT H gE xs)(k:List Key):Ct (Az gE k) ((atKey xs k).map (·.2)):=by
 induction r with
 |nil=>exact abY
 |@cons p q ps qs h t ih=>
  obtain⟨h1,_,h2⟩:=h;by_cases e:p.1=k
  .have e'  := h1.symm.trans e;have b:atKey (q::qs) k=some q.2:=by simp[atKey,e']
   rw[gf e,b];exact h2
  .have e':¬ q.1=k:=λz=>e (h1.trans z);have b:atKey (q::qs) k=atKey qs k:=by simp[atKey,e']
   rw[gg e,b];exact ih
variable{y:V}
def KT.Jo{xs:List (List Key×Addr×Value)}(r:KT H gE xs)(k:List Key)(ry:RelV y u):
  KT H (gE.map λkv=>if kv.1=k then (kv.1,y)else kv) (xs.map (putAt k u)):=by
 induction r with
 |nil=>exact .nil
 |@cons p q ps qs h t ih=>
  rw[aaz];refine .cons ?_ ih;obtain⟨h1,h2,h3⟩:=h;unfold putAt;by_cases e:p.1=k
  .rw[if_pos e,if_pos (h1.symm.trans e)];exact⟨h1,h2,ry⟩
  .rw[if_neg e,if_neg (λz=>e (h1.trans z))];exact⟨h1,h2,h3⟩
variable{b:Addr}
def KT.put{xs:List (List Key×Addr×Value)}(r:KT H gE xs)(k:List Key)(hb:H b=some (.tup (k.map kV)))(ry:RelV y u):
  KT H (putK gE k y) (storedH xs k b u):=by
 have e:(gE.any λkv=>decide (kv.1=k))=(atKey xs k).isSome:=by
  rw[m3,(r.val k).AJ,adY]
 unfold putK storedH;rw[e];by_cases q:(atKey xs k).isSome=true
 .rw[if_pos q,if_pos q];exact r.Jo k ry
 .rw[if_neg q,if_neg q];exact Paired.snoc r ⟨rfl,hb,ry⟩
def KT.keeps{xs:List (List Key×Addr×Value)}(r:KT H gE xs)(ht:∀b ys,H b=some (.tup ys)->H' b=some (.tup ys)):KT H' gE xs :=
 Paired.Jw r λ_ _ z=>⟨z.1,ht _ _ z.2.1,z.2.2⟩
variable{h:Heap}
def uy{u:HO}(ok:Bc P w H h)(e:Rd H a u):zr P w H h a u:=e.ok ok
def gG{gE:List (Key×V)}(ok:Bc P w H h)(e:Rd H a (.dK gE)):gE.length<=sizeLine/\(a==abW)=false/\∃vs,KV gE vs/\h.DictOf (aH P w) a vs :=
 uy ok e
def kL{gE:List (Key×V)}(ok:Bc P w H h)(e:H a=some (.dK gE)):gE.length<=sizeLine/\(a==abW)=false/\∃vs,KV gE vs/\h.DictOf (aH P w) a vs:=gG ok (.inl e)
def ic{ks:List Key}(ok:Bc P w H h)(e:H a=some (.tup (ks.map kV))):(aeg (aH P w)).is h ks a:=by
 obtain⟨_,nE,r,o,h1,h2,n,h3⟩:=(ok a _ e)
 exact⟨o,nE.toArray,n,h1,h2,h3,by simpa using my r⟩
def iV(ok:Bc P w H h)(e:Rd H a (.dT gE)):gE.length<=sizeLine/\(a==abW)=false /\
  ∃xs,KT H gE xs/\h.DictOfH (aeg (aH P w)) a xs:=by
 obtain⟨z,y,xs,r,o,es,ep,h1,h2,h3,h4,h5⟩:=(uy ok e)
 refine⟨z,y,xs,r,o,es,ep,h1,h2,h3,h4,λx hx=>?_,h5⟩;have all:∀{l:List _} {m:List _},KT H l m->∀x∈m,(aeg (aH P w)).is h x.1 x.2.1:=by
  intro l m q;induction q with
  |nil=>intro x hx;exact nomatch hx
  |@cons p q ps qs hq t ih=>
   intro x hx;rcases List.mem_cons.mp hx with e|hx
   .exact ic ok (by simp_all)
   .exact ih x hx
 exact all r x hx
def yo(ok:Bc P w H h)(e:H a=some (.dT gE)):gE.length<=sizeLine/\(a==abW)=false /\
  ∃xs,KT H gE xs/\h.DictOfH (aeg (aH P w)) a xs:=iV ok (.inl e)
def Em(H:Hp)(a:Addr)(y:V)(r:Option V):Prop :=
 (∃gE k,Rd H a (.dK gE)/\y=kV k/\r=Az gE k)\/∃gE k b,Rd H a (.dT gE)/\y=.ref b/\H b=some (.tup (k.map kV))/\r=Az gE k
def Km(H:Hp)(a:Addr)(y v:V)(H':Hp):Prop :=
 (∃gE k,H a=some (.dK gE)/\y=kV k/\gE.length<sizeLine/\H'=upd H a (.dK (putK gE k v))) \/
 ∃gE k b,H a=some (.dT gE)/\y=.ref b/\H b=some (.tup (k.map kV))/\gE.length<sizeLine/\H'=upd H a (.dT (putK gE k v))
def O7{gE:List (Key×V)}{k:Key}(e:H a=some (.dK gE)):Em H a (kV k) (Az gE k):=.inl ⟨gE,k,.inl e,rfl,rfl⟩
variable{v:V}
def Sf{gE:List (Key×V)}{k:Key}(e:H a=some (.dK gE))(hl:gE.length<sizeLine):Km H a (kV k) v (upd H a (.dK (putK gE k v))):=.inl ⟨gE,k,e,rfl,hl,rfl⟩
variable{pins:List (Addr×Obj)}{σ:St}{s:Shared}{r:Value}{o:Option V}{A:Around}{E:Value->Shared->Prop}
def Inv.RF(I:Inv X pins σ H s):abW<s.heap.objs.size:=by
 have h  := (I.mod.glob.keeps I.bk).lt;exact Nat.lt_trans (by decide) h
variable{Q:Value->Shared->Prop}
def mG(hu:A.units+1<cLine)(I:Inv X pins σ H s)(g:Em H a y (some v))(ry:RelV y u)(h:∀w' s',Inv X pins σ H s'->RelV v w'->Q w' s'):
  wpAny (model X.prog X.w) A (acV (.ref a) u) Q E s:=by
 rcases g with ⟨gE,k,e,ey,l⟩|⟨gE,k,b,e,ey,eb,l⟩
 .subst ey;obtain⟨z,hd,vs,rel,dd⟩:=gG I.yL e;obtain⟨w',hw,Cv⟩:=Ct.some_of (by rw[l];exact rel.val k);exact wpAny_getItem_of (eZ ry) dd.mapOf hw (h w' _ (I.tok _) Cv)
 .subst ey;cases (ry);obtain⟨z,hd,xs,rel,dd⟩:=iV I.yL e;obtain⟨w',hw,Cv⟩:=Ct.some_of (by rw[l];exact rel.val k);obtain⟨p,hp,Kz⟩:=Option.map_eq_some_iff.mp hw;refine wpAny_getItem_heap (acR hu) (ic I.yL eb) dd hp ?_;rw[Kz];exact h w' _ (I.tok _) Cv
def yt(hu:A.units+1<cLine)(I:Inv X pins σ H s)(g:Em H a y o)(ry:RelV y u)(h:∀s',Inv X pins σ H s'->Q (.bool o.isSome) s'):
  wpAny (model X.prog X.w) A (aaL .In u (.ref a)) Q E s:=by
 rcases g with ⟨gE,k,e,ey,l⟩|⟨gE,k,b,e,ey,eb,l⟩
 .subst ey;obtain⟨z,hd,vs,rel,dd⟩:=gG I.yL e;refine wpAny_in_of (eZ ry) hd dd.mapOf ?_;rw[<- (rel.val k).AJ,<- l];exact h _ (I.tok _)
 .subst ey;cases (ry);obtain⟨z,hd,xs,rel,dd⟩:=iV I.yL e;refine wpAny_in_heap (acR hu) (ic I.yL eb) hd dd ?_;have q:=(rel.val k).AJ;rw[adY]at q;rw[<- q,<- l];exact h _ (I.tok _)
def wj(hu:A.units+1<cLine)(I:Inv X pins σ H s)(g:Em H a y o)(ry:RelV y u)(h:∀s',Inv X pins σ H s'->Q (.bool (!o.isSome)) s'):
  wpAny (model X.prog X.w) A (aaL .NotIn u (.ref a)) Q E s:=by
 rcases g with ⟨gE,k,e,ey,l⟩|⟨gE,k,b,e,ey,eb,l⟩
 .subst ey;obtain⟨z,hd,vs,rel,dd⟩:=gG I.yL e;refine wpAny_notIn_of (eZ ry) hd dd.mapOf ?_;rw[<- (rel.val k).AJ,<- l];exact h _ (I.tok _)
 .subst ey;cases (ry);obtain⟨z,hd,xs,rel,dd⟩:=iV I.yL e;refine wpAny_notIn_heap (acR hu) (ic I.yL eb) hd dd ?_;have q:=(rel.val k).AJ;rw[adY]at q;rw[<- q,<- l];exact h _ (I.tok _)
variable{h':Heap}{t':Nat}
def iW{ob:HO}(I:Inv X pins σ H s)(mu:M7 (H a))(hs:ads a s.heap h')(he:∃q,h'.get? a=some q)(new:zr X.prog X.w (upd H a ob) h' a ob):
  Inv X pins σ (upd H a ob) {s with heap:=h',toks:=t'} :=
 I.write mu (.inl rfl) (λb q hb z=>(hs.2 b hb).trans z) he new
variable{vs:List (Key×Value)}
def ow{gE:List (Key×V)}(z:gE.length<=sizeLine)(hd:(a==abW)=false)(rel:KV gE vs)(dd:h'.DictOf (aH P w) a vs):
  zr P w H' h' a (.dK gE):=⟨z,hd,vs,rel,dd⟩
def sB{Q:Unit->Shared->Prop}(hu:A.units+1<cLine)(I:Inv X pins σ H s)(g:Km H a y v H')(ry:RelV y u)(rv:RelV v r)(h:∀s',Inv X pins σ H' s'->Q () s'):
  wpAny (model X.prog X.w) A (setItem (.ref a) u r) Q E s:=by
 rcases g with ⟨gE,k,e,ey,l,eH⟩|⟨gE,k,b,e,ey,eb,l,eH⟩
 .subst ey eH;obtain⟨z,hd,vs,rel,dd⟩:=kL I.yL e;have hz:vs.length<=sizeLine:=by rw[<- rel.length];exact z
  have hl:(putK gE k v).length<=sizeLine:=by have:=db gE k v;omega
  refine wpAny_setItem_pairs (eZ ry) dd λh' Hi hs=>h _ ?_;have he:∃q,h'.get? a=some q:=let ⟨q,_,_,hq,_⟩:=Hi;⟨q,hq⟩
  exact iW I (by rw[e];exact abY) hs he (ow hl hd (rel.put k rv) Hi)
 .subst ey eH;cases (ry);obtain⟨z,hd,xs,rel,dd⟩:=yo I.yL e;have hz:xs.length<=sizeLine:=by rw[<- adJ rel];exact z
  have hl:(putK gE k v).length<=sizeLine:=by have:=db gE k v;omega
  refine wpAny_setItem_heap (acR hu) (ic I.yL eb) dd λh' Hi hs=>h _ ?_;obtain⟨q,es,ep,hq,h2,h3,h4,_,h5⟩:=Hi;refine iW I (by rw[e];exact abY) hs ⟨q,hq⟩ ⟨hl,hd,_,(rel.put k eb rv).keeps λc ys ec=>?_,q,es,ep,hq,h2,h3,h4,h5⟩;rw[ae (qu ec e (λz=>nomatch z))];exact ec
variable{gE:List (Key×V)}{k:Key}
def yp(I:Inv X pins σ H s)(e:Rd H a (.dK gE))(h:∀t s',Inv X pins σ H s'->Q (.int gE.length t) s'):wpAny (model X.prog X.w) A (call (.builtin "len") [.ref a]) Q E s:=by
 obtain⟨z,hd,vs,rel,dd⟩:=gG I.yL e;refine call_len_dict hd dd (by rw[<- rel.length];rw[aaB]at z;omega) ?_;rw[<- rel.length];exact h _ _ (I.tok _)
def FN(i:Expr):Prop:=∀ov iv,aeh i false ov iv=operate [ov,iv] (acV ov iv)
variable{env:Env}
def pj{prog:aaA}{value slice:Expr}{T id:String}
  (hl:typeLookup (.type T) "__getitem__" = pure (some (.builtin id))) (hs:FN slice)
  (h:wpAny (model prog w) A (eval value env) (λo s₁=>wpAny (model prog w) A (eval slice env) (λi s₂=>s₂.TypeIs o T/\wpAny (model prog w) A (acV o i) Q E s₂) E s₁) E s) :
  wpAny (model prog w) A (eval (.Subscript value slice pos) env) Q E s:=by
 refine Subscript_ (aaK h (λo s₁ h₁=>aaK h₁ (λi s₂ h₂=>?_) λ_ _ x=>x) λ_ _ x=>x);obtain⟨hT,h₂⟩:=h₂;refine aab ?_;refine aab (wpAny_specialOf hT hl ?_);have fin:wpAny (model prog w) A (aeh slice false o i) (λr s₃=>wpAny (model prog w) A (letTemporaryGo value o r >>= λ_=>pure r) Q E s₃) E s₂:=by
  rw[hs o i];exact wpAny_operating (aaK h₂ (λr s₃ h₃=>aab (wpAny_letTemporaryGo (aal h₃))) λ_ _ x=>x)
 first
  |exact aal (aab fin)
  |exact aab _
  |exact aab fin
def jp(I:Inv X pins σ H s)(g:Em H a y o):s.TypeIs (.ref a) "dict" :=by
 rcases g with ⟨gE,k,e,_,_⟩|⟨gE,k,b,e,_,_,_⟩
 .obtain⟨_,_,vs,_,dd⟩:=gG I.yL e;exact dd.typeIs
 .obtain⟨_,_,xs,_,dd⟩:=iV I.yL e;exact dd.typeIs
def Lm(td ty:TE):TE:=λσ H Q=>td σ H λx H1=>ty σ H1 λy H2=>∃a v,x=.ref a/\Em H2 a y (some v)/\Q v H2
variable{o i e value:Expr}{pos' Gh:Pos}{td ty tv:TE}
def u5(hu:X.A.units+1<cLine)(ho:PE X o td)(hi:PE X i ty)(hs:FN i):PE X (.Subscript o i pos) (Lm td ty):=by
 intro pins s σ H Q I h;refine pj PySem.F.slot_dict_getitem.lookup hs (zk (ho pins s σ H _ I h) λu s1 ⟨x,H1,I1,rx,q1⟩=>zk (hi pins s1 σ H1 _ I1 q1) λiv s2 ⟨y,H2,I2,ry,a,v,ex,g,q2⟩=>?_);subst ex;obtain rfl:u=aa0 a:=rx;exact⟨jp I2 g,mG hu I2 g ry λw' s3 I3 Cv=>⟨v,H2,I3,Cv,q2⟩⟩
def oz(h:Heap)(hb:abW<h.objs.size):zr P w H (h.push {cls:=.type "dict",data:=.dict #[]}) h.objs.size (.dK []) :=
 ⟨aaS _,beq_eq_false_iff_ne.mpr (abm (aay hb)),[],.nil,Heap.DictOf.new h⟩
def Ds:List (TE×TE)->St->Hp->(List (V×V)->Hp->Prop)->Prop
 |[],_,H,Q=>Q [] H
 |(tk,tv)::r,σ,H,Q=>tk σ H λx H1=>tv σ H1 λy H2=>Ds r σ H2 λps H3=>Q ((x,y)::ps) H3
abbrev VV:List (V×V)->List (Value×Value)->Prop:=Paired λp q=>RelV p.1 q.1/\RelV p.2 q.2
def M4(X:Cx)(pos:Pos)(keys:List (Option Expr))(values:List Expr)(E8:List (TE×TE)):Prop :=
 ∀(pins:List (Addr×Obj)) (s:Shared) (σ:St) (H:Hp) (Q:List (V×V)->Hp->Prop),Inv X pins σ H s->Ds E8 σ H Q ->
  wpAny (model X.prog X.w) X.A (evalPairs (pairTrees keys values X.env pos)) (λvs s'=>∃ps H',Inv X pins σ H' s'/\VV ps vs/\Q ps H') X.xe s
def uW:M4 X pos [] [] []:=λpins s σ H Q I h=>pairTrees_nil_walk ⟨[],H,I,.nil,h⟩
def tj{k v:Expr}{ks:List (Option Expr)}{vs:List Expr}{tk:TE}{E8:List (TE×TE)}(hk:PE X k tk)(hv:PE X v tv)(hr:M4 X pos ks vs E8):
  M4 X pos (some k::ks) (v::vs) ((tk,tv)::E8):=λpins s σ H Q I h=>
 pairTrees_cons_walk (zk (hk pins s σ H _ I h) λu s1 ⟨x,H1,I1,rx,q1⟩=>zk (hv pins s1 σ H1 _ I1 q1) λw2 s2 ⟨y,H2,I2,ry,q2⟩=>
  zk (hr pins s2 σ H2 _ I2 q2) λws s3 ⟨ps,H3,I3,rel,q3⟩=>⟨_,H3,I3,.cons ⟨rx,ry⟩ rel,q3⟩)
def BU(gE more:List (Key×V)):List (Key×V):=more.foldl (λacc kv=>putK acc kv.1 kv.2) gE
def KV.merge:∀{more:List (Key×V)} {rs:List (Key×Value)} {gE:List (Key×V)} {vs:List (Key×Value)},KV more rs->KV gE vs->KV (BU gE more) (merged vs rs):=by
 intro more rs gE vs r;induction r generalizing gE vs with
 |nil=>intro q;exact q
 |@cons p q ps qs h t ih=>
  intro r0;have e:KV (putK gE p.1 p.2) (stored vs q.1 q.2):=by
   have:=r0.put p.1 h.2;rw[<- h.1];exact this
  exact ih e
def gM:∀(more gE:List (Key×V)),(BU gE more).length<=gE.length+more.length
 |[],gE=>by show gE.length<=gE.length+0;omega
 |p::r,gE=>by
  have h1:=gM r (putK gE p.1 p.2);have h2:=db gE p.1 p.2;show (BU (putK gE p.1 p.2) r).length<=_;rw[aaI];omega
def kN:∀{gE:List (Key×V)} {ws:List (Value×Value)},VV (gE.map λkv=>(kV kv.1,kv.2)) ws->∃rs,Carries (aH P w) ws rs/\KV gE rs
 |[],_,r=>by cases r;exact⟨[],abY,.nil⟩
 |p::gE,_,r=>by
  cases r with
  |@cons a b as bs h t=>
   obtain⟨rs,c,q⟩:=kN t;obtain⟨b1,b2⟩:=b;exact⟨(p.1,b2)::rs,⟨eZ h.1,rfl,c⟩,.cons ⟨rfl,h.2⟩ q⟩
def Ll(E8:List (TE×TE)):TE:=λσ H Q=>∀p,H p=none->Ds E8 σ (upd H p (.dK [])) λps H2=>H2 p=some (.dK [])/\∃gE:List (Key×V),ps=gE.map (λkv=>(kV kv.1,kv.2))/\gE.length<=15/\Q (.ref p) (upd H2 p (.dK (BU [] gE)))
def u4{keys:List (Option Expr)}{values:List Expr}{E8:List (TE×TE)}(h:M4 X pos keys values E8)(JV:keys.all (·.isSome)=true)(hl:keys.length=values.length)(h0:keys≠[])
  (P8:keys.length<=15):PE X (.Dict keys values pos) (Ll E8):=by
 intro pins s σ H Q I q;have hn:=I.yL.fresh (aak s.heap.objs.size);have I1:=I.laid (t':=s.toks) (λ_ _ q=>aad _ q) (aak _) (oz s.heap I.RF);refine wpAny_Dict_walk (knd:=aH X.prog X.w) JV hl h0 P8 (zk (h pins _ σ _ _ I1 (q _ hn)) λws s2 ⟨ps,H2,I2,rel,e,gE,ep,lk,q2⟩=>?_);subst ep;obtain⟨rs,c,rk⟩:=kN rel;obtain⟨z,hd,La,r0,dd⟩:=kL I2.yL e;cases r0;refine⟨rs,c,dd,λh' Hi hs=>⟨.ref s.heap.objs.size,_,?_,rfl,q2⟩⟩;have hz:(BU [] gE).length<=sizeLine:=by
  have h1:=gM gE [];rw[abF]at h1;rw[aaB];omega
 have he:∃q,h'.get? s.heap.objs.size=some q:=let ⟨q,_,_,hq,_⟩:=Hi;⟨q,hq⟩
 exact iW I2 (by rw[e];exact abY) hs he (ow hz hd (rk.merge .nil) Hi)
def Uv(H:Hp)(a:Addr):Prop:=(∃gE,Rd H a (.dK gE))\/∃gE,Rd H a (.dT gE)
def xM(I:Inv X pins σ H s)(d:Uv H a):
  s.TypeIs (.ref a) "dict" /\ (∀b,aa0 a=.ref b->∃ob,s.heap.get? b=some ob/\ob.dict=none)/\(a==abW)=false:=by
 rcases d with ⟨gE,e⟩|⟨gE,e⟩
 .obtain⟨_,hd,vs,_,dd⟩:=gG I.yL e;refine⟨dd.typeIs,λb q=>?_,hd⟩;cases q;obtain⟨ob,_,_,h1,h2,_⟩:=dd;exact⟨ob,h1,h2.2.1⟩
 .obtain⟨_,hd,xs,_,dd⟩:=iV I.yL e;refine⟨dd.typeIs,λb q=>?_,hd⟩;cases q;obtain⟨ob,_,_,h1,h2,_⟩:=dd;exact⟨ob,h1,h2.2.1⟩
variable{d:V}{o:Option V}
variable{o f:Expr}{apos zE:Pos}{tx:TE}
def sI:za X (.builtin "len") (λxs H Q=>∃a gE,xs=[V.ref a]/\H a=some (.dK gE)/\Q (.int gE.length) H):=by
 intro pins s σ H xs us Q I r h;obtain⟨a,gE,rfl,ha,q⟩:=h;obtain⟨u,rfl,ru⟩:=vals1 r;cases ru;exact yp I (.inl ha) λt s' I'=>⟨.int gE.length,H,I',⟨t,rfl⟩,q⟩
section
variable{κ:Type}[DecidableEq κ]
end
end L2
set_option maxHeartbeats 4000000
namespace L2
open PySem PySem.Spec PyProof.Rows
def A7(cells:List (Str×Addr)):List (Str×acT)->List (Str×Addr)->List (Str×Addr)
 |[],acc=>acc
 |(n,k)::r,acc=>if k==.free then A7 cells r ((n,(cells.lookup n).getD 0)::acc)else A7 cells r acc
variable{env:Env}
def kM:∀(names:List (Str×acT)) (acc:List (Str×Addr)),(∀x∈names,x.2=.free->∃c,env.cells.lookup x.1=some c) ->
  (forIn names acc λ(x:Str×acT) (cs:List (Str×Addr))=>match x with
   |(name,kind)=>if (kind==aa6)=true then (do let c <- cellOf env name;pure (adt ((name,c)::cs)))else pure (adt cs):Sem (List (Str×Addr)))=pure (A7 env.cells names acc)
 |[],acc,_=>rfl
 |(n,k)::r,acc,h=>by
  have hr:=λacc=>kM r acc λx hx=>h x (aaj _ hx);rw[List.forIn_cons];unfold A7;by_cases hk:(k==aa6)=true
  .obtain⟨c,hc⟩:=h _ aar (by simp_all);have Dk  := hc;have e:cellOf env n=pure c:=by unfold cellOf;rw[Dk]
   rw[if_pos hk];dsimp only;rw[if_pos hk,e,pure_bind];rw[Dk];exact hr _
  .rw[if_neg hk];dsimp only;rw[if_neg hk];exact hr acc
variable{scope:Scope}
def gO(h:∀x∈scope.names,x.2=.free->∃c,env.cells.lookup x.1=some c):adu scope env=pure (A7 env.cells scope.names []):=by
 have e:=kM scope.names [] h;unfold adu;simp only[bind_pure];exact e
variable{x:Str}
def eN{cells:List (Str×Addr)}{c:Addr}:∀{names:List (Str×acT)} {acc:List (Str×Addr)},(∀y∈names,y.2=.free->∃c,cells.lookup y.1=some c)->(∀c,acc.lookup x=some c->cells.lookup x=some c) ->
  (A7 cells names acc).lookup x=some c->cells.lookup x=some c
 |[],acc,_,ha,e=>ha c e
 |(n,k)::r,acc,h,ha,e=>by
  have hr  := λy hy=>h y (aaj _ hy);unfold A7 at e;split at e
  .rename_i hk;refine eN hr (λc' e'=>?_) e;rw[abd]at e';split at e'
   .rename_i hx;obtain⟨c0,hc⟩:=h _ aar (by simp_all);have Dk  := hc;rw[Dk]at e';have:x=n:=by simp_all
    rw[this,Dk];exact e'
   .exact ha c' e'
  .exact eN hr ha e
def gH{cells:List (Str×Addr)}:∀{names:List (Str×acT)} {acc:List (Str×Addr)},((x,aa6)∈names\/∃c,acc.lookup x=some c)->∃c,(A7 cells names acc).lookup x=some c
 |[],acc,h=>by
  rcases h with h|h
  .simp at h
  .exact h
 |(n,k)::r,acc,h=>by
  unfold A7;split
  .refine gH ?_;rcases h with h|⟨c,h⟩
   .rcases List.mem_cons.mp h with e|e
    .cases e;exact .inr ⟨_,by simp;rfl⟩
    .exact .inl e
   .refine .inr ?_;rw[abd];split
    .exact⟨_,rfl⟩
    .exact⟨c,h⟩
  .rename_i hk;refine gH ?_;rcases h with h|h
   .rcases List.mem_cons.mp h with e|e
    .cases e;exact absurd rfl hk
    .exact .inl e
   .exact .inr h
def yw(X:Cx)(scope:Scope)(N:List Str)(C:Addr)(s₀:Shared)(H₀:Hp)(ex:List Addr)(pn:List (Addr×Obj)):Cx :=
 {X with N:=N,s₀:=s₀,H₀:=H₀,env:=compEnvC scope (A7 X.env.cells scope.names []) C X.env,outer:=X.stack,stack:=X.stack,ex:=ex,fn:=λ_=>false,pn:=pn,xe:=λ_ _=>False}
def zv(js:List (Option Nat))(σ:St):St:=js.map λo=>o.bind λj=>(σ[j]?).getD none
def Ay(M:List Str)(scope:Scope)(N:List Str)(js:List (Option Nat)):Bool :=
 decide (N.length=js.length) && (N.zip js).all λp=>match p.2 with
  |none=>true
  |some j=>decide (M[j]?=some p.1) && (decide (scope.names.lookup p.1=some .free) || decide (scope.names.lookup p.1=none))
def BQ(env:Env)(scope:Scope):Bool :=
 scope.names.all λx=>match x.2 with
  |.free=>decide (env.kindOf x.1=some .cell) || decide (env.kindOf x.1=some .free)
  |.cell=>false
  |.local=>decide (scope.names.lookup x.1=some .local)
  |_=>true
def j4{scope:Scope}{k:acT}:∀{names:List (Str×acT)},(∀y∈names,y.2≠.cell)->(k=.cell\/k=.free) ->
  (names.map λ(n,k)=>if (k==aa6 && env.scope.kind==.function && env.kindOf n==some .cell)then (n,acp)else (n,k)).lookup x=some k->(x,aa6)∈names:=by
 intro names hn hk h;have hm:=abC h;obtain⟨⟨n,k0⟩,h0,e⟩:=List.mem_map.mp hm;dsimp only at e;split at e
 .rename_i hc;cases e;simp only[aaR]at hc;have  :=by simpa using hc.1.1
  subst this;exact h0
 .cases e;rcases hk with e|e
  .exact absurd e (hn _ h0)
  .subst e;exact h0
def g9{env:Env}{x:Str}:∀{names:List (Str×acT)},names.lookup x=some .free ->
  (names.map λ(n,k)=>if (k==aa6 && env.scope.kind==.function && env.kindOf n==some .cell)then (n,acp)else (n,k)).lookup x=some .cell \/
  (names.map λ(n,k)=>if (k==aa6 && env.scope.kind==.function && env.kindOf n==some .cell)then (n,acp)else (n,k)).lookup x=some .free
 |[],h=>by simp at h
 |(n,k)::r,h=>by
  have ih:=@g9 env x r;show adB x ((if (k==aa6 && env.scope.kind==.function && env.kindOf n==some .cell)=true then (n,acp)else (n,k))::_)=_\/adB x ((if (k==aa6 && env.scope.kind==.function && env.kindOf n==some .cell)=true then (n,acp)else (n,k))::_)=_;cases hx:x==n with
  |true=>
   simp only[abd,hx]at h;cases h;by_cases hc:(aa6==aa6 && env.scope.kind==.function && env.kindOf n==some .cell)=true
   .rw[if_pos hc];left;simp only[abd,hx]
   .rw[if_neg hc];right;simp only[abd,hx]
  |false=>
   simp only[abd,hx]at h;by_cases hc:(k==aa6 && env.scope.kind==.function && env.kindOf n==some .cell)=true
   .rw[if_pos hc];simp only[abd,hx];exact ih h
   .rw[if_neg hc];simp only[abd,hx];exact ih h
variable{X:Cx}{pins:List (Addr×Obj)}{σ:St}{H:Hp}{s:Shared}
structure Ia(env:Env)(scope:Scope):Prop where
 fr:∀x∈scope.names,x.2=.free->env.kindOf x.1=some .cell\/env.kindOf x.1=some .free
 nc:∀x∈scope.names,x.2≠.cell
 lc:∀x∈scope.names,x.2=.local->scope.names.lookup x.1=some .local
def pA(h:BQ env scope=true):Ia env scope:=by
 have q:=List.all_eq_true.mp h;refine⟨λx hx e=>?_,λx hx e=>?_,λx hx e=>?_⟩
 .have:=q x hx;rw[e]at this;simp only[acO,decide_eq_true_eq]at this;exact this
 .have:=q x hx;rw[e]at this;cases this
 .have:=q x hx;rw[e]at this;simpa using this
def Ia.cells(h:Ia X.env scope)(ok:X.Ok):∀x∈scope.names,x.2=.free->∃c,X.env.cells.lookup x.1=some c:=λx hx e=>ok.has x.1 (h.fr x hx e)
structure IU(M:List Str)(scope:Scope)(N:List Str)(js:List (Option Nat)):Prop where
 len:N.length=js.length
 at':∀(i:Nat) (x:Str) (j:Nat),N[i]?=some x->js[i]?=some (some j)->M[j]?=some x/\(scope.names.lookup x=some .free\/scope.names.lookup x=none)
variable{N:List Str}{js:List (Option Nat)}
theorem oI{M:List Str}(h:Ay M scope N js=true):IU M scope N js:=by
 unfold Ay at h;rw[aaR]at h;refine⟨of_decide_eq_true h.1,λi x j hx hj=>?_⟩;have hm:(x,some j)∈N.zip js:=by
  refine aa1 (i:=i) ?_;rw[abj];exact⟨hx,hj⟩
 have q:=List.all_eq_true.mp h.2 _ hm;simp only[aaR,acO,decide_eq_true_eq]at q;exact q
def g8{env:Env}{x:Str}:∀{names:List (Str×acT)},names.lookup x=none ->
  (names.map λ(n,k)=>if (k==aa6 && env.scope.kind==.function && env.kindOf n==some .cell)then (n,acp)else (n,k)).lookup x=none
 |[],h=>rfl
 |(n,k)::r,h=>by
  have ih:=@g8 env x r;show adB x ((if (k==aa6 && env.scope.kind==.function && env.kindOf n==some .cell)=true then (n,acp)else (n,k))::_)=_;cases hx:x==n with
  |true=>simp only[abd,hx]at h;cases h
  |false=>
   simp only[abd,hx]at h;by_cases hc:(k==aa6 && env.scope.kind==.function && env.kindOf n==some .cell)=true
   .rw[if_pos hc];simp only[abd,hx];exact ih h
   .rw[if_neg hc];simp only[abd,hx];exact ih h
variable{C:Addr}{fp:List Addr}
theorem nY{h₁:Heap}{tk:Nat}(I:Inv X pins σ H s)(BI:Ia X.env scope)(zD:IU X.N scope N js)(yY:scope.kind=.function)
  (hf:∀b∈fp,BH X pins H b) (S6:∀b∈fp,b<s.heap.objs.size) (hC:C=s.heap.objs.size) (keep:∀b o,s.heap.get? b=some o->h₁.get? b=some o) (FV:h₁.Ns C λ_=>none) :
  Inv (yw X scope N C s H fp (X.pn++pins)) [] (zv js σ) H {s with heap:=h₁,toks:=tk}:=by
 have JS:=BI.cells I.ok;have KS:∀x c,(A7 X.env.cells scope.names []).lookup x=some c->X.env.cells.lookup x=some c:=λx c e=>eN JS (λc e=>by simp at e) e;have Kt:∀b o,s.heap.get? b=some o->b≠C:=λb o e=>by rw[hC];exact aay (aai e)
 refine⟨⟨I.ok.mod,yY,I.ok.glob,I.ok.blt,ad7 hC.symm,λx y c e1 e2=>?_,λx hx=>?_,λx c e=>?_,I.ok.hd,I.ok.frames,.inl rfl,λb hb=>⟨?_,λx c e=>?_⟩,I.bs,aa4 I.ok.IJ I.sz,λb o e hb=>?_,λb hb z=>?_,I.stack,I.Fb⟩,
  rfl,I.bare,Un.kept keep,⟨_,FV,λi x v h1 h2 h3=>?_⟩,λx c e=>?_,I.yL.fresh (ad7 hC.symm),λx c e=>I.AS x c (KS x c e),λp hp=>?_,I.yL.kept keep,?_⟩
 .exact I.ok.inj x y c (KS x c e1) (KS y c e2)
 .have hm:(x,aa6)∈scope.names:=by
   rcases hx with hx|hx
   .exact j4 (scope:=scope) BI.nc (.inl rfl) hx
   .exact j4 (scope:=scope) BI.nc (.inr rfl) hx
  exact gH (.inl hm)
 .exact absurd e (by intro z;cases z)
 .rw[hC];exact aay (S6 b hb)
 .exact(hf b hb).2.2.2.2.1 x c (KS x c e)
 .obtain⟨_,_,_,q,_⟩:=hf b hb;rcases q with q|q
  .exact I.ok.Gv b o e q
  .exact absurd (aax (aai (I.ok.bs b o e).1) q) (abg _)
 .obtain⟨_,q1,q2,_⟩:=hf b hb;rcases List.mem_cons.mp (I.BO b z)with e|e
  .exact q1 e
  .exact q2 e
 .unfold zv at h2;rw[aah]at h2;cases ej:js[i]? with
  |none=>rw[ej]at h2;cases h2
  |some o=>
   cases o with
   |none=>rw[ej]at h2;cases h2
   |some j=>
    rw[ej]at h2;have IG  :=by simpa using h2
    have hσ:σ[j]?=some (some v):=by
     cases eσ:σ[j]? with
     |none=>rw[eσ]at IG;cases IG
     |some w'=>rw[eσ]at IG;exact congrArg some IG
    obtain⟨hM,Hd⟩:=zD.at' i x j h1 ej;rcases Hd with Hd|Hd;case inr=>
     have hn:=g8 (env:=X.env) Hd;rcases h3 with h3|h3|h3
     .exact absurd (hn.symm.trans h3) (by simp)
     .exact absurd (hn.symm.trans h3) (by simp)
     .exact absurd (hn.symm.trans h3) (by simp)
    have HM:=abC Hd;have Rk:=BI.fr _ HM rfl;have Pg:Cy X.env.scope x:=Rk.elim (λz=>.inr (.inl z)) λz=>.inr (.inr z);obtain⟨m,hn,hl⟩:=I.loc;obtain⟨u,ru,lk⟩:=hl j x v hM hσ Pg;refine⟨u,ru,?_⟩;rcases lk with ⟨k,_⟩|⟨k,c,ec,z⟩
    .rcases Rk with q|q
     .rw[q]at k;cases k
     .rw[q]at k;cases k
    .obtain⟨c',Dk⟩:=gH (.inl HM);have e2:=KS x c' Dk;rw[ec]at e2;cases e2;refine .inr ⟨g9 Hd,c,Dk,?_⟩;obtain⟨o,ho,hd⟩:=z;exact⟨o,keep _ _ ho,hd⟩
 .obtain⟨v,o,ho,hd⟩:=I.cell x c (KS x c e);exact⟨v,o,keep _ _ ho,hd⟩
 .have JL  :=by
   have Kz  := hp
   rwa [abO]at Kz
  obtain⟨e,n,ne,nf,d⟩:=I.pin p JL;refine⟨keep _ _ e,n,Kt _ _ e,λz=>?_,d⟩;rcases List.mem_cons.mp (I.BO p.1 z)with q|q
  .exact ne q
  .exact nf q
 .unfold zv;rw[aae];exact zD.len.symm
variable{H':Hp}{s':Shared}
def nZ{σ':St}(I:Inv X pins σ H s)(J:Inv (yw X scope N C s H fp (X.pn++pins)) [] σ' H' s')(hf:∀b∈fp,BH X pins H b):Inv X pins σ H' s' :=
 I.MU J.os J.base J.yL J.bare λb hb=>let ⟨_,q1,_,q3,q4,q5⟩:=hf b hb;⟨q3,q1,q4,q5⟩
def Bm(js:List (Option Nat))(g:TG):Prop:=∀x σ H Q,g x σ H Q->g x σ H λσ' H'=>Q σ' H'/\σ'.length=σ.length/\∀(k j:Nat),js[k]?=some (some j)->σ'[k]?=σ[k]?
def Nd(js:List (Option Nat))(g:F9):Prop:=∀x σ H Q,g x σ H Q->g x σ H λσ' H'=>Q σ' H'/\σ'.length=σ.length/\∀(k j:Nat),js[k]?=some (some j)->σ'[k]?=σ[k]?
variable{i:Nat}
theorem iM(h:js[i]?=some none:=by rfl):Bm js (Ax i):=by
 intro x σ H Q hq;refine⟨hq,by simp,λk j hk=>?_⟩;rw[aav];rintro rfl;rw[h]at hk;cases hk
def xO:Nd js JZ:=by
 rintro x σ H Q ⟨e,hq⟩;exact⟨e,hq,rfl,λ_ _ _=>rfl⟩
variable{t:TG}{u:F9}
theorem vT(h1:Bm js t)(h2:Nd js u)(mono:∀x σ H Q Q',(∀a b,Q a b->Q' a b)->t x σ H Q->t x σ H Q')(LX:∀x σ H Q Q',(∀a b,Q a b->Q' a b)->u x σ H Q->u x σ H Q'):Nd js (Eb t u):=by
 rintro x σ H Q ⟨v,r,e,hq⟩;refine⟨v,r,e,mono _ _ _ _ _ (λσ1 H1 hh=>?_) (h1 v σ H _ hq)⟩;obtain⟨a,l1,k1⟩:=hh;exact LX _ _ _ _ _ (λσ2 H2 ⟨b,l2,k2⟩=>⟨b,l2.trans l1,λk j hk=>(k2 k j hk).trans (k1 k j hk)⟩) (h2 r σ1 H1 _ a)
variable{K:aaf}{n:Nat}
def xN{t:F9}(h:Nd js t):Bm js (JX K n t):=by
 rintro x σ H Q ⟨a,xs,e,hs,hl,hq⟩;exact⟨a,xs,e,hs,hl,h xs σ H Q hq⟩
def iO:∀x σ H (Q Q':St->Hp->Prop),(∀a b,Q a b->Q' a b)->Ax i x σ H Q->Ax i x σ H Q':=λ_ _ _ _ _ h q=>h _ _ q
def lO(m1:∀x σ H (Q Q':St->Hp->Prop),(∀a b,Q a b->Q' a b)->t x σ H Q->t x σ H Q')(m2:∀x σ H (Q Q':St->Hp->Prop),(∀a b,Q a b->Q' a b)->u x σ H Q->u x σ H Q'):
  ∀x σ H (Q Q':St->Hp->Prop),(∀a b,Q a b->Q' a b)->Eb t u x σ H Q->Eb t u x σ H Q':=λ_ _ _ _ _ h ⟨v,r,e,q⟩=>⟨v,r,e,m1 _ _ _ _ _ (λ_ _=>m2 _ _ _ _ _ h) q⟩
def PF(X:Cx)(ifs:List Expr)(t:TT):Prop :=
 ∀(pins:List (Addr×Obj)) (s:Shared) (σ:St) (H:Hp) (Q:Bool->Hp->Prop),Inv X pins σ H s->t σ H Q ->
  wpAny (model X.prog X.w) X.A (forIn ifs true λc r=>if r=true then do let ok <- isTrue c X.env (eval c X.env);pure (adt ok)else pure (adt r)) (TP X pins σ Q) X.xe s
def IY:TT:=λ_ H Q=>Q true H
def rq:PF X [] IY:=λpins s σ H Q I h=>wpAny_tests_nil ⟨H,I,h⟩
variable{c:Expr}
def rp{t:TT}(h:PT X c t):PF X [c] t:=λpins s σ H Q I hq=>wpAny_tests_one (h pins s σ H Q I hq)
def Oy(wi:TI)(g:TG)(tc:TT)(te:TE)(js:List (Option Nat)):TE:=λσ H Q=>wi σ H λJ H1=>∀l,H1 l=none ->
 ∃W:Nat->Nat->List V->Hp->Prop,(∃m,W 0 m [] (upd H1 l (.lst [])))/\∀i m ys H2,W i m ys H2 ->
  (J.stop i H2/\Q (.ref l) H2)\/(J.go i H2/\∀x H3,J.yld i H2 x H3->g x (zv js σ) H3 λσ4 H4=>tc σ4 H4 λb H5=>
   if b=true then te σ4 H5 λy H6=>H6 l=some (.lst ys)/\ys.length<sizeLine/\∃m',m'<m/\W (i+1) m' (ys++[y]) (upd H6 l (.lst (ys++[y])))else ∃m',m'<m/\W (i+1) m' ys H5)
variable{tg elt iter:Expr}{ifs:List Expr}{pos:Pos}{wi:TI}{g:TG}{tc:TT}{te:TE}
variable{Q:VK}{E:Value->Shared->Prop}{pos':Pos}
theorem pK{use:Option (Value->Sem Unit)}{QQ:Value->Shared->Prop}(hc:X.calm=true)(hx:X.xe=λ_ _=>False)(hi:PI X tg iter wi)
  (hg:∀C s₀ H₀ ex pn,PG (yw X scope N C s₀ H₀ ex pn) tg g) (ht:∀C s₀ H₀ ex pn,PF (yw X scope N C s₀ H₀ ex pn) ifs tc) (he:∀C s₀ H₀ ex pn,PE (yw X scope N C s₀ H₀ ex pn) elt te) (GL:Bm js g)
  (BI:BQ X.env scope=true) (zD:Ay X.N scope N js=true) (yY:scope.kind=.function) (hs:∀x,aaT iter X.env x=pure x)
  (I:Inv X pins σ H s) (h:Oy wi g tc te js σ H Q)
  (fin:∀(l C:Addr) (H':Hp) (s':Shared),Inv X pins σ H' s'->Q (.ref l) H'->H' C=none->C≠X.env.locals->X.s₀.heap.objs.size<=C->(∀x c,X.env.cells.lookup x=some c->c≠C)->(∀p∈X.pn++pins,p.1≠C)->(∃m,s'.heap.Ns C m)->aee (model X.prog X.w) X.A E use QQ (.ref l) C (.ok .next) s') :
  wpAny (model X.prog X.w) X.A (comprehension (.ListComp elt [⟨tg,iter,ifs,0⟩] scope pos) scope X.env pos' (newList []) false (eval iter X.env) use) QQ E s:=by
 have SC:=pA BI;have CP:=oI zD;refine wpAny_comprehension_free (cl:=A7 X.env.cells scope.names []) rfl hs (gO (SC.cells I.ok)) yY SC.lc ?_;refine aaK (hi pins s σ H _ I h) (λv s1 h1=>aaK h1 (λNB s2 h2=>?_) (λ_ _ z=>by rw[hx]at z;exact z.elim)) (λ_ _ z=>by rw[hx]at z;exact z.elim);obtain⟨it,fp,tn,J,H2,rfl,I2,T,Jf,f2,hq⟩:=h2;have KJ:H2 s2.heap.objs.size=none:=I2.yL.fresh (aak _);obtain⟨W,⟨m0,w0⟩,turn⟩:=hq s2.heap.objs.size KJ;refine adQ (adw (λx hx=>SC.nc x hx) (by intro y hy;simp at hy) (λh₁ hns₁ hsb₁=>?_) yY);dsimp only at hns₁ hsb₁ ⊢;generalize HS:s2.heap.push {cls:=.type "list",dict:=none,data:=.seq ([]:List Value).toArray}=hp3 at hns₁ hsb₁ ⊢;have MJ:hp3.objs.size=s2.heap.objs.size+1:=by rw[<- HS,ach]
 have I3:Inv X pins σ (upd H2 s2.heap.objs.size (.lst [])) {s2 with heap:=hp3}:=by
  rw[<- HS];exact I2.laid (t':=s2.toks) (λb u e=>aad _ e) (aak _) ⟨by show 0<=_;exact aaS _,[],_,.nil,aan _ rfl⟩
 have keep:∀b o,hp3.get? b=some o->h₁.get? b=some o:=λb o e=>hsb₁.extBut b o (aay (aai e)) (aad _ e);have J3:∀b∈fp,b<s2.heap.objs.size:=λb hb=>by
  obtain⟨o,e,_⟩:=T.obj _ _ Jf b hb;exact aai e
 have f3:∀b∈fp,BH X pins (upd H2 s2.heap.objs.size (.lst [])) b:=λb hb=>⟨by rw[ae (aay (J3 b hb))];exact(f2 b hb).1,(f2 b hb).2⟩
 have J4:=nY (tk:=s2.toks+([]:List (Str×Value)).length) (C:=hp3.objs.size) (fp:=fp) (h₁:=h₁) (scope:=scope) (N:=N) (js:=js) I3 SC CP yY f3 (λb hb=>by show b<hp3.objs.size;rw[MJ];exact abp (J3 b hb)) rfl keep (by simp_all);have Lq:tn 0 h₁:=T.keep _ _ _ Jf λb hb o e=>keep b o (by rw[<- HS];exact aad _ e);have loop:∀s4:Shared,s4={s2 with heap:=h₁,toks:=s2.toks+([]:List (Str×Value)).length} ->
   adn (model X.prog X.w) X.A (.compLoop (.ListComp elt [⟨tg,iter,ifs,0⟩] scope pos) 0 (.ref it) (.ref s2.heap.objs.size) (compEnvC scope (A7 X.env.cells scope.names []) hp3.objs.size X.env)) (aee (model X.prog X.w) X.A E use QQ (.ref s2.heap.objs.size) hp3.objs.size) s4:=by
  rintro s4 rfl;generalize hY:yw X scope N hp3.objs.size {s2 with heap:=hp3} (upd H2 s2.heap.objs.size (.lst [])) fp (X.pn++pins)=Y at J4;have J5:∀{H':Hp},(∀b∈fp,H' b=none)->∀b∈fp,BH Y [] H' b:=λhn b hb=>by
   subst hY;refine⟨hn b hb,?_,?_,.inl hb,λx c e=>?_,λp hp=>?_⟩
   .show b≠hp3.objs.size;rw[MJ];exact aay (abp (J3 b hb))
   .intro z;rcases List.mem_cons.mp (I3.BO b z)with q|q
    .exact(f3 b hb).2.1 q
    .exact(f3 b hb).2.2.1 q
   .exact(f3 b hb).2.2.2.2.1 x c (eN (SC.cells I.ok) (λc e=>by simp at e) e)
   .exact(f3 b hb).2.2.2.2.2 p (by simpa[yw]using hp)
  have PC:PG Y tg g:=by subst hY;exact hg _ _ _ _ _
  have Pl:PF Y ifs tc:=by subst hY;exact ht _ _ _ _ _
  have PJ:PE Y elt te:=by subst hY;exact he _ _ _ _ _
  have eA:Y.A=X.A:=by subst hY;rfl
  have eP:Y.prog=X.prog:=by subst hY;rfl
  have eW:Y.w=X.w:=by subst hY;rfl
  have eK:Y.K=X.K:=by subst hY;rfl
  have eC:Y.calm=true:=by subst hY;exact hc
  have eX:Y.xe=λ_ _=>False:=by subst hY;rfl
  have eE:Y.env=compEnvC scope (A7 X.env.cells scope.names []) hp3.objs.size X.env:=by subst hY;rfl
  have T':Turn Y.prog Y.w Y.K tg J fp it tn:=by rw[eP,eW,eK];exact T
  have eL:(zv js σ).length=js.length:=by unfold zv;rw[aae]
  rw[<- eP,<- eW,<- eA,<- eE];refine codeAny_loop rfl (λn s'=>∃i ys H',Inv Y [] (zv js σ) H' s'/\tn i s'.heap/\(∀b∈fp,H' b=none)/\W i n ys H') (λn s' hI=>?_) m0 ⟨0,[],_,J4,Lq,λb hb=>(f3 b hb).1,w0⟩;obtain⟨i,ys,H5,I5,Hu,J0,w5⟩:=hI;refine wpAny_noted ?_;rw[compTurn_list];refine aab (ab4 (aab ?_));have EN:∀(x:Value) (s:Shared) (P:Prop),Y.xe x s->P:=λx s P z=>by rw[eX]at z;exact z.elim
  rcases turn i n ys H5 w5 with ⟨stop,qn⟩|⟨go,step⟩
  .refine aaK (T'.done Y rfl rfl rfl eC i [] s' _ H5 Y.xe I5 (J5 J0) Hu stop) (λr s6 ⟨hr,I6⟩=>?_) λx s z=>EN x s _ z;subst hr;refine aal ?_;show aee _ _ _ _ _ _ _ _ _;rw[eP,eW,eA];have back:Inv X pins σ H5 s6:=by subst hY;exact nZ I3 I6 f3
   have HK:∃m,s6.heap.Ns hp3.objs.size m:=by
    obtain⟨m,hm,_⟩:=I6.loc;have:Y.env.locals=hp3.objs.size:=by rw[eE];rfl
    rw[this]at hm;exact⟨m,hm⟩
   have P7:H5 hp3.objs.size=none:=by
    have:=I6.free;have e:Y.env.locals=hp3.objs.size:=by rw[eE];rfl
    rw[e]at this;exact this
   refine fin s2.heap.objs.size hp3.objs.size H5 s6 back qn P7 ?_ ?_ ?_ ?_ HK
   .exact ab3 I3.lt
   .exact I3.sz
   .intro x c e z;obtain⟨v,o,ho,_⟩:=I3.cell x c e;exact absurd (aai ho) (by rw[z];exact abg _)
   .intro p hp z;have:=aai (I3.pin p hp).1;rw[z]at this;exact absurd this (abg _)
  .refine aaK (T'.item Y rfl rfl rfl eC i [] s' _ H5 Y.xe I5 (J5 J0) Hu go) (λr s6 h6=>?_) λx s z=>EN x s _ z;obtain⟨u,hr,h6⟩:=h6;subst hr;dsimp only;refine aab ?_;refine aaK h6 (λ_ s7 h7=>?_) λx s z=>EN x s _ z;obtain⟨x,H7,I7,r7,y7,Je,Qb⟩:=h7;have Qr:=I7.pinned (J5 Qb) (T.obj _ _ Je);have g7:=GL x (zv js σ) H7 _ (step x H7 y7);refine aab ?_;refine aaK (PC _ s7 (zv js σ) H7 x u _ Qr r7 g7) (λ_ s8 h8=>?_) λx s z=>EN x s _ z;obtain⟨σ8,H8,I8,q8,l8,k8⟩:=h8;refine aab ?_;refine aaK (Pl _ s8 σ8 H8 _ I8 q8) (λb s9 h9=>?_) λx s z=>EN x s _ z;obtain⟨H9,I9,q9⟩:=h9;have again:∀{s':Shared} {H':Hp},Inv Y ([]++CF fp s7.heap) σ8 H' s'->Inv Y [] (zv js σ) H' s'/\tn (i+1) s'.heap/\∀b∈fp,H' b=none:=λ{s' H'} I'=>by
    refine⟨(I'.AZ).weak l8.symm λk v e=>?_,T.keep _ _ _ Je λb hb o e=>(I'.pin (b,o) (aao _ (aao _ (bW hb e)))).1,λb hb=>?_⟩
    .cases ej:js[k]? with
     |none=>
      unfold zv at e;rw[aah,ej]at e;cases e
     |some o=>
      cases o with
      |none=>
       unfold zv at e;rw[aah,ej]at e;cases e
      |some j=>rw[k8 k j ej];exact e
    .obtain⟨o,e,d⟩:=T.obj _ _ Je b hb;exact(I'.pin (b,o) (aao _ (aao _ (bW hb e)))).2.1
   cases b with
   |false=>
    rw[if_neg aaE]at q9;obtain⟨m',hm,w9⟩:=q9;obtain⟨a1,a2,a3⟩:=again I9;exact aal ⟨rfl,m',hm,i+1,ys,H9,a1,a2,a3,w9⟩
   |true=>
    rw[if_pos rfl]at q9;refine aab (aab ?_);refine aaK (PJ _ s9 σ8 H9 _ I9 q9) (λy OJ Qa=>?_) λx s z=>EN x s _ z;obtain⟨yv,NZ,Qs,OR,TK,z10,m',hm,RM⟩:=Qa;refine aab ?_;refine aaK (bE (X:=Y) _ OJ σ8 NZ (.ref s2.heap.objs.size) [yv] (.ref s2.heap.objs.size) [y] (λ_ H'=>H'=upd NZ s2.heap.objs.size (.lst (ys++[yv]))) Qs rfl (.cons OR .nil) ⟨_,ys,yv,rfl,rfl,TK,z10,rfl⟩) (λ_ QL P9=>?_) λx s z=>EN x s _ z;obtain⟨_,Uy,NY,_,NQ⟩:=P9;subst NQ;obtain⟨a1,a2,a3⟩:=again NY;exact aal (aal ⟨rfl,m',hm,i+1,ys++[yv],_,a1,a2,a3,RM⟩)
 exact codeAny_compStart_list (loop _ rfl) (T.self X.A 0 _ _ _ Lq (loop _ rfl))
def uB(hi:PI X tg iter wi)(hg:∀C s₀ H₀ ex pn,PG (yw X scope N C s₀ H₀ ex pn) tg g)(ht:∀C s₀ H₀ ex pn,PF (yw X scope N C s₀ H₀ ex pn) ifs tc)(he:∀C s₀ H₀ ex pn,PE (yw X scope N C s₀ H₀ ex pn) elt te)(GL:Bm js g)
  (hc:X.calm=true:=by rfl) (hx:X.xe=(λ_ _=>False):=by rfl) (BI:BQ X.env scope=true:=by rfl) (zD:Ay X.N scope N js=true:=by rfl) (yY:scope.kind=.function:=by rfl) (hs:∀x,aaT iter X.env x=pure x:=by intro _;rfl) :
  PE X (.ListComp elt [⟨tg,iter,ifs,0⟩] scope pos) (Oy wi g tc te js):=by
 intro pins s σ H Q I h;refine pK hc hx hi hg ht he GL BI zD yY hs I h λl C H' s' I' q f0 f1 f2 f3 f4 ⟨m,hm⟩=>?_;refine⟨m,hm,λh' sb=>⟨.ref l,H',?_,rfl,q⟩⟩;exact I'.turned (λb o hb e=>sb.extBut b o hb e) f0 f1 (.inr f2) f3 f4
variable{y:Str}{py:Pos}
def ya{zK:Pos}(hN:X.N.Nodup)(hy:X.N[i]?=some y)(hk:X.env.scope.names.lookup y=some .local)(hi:PI X tg iter wi)(hg:∀C s₀ H₀ ex pn,PG (yw X scope N C s₀ H₀ ex pn) tg g)(ht:∀C s₀ H₀ ex pn,PF (yw X scope N C s₀ H₀ ex pn) ifs tc)(he:∀C s₀ H₀ ex pn,PE (yw X scope N C s₀ H₀ ex pn) elt te)(GL:Bm js g)
  (GG:abK (.ListComp elt [⟨tg,iter,ifs,0⟩] scope pos) (some (.Name y py)) zK.line X.env=pure true:=by rfl)
  (hc:X.calm=true:=by rfl) (hx:X.xe=(λ_ _=>False):=by rfl) (BI:BQ X.env scope=true:=by rfl) (zD:Ay X.N scope N js=true:=by rfl) (yY:scope.kind=.function:=by rfl) (hs:∀x,aaT iter X.env x=pure x:=by intro _;rfl) :
  PS X (.Assign [.Name y py] (.ListComp elt [⟨tg,iter,ifs,0⟩] scope pos) zK) (EA (Oy wi g tc te js) (Ax i)):=by
 intro pins s σ H D I h;rw[exec_Assign_Name_used _ _ _ _ GG];refine aab (ab4 (aab ?_));refine aab (aaK (pK hc hx hi hg ht he GL BI zD yY hs I h λl C H' s' I' q f0 f1 f2 f3 f4 ⟨m,hm⟩=>?_) (λ_ s' hq=>aal (aal hq)) λ_ _ e=>e);refine adR (gU I' hN hy (.inl hk) (v:=.ref l) rfl (λLs Qt ⟨a,sb,ha⟩=>?_) (.inr hk));have PR:C≠a:=by
  rcases ha with rfl|ha
  .exact f1
  .exact λz=>f3 _ _ ha z.symm
 refine⟨m,hm.sameBut sb PR,λh' OF=>⟨_,H',?_,q⟩⟩;exact Qt.turned (λb o hb e=>OF.extBut b o hb e) f0 f1 (.inr f2) f3 f4
end L2
namespace Srt
open PySem PySem.W PyProof.Rows
variable{α:Type}
def pw(lt:Nat->Nat->Bool)(n:Nat):KasT α->(α->Prop)->Prop
 |.ret a,Q=>Q a
 |.ask i j k,Q=>i<n/\j<n/\i≠j/\pw lt n (k (lt i j)) Q
theorem pw_bind{β:Type}{lt:Nat->Nat->Bool}{n:Nat}{f:α->KasT β}{Q:β->Prop}:∀(t:KasT α),pw lt n t (λa=>pw lt n (f a) Q)->pw lt n (t.bind f) Q
 |.ret _,h=>h
 |.ask i j k,h=>⟨h.1,h.2.1,h.2.2.1,pw_bind _ h.2.2.2⟩
structure Ord(lt:Nat->Nat->Bool)(n:Nat):Prop where
 irr:∀i,i<n->lt i i=false
 tr:∀i j k,i<n->j<n->k<n->lt i j=true->lt j k=true->lt i k=true
 tot:∀i j,i<n->j<n->i≠j->lt i j=false->lt j i=true
section
variable{lt:Nat->Nat->Bool}{n:Nat}
def at'(p:Array Nat)(i:Nat):Nat:=p.getD i 0
structure Pm(p:Array Nat)(n:Nat):Prop where
 sz:p.size=n
 lt:∀i,i<n->at' p i<n
 nd:∀i j,i<n->j<n->at' p i=at' p j->i=j
def aX(p:Array Nat)(i:Nat):at' p i=(p[i]?).getD 0:=by
 unfold at';by_cases h:i<p.size
 .simp[h]
 .simp[h]
def Ga(lt:Nat->Nat->Bool)(p:Array Nat)(k:Nat):Prop:=∀i j,i<j->j<k->lt (at' p i) (at' p j)=true
def Qu(lt:Nat->Nat->Bool)(p:Array Nat)(k:Nat):Prop:=∀i j,i<j->j<k->lt (at' p j) (at' p i)=true
theorem oO(o:Ord lt n){p:Array Nat}(P:Pm p n):∀(f m:Nat) (Q:Nat->Prop),1<=m->m+f<=n->Ga lt p m->(∀m',m<=m'->m'<=m+f->Ga lt p m'->(m'<m+f->lt (at' p m') (at' p (m' - 1))=true)->Q m')->pw lt n (kas_asc p f m) Q
 |0,m,Q,_,_,ha,h=>h m (aak _) (aak _) ha λz=>absurd z (abg _)
 |f+1,m,Q,h1,hm,ha,h=>by
  refine⟨P.lt _ (by omega),P.lt _ (by omega),λz=>(by have:=P.nd _ _ (by omega) (by omega) z;omega),?_⟩;cases c:lt _ _ with
  |true=>
   exact h m (aak _) (by omega) ha λ_=>c
  |false=>
   have e  := o.tot _ _ (P.lt _ (by omega)) (P.lt _ (by omega)) (λz=>by have:=P.nd _ _ (by omega) (by omega) z;omega) c;refine oO o P f _ Q (by omega) (by omega) (λi j Cc hj=>?_) λm' a b c d=>h m' (by omega) (by omega) c λz=>d (by omega);by_cases ej:j=m
   .subst ej;by_cases ei:i=j - 1
    .subst ei;exact e
    .exact o.tr _ _ _ (P.lt _ (by omega)) (P.lt _ (by omega)) (P.lt _ (by omega)) (ha i _ (by omega) (by omega)) e
   .exact ha i j Cc (by omega)
theorem pQ(o:Ord lt n){p:Array Nat}(P:Pm p n):∀(f m:Nat) (Q:Array Nat×Nat×Nat->Prop),1<=m->m+f<=n->Qu lt p m->(∀m',m<=m'->m'<=m+f->Qu lt p m'->Q (p,m',0))->pw lt n (kas_desc f p m 0) Q
 |0,m,Q,_,_,ha,h=>h m (aak _) (aak _) ha
 |f+1,m,Q,h1,hm,ha,h=>by
  refine⟨P.lt _ (by omega),P.lt _ (by omega),λz=>(by have:=P.nd _ _ (by omega) (by omega) z;omega),?_⟩;cases c:lt _ _ with
  |true=>
   refine pQ o P f _ Q (by omega) (by omega) (λi j Cc hj=>?_) λm' a b c=>h m' (by omega) (by omega) c;by_cases ej:j=m
   .subst ej;by_cases ei:i=j - 1
    .subst ei;exact c
    .exact o.tr _ _ _ (P.lt _ (by omega)) (P.lt _ (by omega)) (P.lt _ (by omega)) c (ha i _ (by omega) (by omega))
   .exact ha i j Cc (by omega)
  |false=>
   have e  := o.tot _ _ (P.lt _ (by omega)) (P.lt _ (by omega)) (λz=>by have:=P.nd _ _ (by omega) (by omega) z;omega) c;refine⟨P.lt _ (by omega),P.lt _ (by omega),λz=>(by have:=P.nd _ _ (by omega) (by omega) z;omega),?_⟩;rw[show lt (p.getD _ 0) (p.getD m 0)=true from e];exact h m (aak _) (by omega) ha
def ni{p:Array Nat}{m i:Nat}(hm:m<=p.size)(hi:i<m):at' (kas_rev p 0 m) i=at' p (m - 1 - i):=by
 rw[aX,aX];unfold kas_rev;rw[getElem?_mirror hm _ (by omega)];have e:0+m - 1 - i=m - 1 - i:=by omega
 split
 .rw[e]
 .have:i=m - 1 - i:=by omega
  rw[<- this]
def uU{p:Array Nat}{m i:Nat}(hm:m<=p.size)(hi:m<=i):at' (kas_rev p 0 m) i=at' p i:=by
 rw[aX,aX];unfold kas_rev;rw[getElem?_mirror hm _ (by omega),if_neg (by omega)]
theorem wN{p:Array Nat}{m:Nat}(P:Pm p n)(hm:m<=n):Pm (kas_rev p 0 m) n:=by
 have hs:m<=p.size:=by rw[P.sz];exact hm
 have key:∀i,i<n->∃i',i'<n/\at' _ i=at' p i'/\((i<m/\i'=m - 1 - i)\/(m<=i/\i'=i)):=λi hi=>by
  by_cases h:i<m
  .exact⟨_,by omega,ni hs h,.inl ⟨h,rfl⟩⟩
  .exact⟨i,hi,uU hs (by omega),.inr ⟨by omega,rfl⟩⟩
 refine⟨by unfold kas_rev;rw[mirror_size];exact P.sz,λi hi=>?_,λi j hi hj e=>?_⟩
 .obtain⟨i',h1,h2,_⟩:=key i hi;rw[h2];exact P.lt i' h1
 .obtain⟨i',h1,h2,h3⟩:=key i hi;obtain⟨j',k1,k2,k3⟩:=key j hj;rw[h2,k2]at e;have:=P.nd _ _ h1 k1 e;omega
theorem sP(o:Ord lt n){p:Array Nat}(P:Pm p n){m:Nat}{Q:Nat×Array Nat->Prop}(h1:1<=m)(hm:m<=n)(hd:Qu lt p m)(h:∀m' q,1<=m'->m'<=n->Pm q n->Ga lt q m'->Q (m',q)):pw lt n (kas_tail3 m n p) Q:=by
 refine pw_bind _ ?_;have P':=wN P hm;have hs:m<=p.size:=by rw[P.sz];exact hm
 refine oO o P' _ _ _ h1 (by omega) (λi j Cc hj=>?_) λm' a b c _=>h m' _ (by omega) (by omega) P' c;rw[ni hs (by omega),ni hs hj];exact hd _ _ (by omega) (by omega)
theorem uj(o:Ord lt n){p:Array Nat}(P:Pm p n)(h2:2<=n){Q:Nat×Array Nat->Prop}(h:∀m q,1<=m->m<=n->Pm q n->Ga lt q m->Q (m,q)):pw lt n (kas_count n p) Q:=by
 refine pw_bind _ (oO o P _ _ _ (aak 1) (by omega) (λi j Cc hj=>by omega) λm a b c d=>?_);by_cases e:(m==n)=true
 .rw[if_pos e];exact h m p (by omega) (by omega) P c
 .rw[if_neg e];by_cases hm:m > 1
  .rw[if_pos hm];refine⟨P.lt _ (by omega),P.lt _ (by omega),λz=>(by have:=P.nd _ _ (by omega) (by omega) z;omega),?_⟩;rw[show lt (p.getD 0 0) (p.getD _ 0)=true from c 0 _ (by omega) (by omega)];exact h m p (by omega) (by omega) P c
  .have Py:m=1:=by omega
   subst Py;refine pw_bind _ ?_;have d1  := d (by omega);refine pQ o P _ _ _ (by omega) (by omega) (λi j Cc hj=>?_) λm' a b hd=>?_
   .have:i=0:=by omega
    have:j=1:=by omega
    subst i j;exact d1
   .show pw lt n (if 0 > 0 then kas_tail3 m' n _ else kas_tail3 m' n p) Q;exact sP o P (by omega) (by omega) hd h
def jH(o:Ord lt n){p:Array Nat}(P:Pm p n){k:Nat}(hk:k<n)(ha:Ga lt p k):∀(f l r:Nat) (Q:Nat->Prop),l<=r->r<=k->r<=l+f->(∀i,i<l->lt (at' p i) (at' p k)=true)->(∀i,r<=i->i<k->lt (at' p k) (at' p i)=true) ->
  (∀l',l'<=k->(∀i,i<l'->lt (at' p i) (at' p k)=true)->(∀i,l'<=i->i<k->lt (at' p k) (at' p i)=true)->Q l')->pw lt n (kas_place p k f l r) Q
 |0,l,r,Q,hl,hr,hf,h1,h2,h=>by
  have:l=r:=by omega
  subst this;exact h l hr h1 h2
 |f+1,l,r,Q,hl,hr,hf,h1,h2,h=>by
  unfold kas_place;by_cases Q8:l ≥ r
  .rw[if_pos Q8];have:l=r:=by omega
   subst this;exact h l hr h1 h2
  .rw[if_neg Q8];refine⟨P.lt _ hk,P.lt _ (by omega),λz=>(by have:=P.nd _ _ hk (by omega) z;omega),?_⟩;cases c:lt (p.getD k 0) _ with
   |true=>
    refine jH o P hk ha f l _ Q (by omega) (by omega) (by omega) h1 (λi hi Rc=>?_) h;by_cases e:i=(l+r) / 2
    .subst e;exact c
    .exact o.tr _ _ _ (P.lt _ hk) (P.lt _ (by omega)) (P.lt _ (by omega)) c (ha _ _ (by omega) Rc)
   |false=>
    have e  := o.tot _ _ (P.lt _ hk) (P.lt _ (by omega)) (λz=>by have:=P.nd _ _ hk (by omega) z;omega) c;refine jH o P hk ha f _ r Q (by omega) hr (by omega) (λi hi=>?_) h2 h;by_cases e':i=(l+r) / 2
    .subst e';exact e
    .exact o.tr _ _ _ (P.lt _ (by omega)) (P.lt _ (by omega)) (P.lt _ hk) (ha _ _ (by omega) (by omega)) e
def iu{p:Array Nat}{k l i:Nat}(hk:k<p.size)(hl:l<=k):at' (bubble p k (k - l)) i=if i=l then at' p k else if l<i/\i<=k then at' p (i - 1)else at' p i:=by
 rw[aX];rw[getElem?_bubble hk _ (by omega)];have e:k - (k - l)=l:=by omega
 rw[e];split
 .rw[aX]
 .split
  .rw[aX]
  .rw[aX]
theorem sJ(o:Ord lt n):∀(f k:Nat) (p:Array Nat) (Q:Array Nat->Prop),Pm p n->Ga lt p k->k+f=n->(∀q,Pm q n->Ga lt q n->Q q)->pw lt n (kas_bin f p k) Q
 |0,k,p,Q,P,ha,hk,h=>by
  have:k=n:=by omega
  subst this;exact h p P ha
 |f+1,k,p,Q,P,ha,hk,h=>by
  have JQ:k<n:=by omega
  have hs:k<p.size:=by rw[P.sz];exact JQ
  refine pw_bind _ (jH o P JQ ha k 0 k _ (aaS _) (aak _) (by omega) (λi hi=>by omega) (λi hi Rc=>by omega) λl hl h1 h2=>?_);refine sJ o f (k+1) _ Q ⟨by rw[bubble_size];exact P.sz,λi hi=>?_,λi j hi hj e=>?_⟩ (λi j Cc hj=>?_) (by omega) h
  .rw[iu hs hl];split
   .exact P.lt _ JQ
   .split
    .exact P.lt _ (by omega)
    .exact P.lt _ hi
  .rw[iu hs hl,iu hs hl]at e;have P1:=P.nd;split at e
   .split at e
    .omega
    .split at e
     .have:=P1 _ _ JQ (by omega) e;omega
     .have:=P1 _ _ JQ (by omega) e;omega
   .split at e
    .split at e
     .have:=P1 _ _ (by omega) JQ e;omega
     .split at e
      .have:=P1 _ _ (by omega) (by omega) e;omega
      .have:=P1 _ _ (by omega) (by omega) e;omega
    .split at e
     .have:=P1 _ _ (by omega) JQ e;omega
     .split at e
      .have:=P1 _ _ (by omega) (by omega) e;omega
      .have:=P1 _ _ (by omega) (by omega) e;omega
  .rw[iu hs hl,iu hs hl];split
   .split
    .omega
    .split
     .exact h2 _ (by omega) (by omega)
     .omega
   .split
    .split
     .omega
     .split
      .exact ha _ _ (by omega) (by omega)
      .omega
    .split
     .exact h1 _ (by omega)
     .split
      .exact ha _ _ (by omega) (by omega)
      .exact ha _ _ Cc (by omega)
theorem pz(o:Ord lt n)(h2:2<=n){Q:Array Nat->Prop}(h:∀p,Pm p n->Ga lt p n->Q p):pw lt n (kas_sort n) Q:=by
 have P0:Pm (ad8 (aaZ n)) n:=by
  have e:∀i,i<n->at' (ad8 (aaZ n)) i=i:=λi hi=>by rw[aX];simp[hi]
  refine⟨by simp,λi hi=>by simp_all,λi j hi hj q=>by simp_all⟩
 refine pw_bind _ (uj o P0 h2 λm q h1 hm P ha=>?_);by_cases e:m<n
 .rw[if_pos e];have em:max m 1=m:=by omega
  rw[em];exact sJ o _ _ _ _ P ha (by omega) h
 .rw[if_neg e];have:m=n:=by omega
  subst this;exact h q P ha
end
theorem pw_wp{lt:Nat->Nat->Bool}{n:Nat}{cmp:Nat->Nat->(Bool->Shared->Prop)->Shared->Prop}{Q:α->Prop}{QQ:α->Shared->Prop}{J:Shared->Prop}
  (hc:∀i j C s,i<n->j<n->i≠j->J s->(∀s',J s'->C (lt i j) s')->cmp i j C s) (hq:∀a s,J s->Q a->QQ a s):∀(t:KasT α) (s:Shared),J s->pw lt n t Q->t.kasWp cmp QQ s
 |.ret a,s,hj,h=>hq a s hj h
 |.ask i j k,s,hj,h=>hc i j _ s h.1 h.2.1 h.2.2.1 hj λs' DS=>pw_wp hc hq _ s' DS h.2.2.2
end Srt
namespace L2
open PySem PySem.Spec PyProof.Rows
def qf{ss:List Str}:∀{us:List Value},yz (ss.map V.str) us->StrsAre us ss:=by
 induction ss with
 |nil=>intro us r;cases r;exact .nil
 |cons x r ih=>
  intro us h;cases h with
  |cons h1 h2=>
   obtain⟨t,rfl⟩:=h1;exact .cons x t (ih h2)
def gQ:∀{us:List Value} {ss:List Str},StrsAre us ss->yz (ss.map V.str) us
 |_,_,.nil=>.nil
 |_,_,.cons x t h=>.cons ⟨t,rfl⟩ (gQ h)
def zw(a b:Str):Prop:=a.cps.toList<b.cps.toList
instance (a b:Str):Decidable (zw a b):=inferInstanceAs (Decidable (a.cps.toList<b.cps.toList))
def jl:∀(l:List Str) (p:Str),risingS p l=true->(∀y∈l,¬ zw y p)/\l.Pairwise (λa b=>¬ zw b a)
 |[],p,_=>⟨(λ_ h=>nomatch h),ad4⟩
 |x::r,p,h=>by
  have h':(!ltCps x.cps.toList p.cps.toList && risingS x r)=true:=h;rw[aaR]at h';obtain⟨h1,h2⟩:=h';have hx:¬ zw x p:=by
   unfold zw;rw[ltCps_eq]at h1;simpa using h1
  obtain⟨a,b⟩:=jl r x h2;refine⟨λy hy=>?_,List.pairwise_cons.mpr ⟨a,b⟩⟩;rcases List.mem_cons.mp hy with rfl|hy
  .exact hx
  .intro z;have:=a y hy;exact hx (List.lt_of_le_of_lt (List.not_lt.mp this) z)
def jj{l:List Str}(h:sortedS l=true):l.Pairwise (λa b=>¬ zw b a):=by
 cases l with
 |nil=>exact ad4
 |cons x r=>
  obtain⟨a,b⟩:=jl r x h;exact List.pairwise_cons.mpr ⟨a,b⟩
variable{X:Cx}
def Jq(K:aaf):List V->Hp->VK->Prop:=λxs H Q=>∃(p:Addr) (ss:List Str),xs=[.ref p]/\Ar K H p (ss.map V.str)/\ss.length<64 /\
 ∀(l:Addr) (D0:List Str),H l=none->D0.Perm ss->D0.Pairwise (λa b=>¬ zw b a)->Q (.ref l) (upd H l (.lst (D0.map V.str)))
def qE:za X (.builtin "sorted") (Jq X.K):=by
 intro pins s σ H xs us Q I r h;obtain⟨p,ss,rfl,hq,Bi,k⟩:=h;obtain⟨u,rfl,ru⟩:=r.one;cases ru;obtain⟨nE,rv,pl,hz⟩:=I.list hq;have hS:=qf rv;have hl:=rv.length;rw[aae]at hl;refine sorted_strs pl.isList hS (by omega) λout D0 a1 a2 a3=>?_;obtain⟨e,he⟩:=sortedAll_at s.heap nE out;have hn  := I.yL.fresh (Nat.le_succ _);refine⟨.ref _,_,I.laid (λb o q=>sortedAll_old q) (Nat.le_succ _) ?_,rfl,k _ D0 hn a2 (jj a3)⟩;refine⟨by rw[aae,a2.length_eq,aaB];omega,out.toList,e,gQ a1,?_⟩;exact he
variable{prog:aaA}{w:World}{A:Around}{E:Value->Shared->Prop}{s:Shared}
def gw(vs:List Value):Sem PySem.Fin:=do
 let l <- newList vs;let _ <- acn [l] (call (.builtin "list.sort") [l] [])
 ret l
variable{x:Value}{vs:List Value}{Q:Value->Shared->Prop}
def qV(hc:∀R:List Value->Shared->Prop,(∀h1 tk,(∀b o,s.heap.get? b=some o->h1.get? b=some o)->R vs {s with heap:=h1,toks:=tk})->wpAny (model prog w) A.in1 (collect x) R E s)
  (h:∀h1 tk,(∀b o,s.heap.get? b=some o->h1.get? b=some o)->wpAny (model prog w) A.in1 (gw vs) (λfin s'=>∃v,fin=.done (.ret v)/\Q v s') E {s with heap:=h1,toks:=tk}):wpAny (model prog w) A (call (.builtin "sorted") [x]) Q E s:=by
 refine aeB kind_sorted plain_sorted entry_sorted (args_sorted1 _) ?_;exact aab (aal (aab (hc _ λh1 tk kk=>h h1 tk kk)))
def qh(h2:vs.length<2)(h:∀h' e,(∀b o,s.heap.get? b=some o->h'.get? b=some o)->h'.get? s.heap.objs.size=some (seqObj "list" vs.toArray e)->Q (.ref s.heap.objs.size) {s with heap:=h'}):
  wpAny (model prog w) A (gw vs) (λfin s'=>∃v,fin=.done (.ret v)/\Q v s') E s:=by
 have hz:vs.length<=sizeLine:=by rw[aaB];omega
 refine aab (ab5 ?_ hz);have FE:(s.heap.push _).get? s.heap.objs.size=some (seqObj "list" vs.toArray 0):=aan _ rfl;generalize Tt:s.heap.push _=hB at FE ⊢;have kB:∀b o,s.heap.get? b=some o->hB.get? b=some o:=λb o e=>by rw[<- Tt];exact aad _ e
 refine aab (aaM (abI adx ⟨_,FE,rfl⟩ adk ?body (aex _)));case body=>
  rw[list_sort_plain];obtain⟨e1,Q5⟩:∃e1,(hB.update s.heap.objs.size (abz _)).get? s.heap.objs.size=some _:=⟨_,abB FE λ_=>#[]⟩
  refine aab (listItems_at FE rfl (aab (acI FE rfl ?_ (by omega) (aaS _))));refine aab (aei Q5 rfl (aab (wpAny_newTuple ?_ (by omega))));refine aab (ab5 (aaM ?_) (aaS _));have Pu:(((hB.update s.heap.objs.size _).push (seqObj "tuple" vs.toArray 0)).push (seqObj "list" #[] 0)).get? s.heap.objs.size=some _ :=
   aad _ (aad _ Q5)
  have zR:vs.toArray.size<2:=by omega
  rw[if_pos zR,if_pos zR];refine aab (aal ?_);refine aab (aal ?_);dsimp only;have eo  :=by
   show (vs.toArray.zip vs.toArray).map (·.2)=vs.toArray;apply Array.ext
   .simp
   .simp
  rw[eo];refine aab (aei Pu rfl (aab (acI Pu rfl ?_ (aaS _) (by omega))));simp only[bne_self_eq_false,if_false];refine aal ⟨_,rfl,aal ⟨_,rfl,h _ _ (λb o e=>?_) (abB Pu _)⟩⟩;have hb  := aay (aai e);rw[adC _ _ _ _ hb];refine aad _ (aad _ ?_);rw[adC _ _ _ _ hb];exact kB b o e
variable{pins:List (Addr×Obj)}{σ:St}{H:Hp}
variable{h:Heap}{a:Addr}
def xn{m m':Str->Option Value}(x:h.Ns a m)(y:h.Ns a m'):m=m':=by
 obtain⟨o,es,ep,ho,hd,_,hm⟩:=x;obtain⟨o',NO,NP,Cb,NK,_,JN⟩:=y;rw[ho]at Cb;cases Cb;rw[hd]at NK;cases NK;funext n;rw[<- hm n,<- JN n]
variable{P:aaA}{o:HO}
def zr.there(x:zr P w H h a o):∃u,h.get? a=some u:=by
 cases o with
 |lst xs=>obtain⟨_,_,_,_,e⟩:=x;exact⟨_,e⟩
 |tup xs=>obtain⟨_,_,_,o,e,_⟩:=x;exact⟨_,e⟩
 |dK gE=>obtain⟨_,_,_,_,o,_,_,e,_⟩:=x;exact⟨_,e⟩
 |dT gE=>obtain⟨_,_,_,_,o,_,_,e,_⟩:=x;exact⟨_,e⟩
 |set S n=>obtain⟨o,_,_,_,e,_⟩:=x;exact⟨_,e⟩
 |ins C dx fs=>obtain⟨_,_,_,e,_⟩:=x;exact⟨_,e⟩
 |own y=>exact x
 |xd fs=>obtain⟨_,⟨_,_,_,e,_⟩,_⟩:=x;exact⟨_,e⟩
 |Nn lo hi=>obtain⟨_,_,_,e⟩:=x;exact⟨_,e⟩
 |Bf ob u=>obtain⟨e,_⟩:=x;exact⟨_,e⟩
 |Ii ps=>exact⟨_,x⟩
 |met f y=>exact⟨_,x⟩
 |ext φ=>obtain⟨_,e,_⟩:=x;exact e
def Bc.dead(x:Bc P w H h)(e:h.get? a=none):H a=none:=by
 cases q:H a with
 |none=>rfl
 |some u=>
  obtain⟨o,z⟩:=(x a u q).there;rw[e]at z;cases z
variable{h':Heap}{xs:List V}
def Inv.Iy{D:Addr}{m:Str->Option Value}(I:Inv X pins σ H s)(hm:s.heap.Ns X.env.locals m)(JN:h'.Ns X.env.locals m)(k:∀b o,b≠X.env.locals->s.heap.get? b=some o->h'.get? b=some o)
  (hD:s.heap.get? D=none) (new:zr X.prog X.w (upd H D (.lst xs)) h' D (.lst xs)):Inv X pins σ (upd H D (.lst xs)) {s with heap:=h'}:=by
 have fr  := I.yL.dead hD;have nD:∀b o,s.heap.get? b=some o->b≠D:=λb o e z=>by simp_all
 have nt:∀b u,H b=some u->b≠D:=λb u e=>au e fr;have QS:∀b u,H b=some u->b≠X.env.locals:=λb u e=>au e I.free;refine I.step (ch:=[]) (λ_ z=>nomatch z) (λb o hb _ _ e _=>k b o hb e) (λb o hb _ _ e _=>⟨o.slots,k b o hb e⟩) (λb o _ e n=>by rw[ae (nD b o e)];exact n)
  (λb o _ e=>?_) (λb ys e=>by rw[ae (nt b _ e)];exact e) (λb o u e=>by rw[ae (nt b _ e)];exact e) (λb ps e=>⟨#[],by rw[ae (nt b _ e),e];simp⟩) (λm2 h2=>by rw[xn h2 hm];exact JN) (λb u e=>?_) I.bare
 .by_cases hb:b=X.env.locals
  .subst hb;obtain⟨o',_,_,Cb,_⟩:=JN;exact⟨o',Cb⟩
  .exact⟨o,k b o hb e⟩
 .by_cases hb:b=D
  .subst hb;rw[aj]at e;cases e;exact new
  .rw[ae hb]at e;refine(I.yL b u e).Co (λc v hc q=>k c v ?_ q) (λc q=>by rw[ae (nt c _ q)];exact q) λc ys q=>by rw[ae (nt c _ q)];exact q
   rcases hc with z|z
   .rw[z];exact QS b u e
   .exact QS c _ z
structure Rows(K:aaf)(H:Hp)(vs:List V)(nm:List Str):Prop where
 len:vs.length=nm.length
 row:∀(i:Nat) (v:V) (x:Str),vs[i]?=some v->nm[i]?=some x->∃a r,v=.ref a/\AF K H a (.str x::r)
 nd:nm.Nodup
def Jr(K:aaf):List V->Hp->VK->Prop:=λxs H Q=>∃p vs nm,xs=[.ref p]/\Ar K H p vs/\vs.length<64/\Rows K H vs nm /\
 ∀l (ix:List Nat),H l=none->ix.length=vs.length->ix.Nodup->(∀i∈ix,i<vs.length)->(ix.map λi=>nm.getD i ⟨#[]⟩).Pairwise zw->Q (.ref l) (upd H l (.lst (ix.map λi=>vs.getD i .yB)))
variable{us:List Value}
theorem yz.pick(r:yz xs us):∀(ix:List Nat),(∀i∈ix,i<xs.length)->yz (ix.map λi=>xs.getD i .yB) (ix.map λi=>us.getD i aa5)
 |[],_=>.nil
 |i::ix,h=>by
  refine .cons ?_ (yz.pick r ix λj hj=>h j (aaj _ hj));have hi:=h i aar;have e:xs[i]?=some (xs[i]):=by simp
  obtain⟨u,hu,ru⟩:=r.get e;have e1:xs.getD i .yB=xs[i]:=by simp_all
  have e2:us.getD i aa5=u:=by simp_all
  show RelV (xs.getD i .yB) (us.getD i aa5);rw[e1,e2];exact ru
variable{nE:List Value}
theorem sT{vs:List V}{nm:List Str}{Q:VK}(I:Inv X pins σ H s)(rv:yz vs nE)(hz:nE.length<=sizeLine)(Bi:vs.length<64)(R:Rows X.K H vs nm)
  (k:∀l (ix:List Nat),H l=none->ix.length=vs.length->ix.Nodup->(∀i∈ix,i<vs.length)->(ix.map λi=>nm.getD i ⟨#[]⟩).Pairwise zw->Q (.ref l) (upd H l (.lst (ix.map λi=>vs.getD i .yB)))) :
  wpAny (model X.prog X.w) A (gw nE) (λfin s'=>∃v,fin=.done (.ret v)/\∃x H',Inv X pins σ H' s'/\RelV x v/\Q x H') E s:=by
 have hl:=rv.length;by_cases h2:nE.length<2
 .refine qh h2 λh' e kk he=>?_;have hn:H s.heap.objs.size=none:=I.yL.fresh (aak _);have ei:(aaZ vs.length).map (λi=>vs.getD i V.yB)=vs:=by
   apply acz;intro i;rw[aah];by_cases hi:i<vs.length
   .rw[abS hi];simp[hi]
   .rw[aap (by simpa using hi),aap (by omega)];rfl
  have q:=k s.heap.objs.size (aaZ vs.length) hn (by simp) adb (λi hi=>List.mem_range.mp hi) (by
   match hv:vs.length,hl with
   |0,_=>simp
   |1,_=>simp[aeq]
   |n+2,hl=>omega)
  rw[ei]at q;exact⟨.ref s.heap.objs.size,_,I.laid (t':=s.toks) (a:=s.heap.objs.size) (o:=.lst vs) kk (aak _) ⟨by rw[hl];exact hz,nE,e,rv,he⟩,rfl,q⟩
 .obtain⟨m,F⟩:=I.fr;unfold gw;refine aab (ab5 ?_ hz);have FE:(s.heap.push (seqObj "list" nE.toArray 0)).get? s.heap.objs.size=some (seqObj "list" nE.toArray 0):=aan _ rfl;have hL:X.env.locals<s.heap.objs.size:=F.ns.lt;refine aab (aaM (abI adx ⟨_,FE,rfl⟩ adk ?body (aex _)));refine PySem.W.kat_list_sort (s:={s with heap:=s.heap.push (seqObj "list" nE.toArray 0)}) (F.kept λb o e=>aad _ e) ((jO (g:=X.base) (h:=s.heap) (L:=X.env.locals)).grown λb o e=>aad _ e) FE (ab3 hL)
   (Heap.get?_none_of_le (aa4 F.above (ad6 hL))) (λp hp=>aay (aai ((jO (g:=X.base) (h:=s.heap) (L:=X.env.locals)) p hp).1)) (by omega) (by omega) λe1 h' F' N'=>?_
  have hD:∀q∈iZ X.base s.heap X.env.locals,q.1<s.heap.objs.size:=λq hq=>aai ((jO (g:=X.base) (h:=s.heap) (L:=X.env.locals)) q hq).1;generalize UN:s.heap.objs.size=D at hD N' ⊢;have Mh:∀b o,b≠X.env.locals->s.heap.get? b=some o->h'.get? b=some o:=λb o hb e=>by
   cases q:X.base.get? b with
   |some ob=>
    have:=I.bk b ob q;rw[e]at this;cases this;exact F'.keep b _ q
   |none=>exact(N' (b,o) (aaj _ (fx hb q e))).1
  have Tp:∀b o,b≠X.env.locals->X.base.get? b=none->s.heap.get? b=some o->b<D:=λb o hb hn e=>hD (b,o) (fx hb hn e);have rowAt:∀i,i<nE.length->∃a ob vv x t n,nE.getD i aa5=.ref a/\h'.get? a=some ob/\ob.cls=.type "tuple" /\ ob.data=.seq vv n/\vv[0]?=some (.str x t)/\nm[i]?=some x/\s.heap.get? a=some ob:=λi hi=>by
   have Et:i<vs.length:=by omega
   have e:vs[i]?=some vs[i]:=by simp[Et]
   obtain⟨u,hu,ru⟩:=rv.get e;have Dj:i<nm.length:=by rw[<- R.len];exact Et
   have en:nm[i]?=some nm[i]:=by simp[Dj]
   obtain⟨a,rr,ev,ha⟩:=R.row i _ _ e en;rw[ev]at ru;cases ru;obtain⟨RV,tv,⟨ob,ER,hc,n,hd⟩,z1⟩:=I.tuple ha;cases tv with
   |cons t1 t2=>
    obtain⟨t,rfl⟩:=t1;refine⟨a,ob,_,nm[i],t,n,by rw[aac,hu];rfl,Mh a ob ?_ ER,hc,hd,by simp,en,ER⟩;rintro rfl;obtain⟨m,⟨o2,es,ep,g1,g2,_⟩,_⟩:=I.loc;rw[ER]at g1;cases g1;rw[hd]at g2;cases g2
  have C3:PySem.W.KatTups h' nE ((aaZ nE.length).map λi=>match nE.getD i aa5 with|.ref a=>(match h'.get? a with|some ob=>(match ob.data with|.seq vv _=>(vv[0]?).getD .none|_=>.none)|none=>.none)|_=>.none):=by
   have go:∀(us:List Value) (f:Nat->Value) (k0:Nat),(∀i,i<us.length->∃a ob vv n,us.getD i aa5=.ref a/\h'.get? a=some ob/\ob.cls=.type "tuple" /\ ob.data=.seq vv n/\vv[0]?=some (f (k0+i))) ->
     PySem.W.KatTups h' us ((aaZ us.length).map λi=>f (k0+i)):=by
    intro us;induction us with
    |nil=>intro f k0 _;exact trivial
    |cons u us ih=>
     intro f k0 hh;obtain⟨a,ob,vv,n,e1,e2,e3,e4,e5⟩:=hh 0 (by simp);have MO:u=.ref a:=by simpa using e1
     subst MO;rw[aaI,List.range_succ_eq_map,aaz,aaH];refine⟨⟨a,ob,vv,n,rfl,e2,e3,e4,e5⟩,?_⟩;have:=ih f (k0+1) λi hi=>by
      obtain⟨a,ob,vv,n,e1,e2,e3,e4,e5⟩:=hh (i+1) (by simpa using hi);exact⟨a,ob,vv,n,by simpa using e1,e2,e3,e4,by rw[show k0+1+i=k0+(i+1)by omega];exact e5⟩
     have ef:(λi=>f (k0+i)) ∘ Nat.succ=λi=>f (k0+1+i):=by
      funext i;show f (k0+(i+1))=f (k0+1+i);rw[show k0+(i+1)=k0+1+i by omega]
     rw[ef];exact this
   have:=go nE (λi=>match nE.getD i aa5 with|.ref a=>(match h'.get? a with|some ob=>(match ob.data with|.seq vv _=>(vv[0]?).getD .none|_=>.none)|none=>.none)|_=>.none) 0 λi hi=>by
    obtain⟨a,ob,vv,x,t,n,e1,e2,e3,e4,e5,_⟩:=rowAt i hi;refine⟨a,ob,vv,n,e1,e2,e3,e4,?_⟩;rw[abQ,e1,e5];simp only[e2,e4,e5];rfl
   simpa using this
  refine PySem.W.kat_kind (T:=.type "str") C3 (by rw[aae,ac3];omega) (λv hv=>?_) rfl ?_
  .obtain⟨i,hi,rfl⟩:=List.mem_map.mp hv;obtain⟨a,ob,vv,x,t,n,e1,e2,e3,e4,e5,_⟩:=rowAt i (List.mem_range.mp hi);rw[e1];simp only[e2,e4,e5];exact PySem.W.Looks.of_pure rfl
  .-- the questions
   have hT:((acx "str") != (acx "tuple"))=true:=by decide
   rw[hT];let lt:Nat->Nat->Bool:=λi j=>decide (zw (nm.getD i ⟨#[]⟩) (nm.getD j ⟨#[]⟩));have MT:∀i j,i<nE.length->j<nE.length->(nm.getD i ⟨#[]⟩).cps.toList=(nm.getD j ⟨#[]⟩).cps.toList->i=j:=λi j hi hj e=>by
    have Et:i<nm.length:=by rw[<- R.len];omega
    have DS:j<nm.length:=by rw[<- R.len];omega
    have e':nm.getD i ⟨#[]⟩=nm.getD j ⟨#[]⟩:=by
     generalize nm.getD i ⟨#[]⟩=x at e ⊢;generalize nm.getD j ⟨#[]⟩=y at e ⊢;obtain⟨x⟩:=x;obtain⟨y⟩:=y;exact congrArg Str.mk (Array.toList_inj.mp e)
    rw[aac,aac,aaa Et,aaa DS]at e';exact(abu R.nd).mp e'
   have o:Srt.Ord lt nE.length:=by
    refine⟨λi _=>?_,λi j k _ _ _ a b=>?_,λi j hi hj ne e=>?_⟩
    .show decide _=false;simp[zw,acX]
    .have a':=of_decide_eq_true a;have b':=of_decide_eq_true b;exact decide_eq_true (List.lt_trans (show _<_ from a') b')
    .have e':=of_decide_eq_false e;refine decide_eq_true ?_;unfold zw at e' ⊢;rcases aaX 0 0 with z|_
     .omega
     .have le:=List.not_lt.mp e';rcases List.le_iff_lt_or_eq.mp le with z|z
      .exact z
      .exact absurd (MT j i hj hi z).symm ne
   refine Srt.pw_wp (lt:=lt) (n:=nE.length) (Q:=λp=>Srt.Pm p nE.length/\Srt.Ga lt p nE.length) (J:=λs'=>s'={s with heap:=h'}) ?_ ?_ (PySem.W.kas_sort nE.length) _ rfl (Srt.pz o (by omega) λp a b=>⟨a,b⟩)
   .rintro i j C s' hi hj ne rfl hC;obtain⟨a,ob,vv,x,t,n,e1,e2,e3,e4,e5,e6,_⟩:=rowAt i hi;obtain⟨a',UB,IV,x',t',n',f1,f2,f3,f4,f5,f6,_⟩:=rowAt j hj;show wpAny _ _ (keyLt' (aef true) (nE.getD i aa5) (nE.getD j aa5)) _ _ _;rw[e1,f1];refine PySem.W.kat_lt e2 e4 f2 f4 ?_;have g1:vv.toList=.str x t::vv.toList.tail:=by
     cases h:vv.toList with
     |nil=>
          have:vv[0]?=vv.toList[0]?:=by simp
          rw[this,h]at e5;cases e5
     |cons y r=>
            have:vv[0]?=vv.toList[0]?:=by simp
            rw[this,h]at e5;have:y=.str x t:=by simpa using e5
            rw[this];rfl
    have g2:IV.toList=.str x' t'::IV.toList.tail:=by
     cases h:IV.toList with
     |nil=>
          have:IV[0]?=IV.toList[0]?:=by simp
          rw[this,h]at f5;cases f5
     |cons y r=>
            have:IV[0]?=IV.toList[0]?:=by simp
            rw[this,h]at f5;have:y=.str x' t':=by simpa using f5
            rw[this];rfl
    rw[g1,g2,aa7];have d1:nm.getD i ⟨#[]⟩=x:=by rw[aac,e6];rfl
    have d2:nm.getD j ⟨#[]⟩=x':=by rw[aac,f6];rfl
    have hne:x≠x':=λz=>ne (MT i j hi hj (by rw[d1,d2,z]));refine PySem.W.kat_cons (aea ?_);rw[decide_eq_false hne];refine PySem.W.kat_no ?_;show wpAny _ _ (oneLt' true (.str x t) (.str x' t')) _ _ _;refine oneLt_str ?_;have:=hC _ rfl;have el:lt i j=decide (x.cps.toList<x'.cps.toList):=by
     show decide (zw _ _)=_;rw[d1,d2];rfl
    rw[el]at this;exact this
   .rintro pa s' rfl ⟨P,As⟩;refine PySem.W.KasFin.intro F' N' (.head λq hq=>?_) λIG c F2 N2=>?_
    .exact aay (hD q hq)
    .have Mg:∀b o,b≠X.env.locals->s.heap.get? b=some o->IG.get? b=some o:=λb o hb e=>by
      cases q:X.base.get? b with
      |some ob=>
       have:=I.bk b ob q;rw[e]at this;cases this;exact F2.keep b _ q
      |none=>exact(N2 (b,o) (aaj _ (fx hb q e))).1
     have P5:=(N2 _ aar)
     have MI:s.heap.get? D=none:=by
      cases q:s.heap.get? D with
      |none=>rfl
      |some od=>exact absurd (Tp D od P5.2.1 P5.2.2 q) (abg _)
     have Mv:∀i∈pa.toList,i<vs.length:=λi hi=>by
      obtain⟨j,hj,rfl⟩:=Array.mem_iff_getElem.mp (Array.mem_toList_iff.mp hi);have:=P.lt j (by rw[<- P.sz];exact hj);rw[Srt.aX]at this;simp only[aeE hj,Option.getD_some]at this;omega
     have q:=k D pa.toList (I.yL.dead MI) (by rw[abw,P.sz];omega) ?_ Mv ?_
     .refine⟨_,rfl,aal ⟨_,rfl,.ref D,_,I.Iy (xs:=pa.toList.map λi=>vs.getD i .yB) F.ns F2.ns Mg MI ⟨?_,pa.toList.map λi=>nE.getD i aa5,c,rv.pick _ Mv,P5.1⟩,rfl,q⟩⟩;rw[aae,abw,P.sz];exact hz
     .rw[acd,acg];intro i j hi hj Cc e;have Et:i<pa.size:=by simpa using hi
      have DS:j<pa.size:=by simpa using hj
      have:=P.nd i j (by rw[<- P.sz];exact Et) (by rw[<- P.sz];exact DS) (by rw[Srt.aX,Srt.aX];simpa[Et,DS]using e);omega
     .rw[ad1,acg];intro i j hi hj Cc;have Et:i<pa.size:=by simpa using hi
      have DS:j<pa.size:=by simpa using hj
      have:=As i j Cc (by rw[<- P.sz];exact DS);rw[Srt.aX,Srt.aX]at this;have:=of_decide_eq_true this;simpa[Et,DS]using this
def qF:za X (.builtin "sorted") (Jr X.K):=by
 intro pins s σ H xs us Q I r h;obtain⟨p,vs,nm,rfl,hq,Bi,R,k⟩:=h;obtain⟨u,rfl,ru⟩:=r.one;cases ru;obtain⟨nE,rv,pl,hz⟩:=I.list hq;refine qV (λR' g=>collect_list pl.isList (g _ s.toks λb o e=>?_) (by rw[<- rv.length];exact hz)) λh1 tk kk=>sT (I.kept kk) rv (by rw[<- rv.length];exact hz) Bi R k;have hb  := aai e;rw[adC _ _ _ _ (aay hb)];exact aad _ e
section
open PySem.SeqAt
open PySem.AutoSeq1 (wpAny_loadPart')
open PySem.MeetsSeq PySem.MeetsSeq2 PySem.MeetsSeq3
end
def Dw(K:aaf):R2:=λx y H Q=>∃a b xs,x=.ref a/\y=.ref b/\Ar K H a xs/\Ar K H b []/\Q (.bl (!xs.isEmpty)) H
def jL(hu:X.A.units<cLine):zC X (aaL .NotEq) (Dw X.K):=by
 intro pins s σ H x y v u Q I rx ry h;obtain⟨a,b,xs,rfl,rfl,ha,hb,q⟩:=h;cases rx;cases ry;obtain⟨nE,r1,p1,_⟩:=I.list ha;obtain⟨Aa,r2,p2,_⟩:=I.list hb;cases r2;have fin:∀k,k=(!xs.isEmpty)->EP X pins σ Q _ s:=λk e=>by exact⟨.bl _,H,I,rfl,q⟩
 cases r1 with
 |nil=>exact SeqAt.RcNeAt.lists (e:=λ_=>true) p1.isList p2.isList rfl hu (λj h1 h2=>absurd h1 (by simp)) X.prog X.w X.xe _ (fin _ rfl)
 |cons _ _=>exact SeqAt.RcNeAt.lists_lengths p1.isList p2.isList (by simp) hu X.prog X.w X.xe _ (fin _ rfl)
def CC(x:Str)(n:Nat):Str:=⟨(aaC n x.cps.toList).flatten.toArray⟩
def Io:R2:=λx y H Q=>∃(z:Str) (i:Int),x=.str z/\y=.int i/\0<=i/\i<=1000/\z.length<=1000/\Q (.str (CC z i.toNat)) H
def mC(x:Array Nat):∀(n:Nat) (acc:Array Nat),((aaC n x).foldl (·++·) acc)=acc++(aaC n x.toList).flatten.toArray
 |0,acc=>by simp
 |n+1,acc=>by
  rw[abD,List.foldl_cons,mC x n,abD];apply Array.toList_inj.mp;simp
def uL(x:Str)(i:Int)(h:0<=i):Txt.mul x i=CC x i.toNat:=by
 unfold Txt.mul CC;by_cases h1:i<1
 .have:i=0:=by omega
  subst this;rfl
 .rw[if_neg h1];by_cases h2:(i==1 || x.length==0)=true
  .rw[if_pos h2];rw[acO]at h2;obtain⟨x⟩:=x;rcases h2 with z|z
   .have  :=by simpa using z
    subst this;simp
   .have hz:x.size=0:=by simpa[Str.length]using z
    have  := Array.eq_empty_of_size_eq_zero hz;subst this;simp
  .rw[if_neg h2,mC];simp
def vk:zC X (abR .Mult) Io:=by
 intro pins s σ H x y v u Q I rx ry h;obtain⟨z,i,rfl,rfl,h0,h1,h2,q⟩:=h;obtain⟨t,rfl⟩:=rx;obtain⟨t',rfl⟩:=ry;refine SB.mul ⟨?_,λ_ _ hh=>?_,λ_ _=>?_⟩ λt2 k=>?_
 .rw[decide_eq_false (by omega),decide_eq_false (by omega)];rfl
 .have:(2 ^ 63 - 1) / i ≥ 2 ^ 50:=by
   apply (Int.le_ediv_iff_mul_le (by omega)).mpr;omega
  omega
 .have:z.length*i.toNat<=1000*1000:=Nat.mul_le_mul h2 (by omega);refine decide_eq_false ?_;rw[aaB];omega
 .rw[uL z i h0];exact⟨.str _,H,I.tok k,⟨_,rfl⟩,q⟩
def LG(K:aaf):List V->Hp->VK->Prop:=λxs H Q=>∃x t c b,xs=[x,.ty c]/\B5 K H x t/\ady K t (.type c)=some b/\Q (.bl b) H
def um:za X (.builtin "isinstance") (LG X.K):=by
 intro pins s σ H xs us Q I r h;obtain⟨x,t,c,b,rfl,ty,e,q⟩:=h;cases r with
 |cons r1 r2=>
  cases r2 with
  |cons r2 r3=>
   cases r3;cases r2;exact r8 I r1 ty e λtk=>⟨.bl b,H,I.tok tk,rfl,q⟩
def OA(wi:TI)(g:TG)(tc:TT)(tk te:TE)(js:List (Option Nat)):TE:=λσ H Q=>wi σ H λJ H1=>∀l,H1 l=none ->
 ∃W:Nat->Nat->List (Key×V)->Hp->Prop,(∃m,W 0 m [] (upd H1 l (.dK [])))/\∀i m ys H2,W i m ys H2 ->
  (J.stop i H2/\Q (.ref l) H2)\/(J.go i H2/\∀x H3,J.yld i H2 x H3->g x (zv js σ) H3 λσ4 H4=>tc σ4 H4 λb H5=>
   if b=true then tk σ4 H5 λkk H6=>te σ4 H6 λy H7=>∃key,kk=kV key/\H7 l=some (.dK ys)/\ys.length<sizeLine/\∃m',m'<m/\W (i+1) m' (putK ys key y) (upd H7 l (.dK (putK ys key y)))else ∃m',m'<m/\W (i+1) m' ys H5)
variable{tg kx vx iter:Expr}{ifs:List Expr}{scope:Scope}{pos:Pos}{wi:TI}{g:TG}{tc:TT}{tk te:TE}{N:List Str}{js:List (Option Nat)}
variable{pos':Pos}
theorem pV{use:Option (Value->Sem Unit)}{Q:VK}{QQ:Value->Shared->Prop}(hc:X.calm=true)(hx:X.xe=λ_ _=>False)(hi:PI X tg iter wi)
  (hg:∀C s₀ H₀ ex pn,PG (yw X scope N C s₀ H₀ ex pn) tg g) (ht:∀C s₀ H₀ ex pn,PF (yw X scope N C s₀ H₀ ex pn) ifs tc) (hk:∀C s₀ H₀ ex pn,PE (yw X scope N C s₀ H₀ ex pn) kx tk) (he:∀C s₀ H₀ ex pn,PE (yw X scope N C s₀ H₀ ex pn) vx te) (GL:Bm js g)
  (BI:BQ X.env scope=true) (zD:Ay X.N scope N js=true) (yY:scope.kind=.function) (hs:∀x,aaT iter X.env x=pure x)
  (I:Inv X pins σ H s) (h:OA wi g tc tk te js σ H Q)
  (fin:∀(l C:Addr) (H':Hp) (s':Shared),Inv X pins σ H' s'->Q (.ref l) H'->H' C=none->C≠X.env.locals->X.s₀.heap.objs.size<=C->(∀x c,X.env.cells.lookup x=some c->c≠C)->(∀p∈X.pn++pins,p.1≠C)->(∃m,s'.heap.Ns C m)->aee (model X.prog X.w) X.A E use QQ (.ref l) C (.ok .next) s') :
  wpAny (model X.prog X.w) X.A (comprehension (.DictComp kx vx [⟨tg,iter,ifs,0⟩] scope pos) scope X.env pos' newDict false (eval iter X.env) use) QQ E s:=by
 have SC:=pA BI;have CP:=oI zD;refine wpAny_comprehension_free (cl:=A7 X.env.cells scope.names []) rfl hs (gO (SC.cells I.ok)) yY SC.lc ?_;refine aaK (hi pins s σ H _ I h) (λv s1 h1=>aaK h1 (λNB s2 h2=>?_) (λ_ _ z=>by rw[hx]at z;exact z.elim)) (λ_ _ z=>by rw[hx]at z;exact z.elim);obtain⟨it,fp,tn,J,H2,rfl,I2,T,Jf,f2,hq⟩:=h2;have KJ:H2 s2.heap.objs.size=none:=I2.yL.fresh (aak _);obtain⟨W,⟨m0,w0⟩,turn⟩:=hq s2.heap.objs.size KJ;refine aab (wpAny_alloc (aal (adw (λx hx=>SC.nc x hx) (by intro y hy;simp at hy) (λh₁ hns₁ hsb₁=>?_) yY)));dsimp only at hns₁ hsb₁ ⊢;generalize HS:s2.heap.push ({cls:=.type "dict",data:=.dict #[]}:Obj)=hp3 at hns₁ hsb₁ ⊢;have MJ:hp3.objs.size=s2.heap.objs.size+1:=by rw[<- HS,ach]
 have I3:Inv X pins σ (upd H2 s2.heap.objs.size (.dK [])) {s2 with heap:=hp3}:=by
  rw[<- HS];exact I2.laid (t':=s2.toks) (λb u e=>aad _ e) (aak _) (oz s2.heap I2.RF)
 have keep:∀b o,hp3.get? b=some o->h₁.get? b=some o:=λb o e=>hsb₁.extBut b o (aay (aai e)) (aad _ e);have J3:∀b∈fp,b<s2.heap.objs.size:=λb hb=>by
  obtain⟨o,e,_⟩:=T.obj _ _ Jf b hb;exact aai e
 have f3:∀b∈fp,BH X pins (upd H2 s2.heap.objs.size (.dK [])) b:=λb hb=>⟨by rw[ae (aay (J3 b hb))];exact(f2 b hb).1,(f2 b hb).2⟩
 have J4:=nY (tk:=s2.toks+([]:List (Str×Value)).length) (C:=hp3.objs.size) (fp:=fp) (h₁:=h₁) (scope:=scope) (N:=N) (js:=js) I3 SC CP yY f3 (λb hb=>by show b<hp3.objs.size;rw[MJ];exact abp (J3 b hb)) rfl keep (by simp_all);have Lq:tn 0 h₁:=T.keep _ _ _ Jf λb hb o e=>keep b o (by rw[<- HS];exact aad _ e);have loop:∀s4:Shared,s4={s2 with heap:=h₁,toks:=s2.toks+([]:List (Str×Value)).length} ->
   adn (model X.prog X.w) X.A (.compLoop (.DictComp kx vx [⟨tg,iter,ifs,0⟩] scope pos) 0 (.ref it) (.ref s2.heap.objs.size) (compEnvC scope (A7 X.env.cells scope.names []) hp3.objs.size X.env)) (aee (model X.prog X.w) X.A E use QQ (.ref s2.heap.objs.size) hp3.objs.size) s4:=by
  rintro s4 rfl;generalize hY:yw X scope N hp3.objs.size {s2 with heap:=hp3} (upd H2 s2.heap.objs.size (.dK [])) fp (X.pn++pins)=Y at J4;have J5:∀{H':Hp},(∀b∈fp,H' b=none)->∀b∈fp,BH Y [] H' b:=λhn b hb=>by
   subst hY;refine⟨hn b hb,?_,?_,.inl hb,λx c e=>?_,λp hp=>?_⟩
   .show b≠hp3.objs.size;rw[MJ];exact aay (abp (J3 b hb))
   .intro z;rcases List.mem_cons.mp (I3.BO b z)with q|q
    .exact(f3 b hb).2.1 q
    .exact(f3 b hb).2.2.1 q
   .exact(f3 b hb).2.2.2.2.1 x c (eN (SC.cells I.ok) (λc e=>by simp at e) e)
   .exact(f3 b hb).2.2.2.2.2 p (by simpa[yw]using hp)
  have PC:PG Y tg g:=by subst hY;exact hg _ _ _ _ _
  have Pl:PF Y ifs tc:=by subst hY;exact ht _ _ _ _ _
  have SS:PE Y kx tk:=by subst hY;exact hk _ _ _ _ _
  have PJ:PE Y vx te:=by subst hY;exact he _ _ _ _ _
  have eA:Y.A=X.A:=by subst hY;rfl
  have eP:Y.prog=X.prog:=by subst hY;rfl
  have eW:Y.w=X.w:=by subst hY;rfl
  have eK:Y.K=X.K:=by subst hY;rfl
  have eC:Y.calm=true:=by subst hY;exact hc
  have eX:Y.xe=λ_ _=>False:=by subst hY;rfl
  have eE:Y.env=compEnvC scope (A7 X.env.cells scope.names []) hp3.objs.size X.env:=by subst hY;rfl
  have T':Turn Y.prog Y.w Y.K tg J fp it tn:=by rw[eP,eW,eK];exact T
  have eL:(zv js σ).length=js.length:=by unfold zv;rw[aae]
  rw[<- eP,<- eW,<- eA,<- eE];refine codeAny_loop rfl (λn s'=>∃i ys H',Inv Y [] (zv js σ) H' s'/\tn i s'.heap/\(∀b∈fp,H' b=none)/\W i n ys H') (λn s' hI=>?_) m0 ⟨0,[],_,J4,Lq,λb hb=>(f3 b hb).1,w0⟩;obtain⟨i,ys,H5,I5,Hu,J0,w5⟩:=hI;refine wpAny_noted ?_;rw[compTurn_dict];refine aab (ab4 (aab ?_));have EN:∀(x:Value) (s:Shared) (P:Prop),Y.xe x s->P:=λx s P z=>by rw[eX]at z;exact z.elim
  rcases turn i n ys H5 w5 with ⟨stop,qn⟩|⟨go,step⟩
  .refine aaK (T'.done Y rfl rfl rfl eC i [] s' _ H5 Y.xe I5 (J5 J0) Hu stop) (λr s6 ⟨hr,I6⟩=>?_) λx s z=>EN x s _ z;subst hr;refine aal ?_;show aee _ _ _ _ _ _ _ _ _;rw[eP,eW,eA];have back:Inv X pins σ H5 s6:=by subst hY;exact nZ I3 I6 f3
   have HK:∃m,s6.heap.Ns hp3.objs.size m:=by
    obtain⟨m,hm,_⟩:=I6.loc;have:Y.env.locals=hp3.objs.size:=by rw[eE];rfl
    rw[this]at hm;exact⟨m,hm⟩
   have P7:H5 hp3.objs.size=none:=by
    have:=I6.free;have e:Y.env.locals=hp3.objs.size:=by rw[eE];rfl
    rw[e]at this;exact this
   refine fin s2.heap.objs.size hp3.objs.size H5 s6 back qn P7 ?_ ?_ ?_ ?_ HK
   .exact ab3 I3.lt
   .exact I3.sz
   .intro x c e z;obtain⟨v,o,ho,_⟩:=I3.cell x c e;exact absurd (aai ho) (by rw[z];exact abg _)
   .intro p hp z;have:=aai (I3.pin p hp).1;rw[z]at this;exact absurd this (abg _)
  .refine aaK (T'.item Y rfl rfl rfl eC i [] s' _ H5 Y.xe I5 (J5 J0) Hu go) (λr s6 h6=>?_) λx s z=>EN x s _ z;obtain⟨u,hr,h6⟩:=h6;subst hr;dsimp only;refine aab ?_;refine aaK h6 (λ_ s7 h7=>?_) λx s z=>EN x s _ z;obtain⟨x,H7,I7,r7,y7,Je,Qb⟩:=h7;have Qr:=I7.pinned (J5 Qb) (T.obj _ _ Je);have g7:=GL x (zv js σ) H7 _ (step x H7 y7);refine aab ?_;refine aaK (PC _ s7 (zv js σ) H7 x u _ Qr r7 g7) (λ_ s8 h8=>?_) λx s z=>EN x s _ z;obtain⟨σ8,H8,I8,q8,l8,k8⟩:=h8;refine aab ?_;refine aaK (Pl _ s8 σ8 H8 _ I8 q8) (λb s9 h9=>?_) λx s z=>EN x s _ z;obtain⟨H9,I9,q9⟩:=h9;have again:∀{s':Shared} {H':Hp},Inv Y ([]++CF fp s7.heap) σ8 H' s'->Inv Y [] (zv js σ) H' s'/\tn (i+1) s'.heap/\∀b∈fp,H' b=none:=λ{s' H'} I'=>by
    refine⟨(I'.AZ).weak l8.symm λk v e=>?_,T.keep _ _ _ Je λb hb o e=>(I'.pin (b,o) (aao _ (aao _ (bW hb e)))).1,λb hb=>?_⟩
    .cases ej:js[k]? with
     |none=>
      unfold zv at e;rw[aah,ej]at e;cases e
     |some o=>
      cases o with
      |none=>
       unfold zv at e;rw[aah,ej]at e;cases e
      |some j=>rw[k8 k j ej];exact e
    .obtain⟨o,e,d⟩:=T.obj _ _ Je b hb;exact(I'.pin (b,o) (aao _ (aao _ (bW hb e)))).2.1
   cases b with
   |false=>
    rw[if_neg aaE]at q9;obtain⟨m',hm,w9⟩:=q9;obtain⟨a1,a2,a3⟩:=again I9;exact aal ⟨rfl,m',hm,i+1,ys,H9,a1,a2,a3,w9⟩
   |true=>
    rw[if_pos rfl]at q9;refine aab (aab ?_);refine aaK (SS _ s9 σ8 H9 _ I9 q9) (λkv OJ Qa=>?_) λx s z=>EN x s _ z;obtain⟨kk,NZ,Qs,OR,R6⟩:=Qa;refine aab (aaM ?_);refine aaK (PJ _ OJ σ8 NZ _ Qs R6) (λvv QL P9=>?_) λx s z=>EN x s _ z;obtain⟨yv,Uy,NY,R5,key,ek,NQ,z11,m',hm,RL⟩:=P9;subst ek;refine aab (ab4 (aaM ?_));obtain⟨zz,hd,vs,rel,dd⟩:=kL NY.yL NQ;have hz:vs.length<=sizeLine:=by rw[<- rel.length];exact zz
    have hl:(putK ys key yv).length<=sizeLine:=by have:=db ys key yv;omega
    refine wpAny_dictSet_pairs (hsz:=hz) (eZ OR) dd λh' Hi hs=>?_;have he:∃q,h'.get? s2.heap.objs.size=some q:=let ⟨q,_,_,hq,_⟩:=Hi;⟨q,hq⟩
    have Ux  := iW (t':=QL.toks+1) NY (by rw[NQ];exact abY) hs he (ow hl hd (rel.put key R5) Hi);obtain⟨a1,a2,a3⟩:=again Ux;exact aal ⟨rfl,m',hm,i+1,putK ys key yv,_,a1,a2,a3,RL⟩
 exact codeAny_compStart_dict (loop _ rfl) (T.self X.A 0 _ _ _ Lq (loop _ rfl))
def yc(hi:PI X tg iter wi)(hg:∀C s₀ H₀ ex pn,PG (yw X scope N C s₀ H₀ ex pn) tg g)(ht:∀C s₀ H₀ ex pn,PF (yw X scope N C s₀ H₀ ex pn) ifs tc)(hk:∀C s₀ H₀ ex pn,PE (yw X scope N C s₀ H₀ ex pn) kx tk)(he:∀C s₀ H₀ ex pn,PE (yw X scope N C s₀ H₀ ex pn) vx te)(GL:Bm js g)
  (hc:X.calm=true:=by rfl) (hx:X.xe=(λ_ _=>False):=by rfl) (BI:BQ X.env scope=true:=by rfl) (zD:Ay X.N scope N js=true:=by rfl) (yY:scope.kind=.function:=by rfl) (hs:∀x,aaT iter X.env x=pure x:=by intro _;rfl) :
  PE X (.DictComp kx vx [⟨tg,iter,ifs,0⟩] scope pos) (OA wi g tc tk te js):=by
 intro pins s σ H Q I h;refine pV hc hx hi hg ht hk he GL BI zD yY hs I h λl C H' s' I' q f0 f1 f2 f3 f4 ⟨m,hm⟩=>?_;refine⟨m,hm,λh' sb=>⟨.ref l,H',?_,rfl,q⟩⟩;exact I'.turned (λb o hb e=>sb.extBut b o hb e) f0 f1 (.inr f2) f3 f4
variable{i:Nat}{y:Str}{py:Pos}
def uA{zK:Pos}(hN:X.N.Nodup)(hy:X.N[i]?=some y)(hl:X.env.scope.names.lookup y=some .local)(hi:PI X tg iter wi)(hg:∀C s₀ H₀ ex pn,PG (yw X scope N C s₀ H₀ ex pn) tg g)(ht:∀C s₀ H₀ ex pn,PF (yw X scope N C s₀ H₀ ex pn) ifs tc)(hk:∀C s₀ H₀ ex pn,PE (yw X scope N C s₀ H₀ ex pn) kx tk)(he:∀C s₀ H₀ ex pn,PE (yw X scope N C s₀ H₀ ex pn) vx te)(GL:Bm js g)
  (GG:abK (.DictComp kx vx [⟨tg,iter,ifs,0⟩] scope pos) (some (.Name y py)) zK.line X.env=pure true:=by rfl)
  (hc:X.calm=true:=by rfl) (hx:X.xe=(λ_ _=>False):=by rfl) (BI:BQ X.env scope=true:=by rfl) (zD:Ay X.N scope N js=true:=by rfl) (yY:scope.kind=.function:=by rfl) (hs:∀x,aaT iter X.env x=pure x:=by intro _;rfl) :
  PS X (.Assign [.Name y py] (.DictComp kx vx [⟨tg,iter,ifs,0⟩] scope pos) zK) (EA (OA wi g tc tk te js) (Ax i)):=by
 intro pins s σ H D I h;rw[exec_Assign_Name_used _ _ _ _ GG];refine aab (ab4 (aab ?_));refine aab (aaK (pV hc hx hi hg ht hk he GL BI zD yY hs I h λl C H' s' I' q f0 f1 f2 f3 f4 ⟨m,hm⟩=>?_) (λ_ s' hq=>aal (aal hq)) λ_ _ e=>e);refine adR (gU I' hN hy (.inl hl) (v:=.ref l) rfl (λLs Qt ⟨a,sb,ha⟩=>?_) (.inr hl));have PR:C≠a:=by
  rcases ha with rfl|ha
  .exact f1
  .exact λz=>f3 _ _ ha z.symm
 refine⟨m,hm.sameBut sb PR,λh' OF=>⟨_,H',?_,q⟩⟩;exact Qt.turned (λb o hb e=>OF.extBut b o hb e) f0 f1 (.inr f2) f3 f4
def jr:∀{bs:List Bool} {us:List Value},yz (bs.map V.bl) us->LSm.BoolsAre us bs
 |[],_,r=>by cases r;exact .nil
 |b::bs,_,r=>by
  cases r with
  |cons r1 r2=>cases r1;exact .cons b (jr r2)
def uo(hc:X.calm=true):za X (.builtin "all") (λxs H Q=>∃(p:Addr) (bs:List Bool),xs=[.ref p]/\Ar X.K H p (bs.map V.bl)/\Q (.bl (bs.all id)) H):=by
 intro pins s σ H xs us Q I r h;obtain⟨p,bs,rfl,hq,q⟩:=h;obtain⟨u,rfl,ru⟩:=r.one;cases ru;obtain⟨nE,rv,pl,hz⟩:=I.list hq;have hb:=jr rv;have hl:=pl.isList;have zR:p<s.heap.objs.size:=by obtain⟨_,e,_⟩:=hl;exact aai e
 refine call_all_walk (ac0 hl ⟨s.heap.objs.size,_,_,nE.toArray.size,_,_,λi=>(bs[i]?).getD true,rfl,
  Walks.list (A:=X.A.in1) (I.ok.hd hc) _ p (aay zR) nE.toArray,⟨⟨_,aan _ rfl,rfl,rfl⟩,hl.push _⟩,λi v s' Q' E' hP hQ=>?_,λh' tk hk=>?_⟩)
 .obtain⟨b,eb,rfl⟩:=hb.get i v (by simp_all);simp only[eb]at hQ;exact abf hQ
 .have eb:((aaZ nE.toArray.size).all λi=>(bs[i]?).getD true)=bs.all id:=by
   rw[aam,hb.length,LSm.range_all bs]
  rw[eb];exact⟨.bl _,H,I.kept (LSm.kept_iter hk),rfl,q⟩
structure Ur(h:Heap)(z u o i1 i2 t1 t2:Addr)(n:Nat):Prop where
 zz:IsZip h z u o .none
 uu:IsPair h u (.ref i1) (.ref i2)
 oo:∃a b,IsPair h o a b
 a1:h.IsTupleIter i1 t1 n
 a2:h.IsTupleIter i2 t2 n
variable{t':Nat}{fp:List Addr}
def Inv.E7(I:Inv X pins σ H s)(k:∀b o,b∉fp->s.heap.get? b=some o->h'.get? b=some o)(hf:∀b∈fp,BH X pins H b):Inv X pins σ H {s with heap:=h',toks:=t'}:=by
 have LS:∀b u,H b=some u->b∉fp:=λb u e z=>by rw[(hf b z).1]at e;cases e
 refine I.step (λb hb=>?_) (λb o _ _ hc e _=>k b o hc e) (λb o _ _ hc e _=>⟨o.slots,k b o hc e⟩) (λ_ _ _ _ n=>n)
  (λb o hc e=>⟨o,k b o hc e⟩) (λ_ _ e=>e) (λ_ _ _ e=>e) (λb ps e=>⟨#[],by simp_all⟩) (λm hm=>?_) (λb u e=>?_) I.bare
 .obtain⟨f0,f1,f2,f3,f4,f5⟩:=hf b hb;exact⟨f3,f1,f4,f5⟩
 .obtain⟨o,es,ep,ho,r⟩:=hm;exact⟨o,es,ep,k _ o (λz=>(hf _ z).2.1 rfl) ho,r⟩
 .refine(I.yL b u e).Co (λc v hc q=>k c v ?_ q) (λ_ q=>q) λ_ _ q=>q;rcases hc with z|z
  .rw[z];exact LS b u e
  .exact LS c _ z
def jf{t sl:Addr}{nE:Array Value}{vl vu:Value}{lo hi:Option Int}(g:IsTup s.heap t nE)(hs:s.heap.IsSliceOf sl vl vu .none)(pl:IsPart vl lo)(pu:IsPart vu hi)
  (hw:HT.Ae nE.size 0 lo=0/\HT.Ae nE.size nE.size hi=nE.size) (k:Q (.ref t) s):wpAny (model prog w) A (acV (.ref t) (.ref sl)) Q E s:=by
 obtain⟨q,q1,q2,q3⟩:=id hs;have ty:s.TypeIs (.ref sl) _:=⟨q,q1,q2⟩
 unfold acV;try with_reducible refine aaM ?_
 refine aab (adO g.typeIs (rfl) (aab (ac5 g.typeIs abN (abI abN g.typeIs entry_tuple_getitem ?_ (args_tuple_getitem _ _)))));refine aab (m:=aew _) (tupleItemsOf_ g (aab (wpAny_typeOf ty ?_)));refine aab (HT.AG hs pl pu ?_);show wpAny _ _ (if ((HT.Ae nE.size 0 lo:Int)==0 && 1==1 && (HT.Ae nE.size nE.size hi - HT.Ae nE.size 0 lo)==nE.size)=true then _ else _) _ _ s;rw[if_pos (by simp_all)];refine aab ?_;refine aab (wpAny_typeOf g.typeIs (aal ?_));exact aab (adP (aal ⟨_,rfl,aal k⟩))
def OM(K:aaf):V->Option Int->Option Int->Hp->VK->Prop:=λx lo hi H Q=>∃a xs,x=.ref a/\AF K H a xs /\
 (HT.Ae xs.length 0 lo=0/\HT.Ae xs.length xs.length hi=xs.length->Q (.ref a) H)/\∀p,H p=none->Q (.ref p) (upd H p (.tup (CT xs lo hi)))
def uR:H0 X (OM X.K):=by
 intro pins s σ H x v vl vu lo hi sl Q I rx hs pl pu h;obtain⟨a,xs,rfl,hx,hq,q⟩:=h;by_cases hw:HT.Ae xs.length 0 lo=0/\HT.Ae xs.length xs.length hi=xs.length
 .cases rx;obtain⟨nE,r,ht,hz⟩:=I.tuple hx;have hn:nE.toArray.size=xs.length:=by exact r.length.symm
  refine⟨_,_,PyProof.Rows.slot_tuple_getitem.lookup,ht.typeIs,jf ht hs pl pu (by simp_all) ⟨.ref a,H,I,rfl,hq hw⟩⟩
 .exact wM pins s σ H _ v vl vu lo hi sl Q I rx hs pl pu ⟨a,xs,rfl,hx,hw,q⟩
def qg(hc:wpAny (model prog w) A.in1 (collect x) (λvs s1=>∃(ss:List Str) (h1:Heap) (tk:Nat),s1={s with heap:=h1,toks:=tk}/\StrsAre vs ss/\vs.length<64 /\
   (∀(h2:Heap) (out:List Value) (D0:List Str) (n:Nat),(∀b o,h1.get? b=some o->h2.get? b=some o)->h2.get? h1.objs.size=some (seqObj "list" out.toArray n)->StrsAre out D0->D0.Perm ss->sortedS D0=true->Q (.ref h1.objs.size) {s with heap:=h2,toks:=tk})) E s) :
  wpAny (model prog w) A (call (.builtin "sorted") [x]) Q E s:=by
 refine aeB kind_sorted plain_sorted entry_sorted (args_sorted1 _) ?_;refine aab (aal (aab (aaK hc (λvs s1 hv=>?_) λ_ _ e=>e)));obtain⟨ss,h1,tk,rfl,hS,Bi,k⟩:=hv;refine aab (ab5 ?_ (by rw[aaB];omega));have Qk:(h1.push _).get? h1.objs.size=some (seqObj "list" vs.toArray 0):=aan _ rfl;refine aab (aaM (abI adx ⟨_,Qk,rfl⟩ adk (list_sort_treeK strKind_oneLt Qk hS.keysOf (λv₁ v₂ rest e=>keyKind_strs (by rw[<- e];exact hS)) Bi λst p q=>⟨_,rfl,?_⟩) (aex _)));obtain⟨D0,b1,b2,b3⟩:=sorted_out_str hS p q;obtain⟨n,at2⟩:=sortedHeap_at Qk;refine aal ⟨_,rfl,k _ _ D0 n (λb o e=>?_) (by omega) b1 b2 b3⟩;have lt:=aai e;rw[sortedHeap_old (aay lt) (by rw[size_push'];exact abp lt)];exact aad _ e
theorem nX:∀{gE:List (Key×Value)} {ss:List Str} {vs:List Value},gE.map (·.1)=ss.map aas->vs.length=gE.length->(∀(j:Nat) (v:Value),vs[j]?=some v->∃k x,gE[j]?=some (k,x)/\(aH P w).is k v=true)->StrsAre vs ss
 |[],ss,vs,e,hl,_=>by
  have:ss=[]:=by simp_all
  subst this;have  := List.length_eq_zero_iff.mp hl;subst this;exact .nil
 |(k,x)::r,ss,vs,e,hl,h=>by
  cases ss with
  |nil=>cases e
  |cons y ys=>
   cases vs with
   |nil=>cases hl
   |cons v us=>
    injection e with e1 e2;obtain⟨k',x',e3,e4⟩:=h 0 v rfl;have TJ  := aaq e3;cases TJ;have MO  := e1;subst MO;obtain⟨t,rfl⟩:=Value.isStrOf_shape e4;exact .cons y t (nX e2 (by simp_all) λj u hj=>h (j+1) u hj)
def Js:List V->Hp->VK->Prop:=λxs H Q=>∃(d:Addr) (gE:List (Key×V)) (ss:List Str),xs=[.ref d]/\H d=some (.dK gE)/\gE.map (·.1)=ss.map aas/\ss.length<64 /\
 ∀(l:Addr) (D0:List Str),H l=none->D0.Perm ss->D0.Pairwise (λa b=>¬ zw b a)->Q (.ref l) (upd H l (.lst (D0.map V.str)))
theorem qG(hc:X.calm=true):za X (.builtin "sorted") Js:=by
 intro pins s σ H xs us Q I r h;obtain⟨d,gE,ss,rfl,hd,hk,Bi,k⟩:=h;obtain⟨u,rfl,ru⟩:=r.one;cases ru;obtain⟨hz,lo,vs,SR,hD⟩:=I.yL d _ hd;obtain⟨ep,Td⟩:=hD.dictAt;have IC:vs.map (·.1)=ss.map aas:=by rw[<- hk];exact SR.keys.symm
 have hlen  :=by have:=congrArg ada IC;simpa using this
 refine qg (PySem.W.kdu_collect (PySem.W.kdl_dict lo) (I.ok.hd hc) Td (by rw[aaB];omega) λh1 tk acc kk hit=>?_);have hl:acc.toList.length=vs.length:=by exact hit.1
 have hS  := nX IC hl λj v e=>hit.2 j v (by simp_all);refine⟨ss,h1,tk,rfl,hS,by simp_all,λh2 out D0 n k2 e2 o1 o2 o3=>?_⟩;have I1:Inv X pins σ H {s with heap:=h1,toks:=tk}:=I.kept kk;refine⟨.ref h1.objs.size,_,I1.laid (λb o q=>k2 b o q) (aak _) ?_,rfl,k _ D0 (I1.yL.fresh (aak _)) o2 (jj o3)⟩;exact⟨by rw[aae,o2.length_eq,aaB];omega,out,n,gQ o1,e2⟩
def Jj(P:aaA)(w:World)(a:Addr)(S:Str->Bool)(n:Nat):HO:=.ext λh=>h.SetOf (PySem.strKind P w) a S n
def rF:zC X (aaL .NotIn) (λx y H Q=>∃z a S n,x=.str z/\y=.ref a/\H a=some (Jj X.prog X.w a S n)/\Q (.bl (!S z)) H):=by
 intro pins s σ H x y v u Q I rx ry h;obtain⟨z,a,S,n,rfl,rfl,ha,q⟩:=h;obtain⟨t,rfl⟩:=rx;cases ry;obtain⟨x,_,_⟩:=I.yL a _ ha;exact wpAny_notInSet_of (strKind_is _ _ _ _) rfl x ⟨.bl _,H,I.tok _,rfl,q⟩
def strAt(us:Array Value)(i:Nat):Str:=match us[i]? with|some (.str x _)=>x|_=>⟨#[]⟩
theorem wx{us:Array Value}(hn:∀v∈us,∃x t,v=.str x t):CmpOf prog w A .Gt (λi v=>us[i]?=some v) (λi j=>decide (zw (strAt us j) (strAt us i))):=λi j vi vj s Q E hi hj q=>by
 obtain⟨x,t,rfl⟩:=hn vi (Array.mem_of_getElem? hi);obtain⟨y,t',rfl⟩:=hn vj (Array.mem_of_getElem? hj);have e1:strAt us i=x:=by unfold strAt;rw[hi]
 have e2:strAt us j=y:=by unfold strAt;rw[hj]
 dsimp only at q;rw[e1,e2]at q;exact PySem.richCompare_gives (typeIs_str s x t) (typeIs_str s y t') F.slot_str_gt F.entry_str_gt (F.args_str_gt_2 _ _) (gives_str_gt x y t t') (λe=>nomatch e) q
variable{t:Tok}
def Oo{x:Str}{t':Tok}:∀v∈(#[.str x t,.str y t']:Array Value),∃z u,v=.str z u:=λv hv=>by
 simp only[List.mem_toArray,aca,acD,or_false]at hv;rcases hv with rfl|rfl
 .exact⟨x,t,rfl⟩
 .exact⟨y,t',rfl⟩
def tW{x:Str}{t':Tok}(hh:A.handled=none)(k:∀h' tk,(∀c o,s.heap.get? c=some o->h'.get? c=some o)->Q (if zw x y then .str y t' else .str x t) {s with heap:=h',toks:=tk}):
  wpAny (model prog w) A (call (.builtin "max") [.str x t,.str y t']) Q E s:=by
 have g:(s.heap.push {cls:=.type _,data:=.seq #[.str x t,.str y t']}).IsTuple s.heap.objs.size _:=⟨_,aan _ rfl,rfl,0,rfl⟩
 have sz:(s.heap.push {cls:=.type "tuple",data:=.seq #[.str x t,.str y t']}).objs.size=s.heap.objs.size+1:=ach ..;refine call_max_two (acQ g ⟨_,_,[_],_,_,_,_,rfl,Walks.tuple (A:=A.in1) hh _ s.heap.objs.size (by simp_all) _,
  ⟨⟨_,aan _ rfl,rfl,rfl⟩,g.push _⟩,λc hc=>?_,by simp,wx Oo,λv h' tk hP hk=>?_⟩)
 .rw[ach,sz];simp only[aca,acD,or_false]at hc;rcases hc with rfl|rfl
  .rw[sz];exact aaU _
  .exact abp (aaU _)
 .have old  := λc o e=>by
   refine hk c o (λz=>?_) (aad _ (aad _ e));have lt:=aai e;rw[List.mem_singleton.mp z,sz]at lt;exact abg _ (Nat.lt_of_succ_lt lt)
  have q:=k h' tk old;have ev:v=if zw x y then adH y t' else adH x t:=by
   by_cases c:zw x y
   .simp[argBest,strAt,c]at hP;rw[if_pos c];exact hP.symm
   .simp[argBest,strAt,c]at hP;rw[if_neg c];exact hP.symm
  rw[ev];exact q
def Gz(x y:Str):Str:=if zw x y then y else x
def qH(hc:X.calm=true):za X (.builtin "max") (λxs H Q=>∃x y,xs=[.str x,.str y]/\Q (.str (Gz x y)) H):=by
 intro pins s σ H xs us Q I r h;obtain⟨x,y,rfl,q⟩:=h;obtain⟨u,v,rfl,⟨t,rfl⟩,⟨t',rfl⟩⟩:=vals2 r;refine tW (I.ok.hd hc) λh' tk k=>⟨_,H,I.kept k,?_,q⟩
 unfold Gz
 split<;>exact⟨_,rfl⟩
def NW(x:Str):It:=⟨λi _=>i<x.cps.size,λi H v H'=>H'=H/\∃c,x.cps[i]?=some c/\v=.str ⟨#[c]⟩,λi _=>x.cps.size<=i⟩
def gp(x:Str):ac8 x = "str_ascii_iterator" \/ ac8 x = "str_iterator" :=by
 unfold ac8;split
 .exact .inl rfl
 .exact .inr rfl
variable{K:aaf}
def sO(x:Str)(t:Tok)(it:Addr):Turn P w K tg (NW x) [it] it (λi h=>h.IsStrIter it (ac8 x) x t i) where
 mem:=by simp
 obj:=λi h st b hb=>by
  have e:b=it:=by simpa using hb
  subst e;obtain⟨o,e,c,d⟩:=st;exact⟨o,e,λv z=>by rw[d]at z;cases z⟩
 keep:=λi h h' st k=>by
  obtain⟨o,e,r⟩:=st;exact⟨o,k it (by simp) o e,r⟩
 item:=by
  intro X hP hw hK hc i pins s σ H E I hf st hg;subst hP hw hK;have Hc:i<x.cps.size:=hg;have hx:x.cps[i]?=some x.cps[i]:=by simp[Hc]
  obtain⟨f0,f1,f2,f3,f4,f5⟩:=hf it (by simp);have fin:∀h',h'.IsStrIter it (ac8 x) x t (i+1)->ads it s.heap h'->∃u,some (adH ⟨#[x.cps[i]]⟩ s.toks)=some u /\
    wpAny (model X.prog X.w) X.A (aej tg (.ref it) u) (λ_ s2=>∃y H',Inv X pins σ H' s2/\RelV y u/\(NW x).yld i H y H'/\s2.heap.IsStrIter it (ac8 x) x t (i+1)/\∀b∈[it],H' b=none) E _:=λh' Dt sb=>by
   have I1:Inv X pins σ H {s with heap:=h',toks:=s.toks+1}:=I.turned (λb o hb e=>(sb.2 b hb).trans e) f0 f1 f3 f4 f5;obtain⟨o,e,c,d⟩:=id Dt;refine⟨_,rfl,mZ e c d (by rcases gp x with z|z<;>rw[z]<;>decide) ⟨.str ⟨#[x.cps[i]]⟩,H,I1,⟨_,rfl⟩,⟨rfl,_,hx,rfl⟩,Dt,λb hb=>(hf b hb).1⟩⟩
  rcases gp x with z|z
  .rw[z]at st fin;exact wpAny_pyNext_ascii_item st hx λh' Dt sb=>by simp_all
  .rw[z]at st fin;exact wpAny_pyNext_wide_item st hx λh' Dt sb=>by simp_all
 done:=by
  intro X hP hw hK hc i pins s σ H E I hf st hg;subst hP hw hK;have Hc:x.cps.size<=i:=hg;have hx:x.cps[i]?=none:=by simp[Hc]
  obtain⟨f0,f1,f2,f3,f4,f5⟩:=hf it (by simp);rcases gp x with z|z
  .rw[z]at st;exact wpAny_pyNext_ascii_end (I.ok.hd hc) st hx λh' eb=>⟨rfl,I.turned (t':=s.toks) (λb o hb e=>eb b o hb e) f0 f1 f3 f4 f5⟩
  .rw[z]at st;exact wpAny_pyNext_wide_end (I.ok.hd hc) st hx λh' eb=>⟨rfl,I.turned (t':=s.toks) (λb o hb e=>eb b o hb e) f0 f1 f3 f4 f5⟩
 self:=λA i s Q E st h=>by
  obtain⟨o,e,c,d⟩:=st;rcases gp x with z|z
  .rw[z]at c;exact wpAny_pyIter_slot (T := "str_ascii_iterator") ⟨o,e,c⟩ ad9 (abI ad9 ⟨o,e,c⟩ F.entry_str_ascii_iterator_iter (aal ⟨_,rfl, "str_ascii_iterator",_,⟨o,e,c⟩,F.slot_str_ascii_iterator_next.lookup,h⟩) (F.args_str_ascii_iterator_iter_1 _))
  .rw[z]at c;exact wpAny_pyIter_slot (T := "str_iterator") ⟨o,e,c⟩ F.slot_str_iterator_iter (abI F.slot_str_iterator_iter ⟨o,e,c⟩ F.entry_str_iterator_iter (aal ⟨_,rfl, "str_iterator",_,⟨o,e,c⟩,F.slot_str_iterator_next.lookup,h⟩) (F.args_str_iterator_iter_1 _))
def Pa(tl:TE):TI:=λσ H R=>tl σ H λx H1=>∃z,x=.str z/\R (NW z) H1
def wS{l:Expr}{tl:TE}(hl:PE X l tl):PI X tg l (Pa tl):=by
 refine λpins s σ H R I h=>zk (hl pins s σ H _ I h) λv s1 ⟨x,H1,I1,r1,q1⟩=>?_;obtain⟨z,rfl,q⟩:=q1;obtain⟨t,rfl⟩:=r1;refine wpAny_pyIter_strU ⟨s1.heap.objs.size,_,_,_,H1,rfl,I1.kept λb o e=>aad _ e,sO z t _,⟨_,aan _ rfl,rfl,rfl⟩,λb hb=>?_,q⟩;have e:b=s1.heap.objs.size:=by simp_all
 subst e;exact I1.FH (aak _) (I1.yL.fresh (aak _))
theorem rH:zC X (aaL .LtE) (λx y H Q=>∃i j,x=.str i/\y=.str j/\Q (.bl (!decide (j.cps.toList<i.cps.toList))) H):=by
 intro pins s σ H x y v u Q I rx ry h;obtain⟨i,j,rfl,rfl,q⟩:=h;obtain⟨t,rfl⟩:=rx;obtain⟨t',rfl⟩:=ry;exact PySem.P.le_str ⟨.bl _,H,I,rfl,q⟩
def xk:zC X (aaL .Is) (λx y H Q=>∃a b,x=.bl a/\y=.bl b/\Q (.bl (a==b)) H):=by
 intro pins s σ H x y v u Q I rx ry h;obtain⟨a,b,rfl,rfl,q⟩:=h;cases rx;cases ry;exact is_bool ⟨.bl _,H,I,rfl,q⟩
def Ip(K:aaf):R2:=λx y H Q=>∃a b xs ys,x=.ref a/\y=.ref b/\AF K H a xs/\AF K H b ys/\xs.length+ys.length<=sizeLine /\
 (xs=[]->Q (.ref b) H)/\(ys=[]->Q (.ref a) H)/\∀p,H p=none->Q (.ref p) (upd H p (.tup (xs++ys)))
def vm:zC X (abR .Add) (Ip X.K):=by
 intro pins s σ H x y v u Q I rx ry h;obtain⟨a,b,xs,ys,rfl,rfl,ha,hb,hz,q0,q1,q2⟩:=h;by_cases hx:xs=[]
 .cases rx;cases ry;obtain⟨nE,r1,p1,_⟩:=I.tuple ha;obtain⟨Aa,r2,p2,_⟩:=I.tuple hb;subst hx;cases r1;obtain⟨⟨c1,d1,e1,l1⟩,g1,g2,n,g3⟩:=id p1;obtain⟨⟨c2,d2,e2,l2⟩,k1,k2,n2,k3⟩:=id p2;subst g2 g3 k2 k3;exact concat_meets ⟨_,g1,rfl⟩ ⟨_,k1,rfl⟩ aeb seq_tuple_add ade ac9 (ac1 _ _)
   (tuple_addW0 a b _ _ n n2 d1 d2 l1 l2 (by simp)) ⟨g1,k1,⟨.ref b,H,I,rfl,q0 rfl⟩⟩
 .exact vn pins s σ H _ _ v u Q I rx ry ⟨a,b,xs,ys,rfl,rfl,ha,hb,hx,hz,q1,λ_=>q2⟩
variable{e st:Expr}{RT:TE}{p2:Pos}
end L2
namespace PySem
open Sem (wp)
open PySem.Spec PyProof.Rows
section
variable{prog:aaA}{w:World}{K:Type}[DecidableEq K]{knd:KeyKind prog w K}{A:Around}{R:Result->Shared->Prop}
end
section
variable{prog:aaA}{w:World}{K:Type}[DecidableEq K]{knd:KeyKind prog w K}{A:Around}{E:Value->Shared->Prop}{s:Shared}
end
end PySem
namespace L2
open PySem PySem.Spec PyProof.Rows
variable{X:Cx}
end L2
namespace Q
open PySem L2
inductive PV where
 |yB|bl (b:Bool)|int (i:Int)|str (x:Str)|tup (xs:List PV)|lst (xs:List PV)|zh (gE:List (Key×PV))|set (xs:List Str)|Ba (ns:List Int)
def Eg(K:aaf)(F:Hp)(a:Addr)(ns:List Int):Prop:=(∃o,F a=some (.Bf o (.lst (ns.map V.int)))) \/
 ∃(o:Obj) (nE:Array Value) (n:Nat),K.lookup a=some o/\o.cls=.type "list" /\ o.dict=none/\o.data=.seq nE n/\nE.size<=sizeLine/\yz (ns.map V.int) nE.toList
mutual
inductive Rep (K:aaf) (F:Hp):V->PV->Prop where
 |yB:Rep K F .yB .yB
 |bl (b:Bool):Rep K F (.bl b) (.bl b)
 |int (i:Int):Rep K F (.int i) (.int i)
 |str (x:Str):Rep K F (.str x) (.str x)
 |tup {a:Addr} {vs:List V} {xs:List PV}:AF K F a vs->yA K F vs xs->Rep K F (.ref a) (.tup xs)
 |lst {a:Addr} {vs:List V} {xs:List PV}:F a=some (.lst vs)->yA K F vs xs->Rep K F (.ref a) (.lst xs)
 |zh {a:Addr} {vs:List (Key×V)} {xs:List (Key×PV)}:F a=some (.dK vs)->yC K F vs xs->Rep K F (.ref a) (.zh xs)
 |Ba {a:Addr} {ns:List Int}:Eg K F a ns->Rep K F (.ref a) (.Ba ns)
inductive yA (K:aaf) (F:Hp):List V->List PV->Prop where
 |nil:yA K F [] []
 |cons {v:V} {x:PV} {vs:List V} {xs:List PV}:Rep K F v x->yA K F vs xs->yA K F (v::vs) (x::xs)
inductive yC (K:aaf) (F:Hp):List (Key×V)->List (Key×PV)->Prop where
 |nil:yC K F [] []
 |cons {k:Key} {v:V} {x:PV} {vs:List (Key×V)} {xs:List (Key×PV)}:Rep K F v x->yC K F vs xs->yC K F ((k,v)::vs) ((k,x)::xs)
end
variable{K:aaf}{F F' H:Hp}
variable{a:Addr}
def dN{xs:List V}(s:eQ F F')(h:Ar K F a xs):Ar K F' a xs:=by
 rcases h with (h|⟨o,h⟩)|h
 .exact .inl (.inl (s _ _ h))
 .exact .inl (.inr ⟨o,s _ _ h⟩)
 .exact .inr h
def aw{xs:List V}(s:eQ F F')(h:AF K F a xs):AF K F' a xs:=by
 rcases h with (h|⟨o,h⟩)|h
 .exact .inl (.inl (s _ _ h))
 .exact .inl (.inr ⟨o,s _ _ h⟩)
 .exact .inr h
variable{ns:List Int}
def jC(s:eQ F F')(h:Eg K F a ns):Eg K F' a ns:=by
 rcases h with ⟨o,h⟩|h
 .exact .inl ⟨o,s _ _ h⟩
 .exact .inr h
def Eg.sq(h:Eg K F a ns):Ar K F a (ns.map V.int):=by
 rcases h with ⟨o,h⟩|h
 .exact .inl (.inr ⟨o,h⟩)
 .exact .inr h
variable{v:V}{x:PV}
def Rep.mono(s:eQ F F')(h:Rep K F v x):Rep K F' v x :=
 Rep.rec
  .yB .bl .int .str (λa _ b=>.tup (aw s a) b) (λa _ b=>.lst (s _ _ a) b) (λa _ b=>.zh (s _ _ a) b) (λa=>.Ba (jC s a)) .nil (λ_ _ a b=>.cons a b) .nil (λ_ _ a b=>.cons a b) h
variable{vs:List V}{xs:List PV}
def yA.mono(s:eQ F F')(h:yA K F vs xs):yA K F' vs xs :=
 yA.rec
  .yB .bl .int .str (λa _ b=>.tup (aw s a) b) (λa _ b=>.lst (s _ _ a) b) (λa _ b=>.zh (s _ _ a) b) (λa=>.Ba (jC s a)) .nil (λ_ _ a b=>.cons a b) .nil (λ_ _ a b=>.cons a b) h
def yC.mono{vs:List (Key×V)}{xs:List (Key×PV)}(s:eQ F F')(h:yC K F vs xs):yC K F' vs xs :=
 yC.rec
  .yB .bl .int .str (λa _ b=>.tup (aw s a) b) (λa _ b=>.lst (s _ _ a) b) (λa _ b=>.zh (s _ _ a) b) (λa=>.Ba (jC s a)) .nil (λ_ _ a b=>.cons a b) .nil (λ_ _ a b=>.cons a b) h
def yA.ind{motive:∀vs xs,yA K F vs xs->Prop}(h:yA K F vs xs)(nil:motive [] [] .nil)(cons:∀{v x vs xs} (a:Rep K F v x) (r:yA K F vs xs),motive vs xs r->motive (v::vs) (x::xs) (.cons a r)):motive vs xs h :=
 yA.rec (motive_1:=λ_ _ _=>True) (motive_3:=λ_ _ _=>True)
  trivial (λ_=>trivial) (λ_=>trivial) (λ_=>trivial) (λ_ _ _=>trivial) (λ_ _ _=>trivial) (λ_ _ _=>trivial) (λ_=>trivial) nil (λa r _ b=>cons a r b) trivial (λ_ _ _ _=>trivial) h
def yC.ind{motive:∀vs xs,yC K F vs xs->Prop}{vs:List (Key×V)}{xs:List (Key×PV)}(h:yC K F vs xs)(nil:motive [] [] .nil)(cons:∀{k v x vs xs} (a:Rep K F v x) (r:yC K F vs xs),motive vs xs r->motive ((k,v)::vs) ((k,x)::xs) (.cons a r)):motive vs xs h :=
 yC.rec (motive_1:=λ_ _ _=>True) (motive_2:=λ_ _ _=>True)
  trivial (λ_=>trivial) (λ_=>trivial) (λ_=>trivial) (λ_ _ _=>trivial) (λ_ _ _=>trivial) (λ_ _ _=>trivial) (λ_=>trivial) trivial (λ_ _ _ _=>trivial) nil (λa r _ b=>cons a r b) h
def yA.len(h:yA K F vs xs):vs.length=xs.length:=by
 induction h using yA.ind with
 |nil=>rfl
 |cons _ _ ih=>exact congrArg _ ih
variable{i:Nat}
def yA.get(h:yA K F vs xs)(e:xs[i]?=some x):∃v,vs[i]?=some v/\Rep K F v x:=by
 induction h using yA.ind generalizing i with
 |nil=>cases e
 |cons a _ ih=>cases i with
  |zero=>cases e;exact⟨_,rfl,a⟩
  |succ i=>exact ih e
def yA.GP(h:yA K F vs xs)(e:vs[i]?=some v):∃x,xs[i]?=some x/\Rep K F v x:=by
 induction h using yA.ind generalizing i with
 |nil=>cases e
 |cons a _ ih=>cases i with
  |zero=>cases e;exact⟨_,rfl,a⟩
  |succ i=>exact ih e
variable{ws:List V}
def yA.app{ys:List PV}(h:yA K F vs xs)(k:yA K F ws ys):yA K F (vs++ws) (xs++ys):=by
 induction h using yA.ind with
 |nil=>exact k
 |cons a _ ih=>exact .cons a ih
def yA.take(n:Nat)(h:yA K F vs xs):yA K F (vs.take n) (xs.take n):=by
 induction h using yA.ind generalizing n with
 |nil=>cases n<;>exact .nil
 |cons a _ ih=>cases n with
  |zero=>exact .nil
  |succ n=>exact .cons a (ih n)
def yA.drop(n:Nat)(h:yA K F vs xs):yA K F (vs.drop n) (xs.drop n):=by
 induction h using yA.ind generalizing n with
 |nil=>cases n<;>exact .nil
 |cons a r ih=>cases n with
  |zero=>exact .cons a r
  |succ n=>exact ih n
def yA.OE(n:Nat)(k:Rep K F v x)(h:yA K F vs xs):yA K F (vs.set n v) (xs.set n x):=by
 induction h using yA.ind generalizing n with
 |nil=>exact .nil
 |cons a r ih=>cases n with
  |zero=>exact .cons k r
  |succ n=>exact .cons a (ih n)
def yC.len{vs:List (Key×V)}{xs:List (Key×PV)}(h:yC K F vs xs):vs.length=xs.length:=by
 induction h using yC.ind with
 |nil=>rfl
 |cons _ _ ih=>exact congrArg _ ih
def yC.keys{vs:List (Key×V)}{xs:List (Key×PV)}(h:yC K F vs xs):vs.map (·.1)=xs.map (·.1):=by
 induction h using yC.ind with
 |nil=>rfl
 |cons _ _ ih=>exact congrArg _ ih
structure Sl where
 k:Nat
 v:PV
abbrev En:=List (Option Sl)
structure zP where
 P:Hp->Hp->Addr->List Addr->PV->Prop
 mono:∀F F' H H' a l x,P F H a l x->eQ F F'->(∀c∈l,H' c=H c)->P F' H' a l x
structure Md where
 P:aaA
 w:World
 K:aaf
 ob:zP
structure Zn where
 H₀:Hp
 F₀:Hp
 S:List Addr
 oa:Nat->Option Addr:=λ_=>none
 sS:∀b∈S,H₀ b≠none
def AV(M:Md)(F H:Hp)(a:Addr):PV->Prop
 |.lst xs=>∃vs,H a=some (.lst vs)/\yA M.K F vs xs
 |.zh xs=>∃vs,H a=some (.dK vs)/\yC M.K F vs xs
 |.set xs=>H a=some (Jj M.P M.w a (λs=>decide (s∈xs)) xs.length)
 |_=>False
variable{M:Md}{H':Hp}
def AV.mono(s:eQ F F')(e:H' a=H a)(h:AV M F H a x):AV M F' H' a x:=by
 cases x<;>try exact h.elim
 .obtain⟨vs,h1,h2⟩:=h;exact⟨vs,e.trans h1,h2.mono s⟩
 .obtain⟨vs,h1,h2⟩:=h;exact⟨vs,e.trans h1,h2.mono s⟩
 .exact e.trans h
def CY(M:Md)(Z:Zn)(F H:Hp)(v:V)(s:Sl)(fp:List Addr):Prop :=
 (s.k=0/\fp=[]/\Rep M.K F v s.v)\/(s.k=1/\∃a,v=.ref a/\fp=[a]/\Z.H₀ a=none/\AV M F H a s.v) \/
 ((s.k=2\/s.k=4)/\∃a,v=.ref a/\(∀c∈fp,c∈Z.S\/Z.H₀ c=none)/\M.ob.P F H a fp s.v) \/
 (s.k=3/\∃a,v=.ref a/\fp=[a]/\a∈Z.S/\AV M F H a s.v)
structure Slots(M:Md)(Z:Zn)(F:Hp)(σ:St)(H:Hp)(env:En)(fp:Nat->List Addr):Prop where
 at':∀i s,env[i]?=some (some s)->∃v,σ[i]?=some (some v)/\CY M Z F H v s (fp i)
 al:∀i a,a∈fp i->H a≠none/\F a=none
 dj:∀i j a,i≠j->a∈fp i->a∉fp j
 oa:∀i a s,Z.oa i=some a->env[i]?=some (some s)->s.k=2->σ[i]?=some (some (.ref a))
structure yx(M:Md)(Z:Zn)(F:Hp)(σ:St)(H:Hp)(env:En):Prop where
 sF:eQ F H
 sG:∀b o,Z.H₀ b=some o->b∉Z.S->H b=some o
 pr:∀b,Z.H₀ b≠none->H b≠none
 gr:eQ Z.F₀ F
 nw:∀a,F a≠none->Z.F₀ a≠none\/Z.H₀ a=none
 len:env.length=σ.length
 sl:∃fp,Slots M Z F σ H env fp
variable{Z:Zn}{σ:St}{env:En}{s:Sl}{fp:List Addr}
def CY.mono(s1:eQ F F')(e:∀c∈fp,H' c=H c)(h:CY M Z F H v s fp):CY M Z F' H' v s fp:=by
 rcases h with ⟨a,b,c⟩|⟨a,p,rfl,rfl,c,d⟩|⟨a,p,rfl,c,d⟩|⟨a,p,rfl,rfl,c,d⟩
 .exact .inl ⟨a,b,c.mono s1⟩
 .exact .inr (.inl ⟨a,p,rfl,rfl,c,d.mono s1 (e p (by simp))⟩)
 .exact .inr (.inr (.inl ⟨a,p,rfl,c,M.ob.mono _ _ _ _ _ _ _ d s1 e⟩))
 .exact .inr (.inr (.inr ⟨a,p,rfl,rfl,c,d.mono s1 (e p (by simp))⟩))
def ak:eQ H H:=λ_ _ h=>h
def ah{A B C:Hp}(x:eQ A B)(y:eQ B C):eQ A C:=λa o h=>y a o (x a o h)
variable{p:Addr}{o:HO}
def aA(h:F p=none):eQ F (upd F p o):=λa u e=>by rw[ae (au e h)];exact e
def eQ.none_of{A B:Hp}(s:eQ A B)(h:B a=none):A a=none:=by
 cases e:A a with
 |none=>rfl
 |some o=>rw[s a o e]at h;cases h
def Slots.move{fp:Nat->List Addr}(L:Slots M Z F σ H env fp)(s1:eQ F F')(s3:∀i c o,c∈fp i->H c=some o->H' c=some o)(nw:∀a,F' a≠none->F a≠none\/H a=none):Slots M Z F' σ H' env fp:=by
 refine⟨λi s h=>?_,λi a h=>?_,L.dj,L.oa⟩
 .obtain⟨v,h1,h2⟩:=L.at' i s h;refine⟨v,h1,h2.mono s1 λc hc=>?_⟩;cases e:H c with
  |none=>exact absurd e (L.al i c hc).1
  |some o=>exact s3 i c o hc e
 .obtain⟨h1,h2⟩:=L.al i a h;constructor
  .cases e:H a with
   |none=>exact absurd e h1
   |some o=>rw[s3 i a o h e];simp
  .cases e:F' a with
   |none=>rfl
   |some o=>
    rcases nw a (by simp_all)with z|z
    .exact absurd h2 z
    .exact absurd z h1
variable{l:List Addr}
theorem Slots.put{fp:Nat->List Addr}(L:Slots M Z F σ H env fp)(hk:s.k≠2)(hi:i<σ.length)(h:CY M Z F H v s l)(al:∀a∈l,H a≠none/\F a=none)(dj:∀j a,j≠i->a∈l->a∉fp j):
  Slots M Z F (σ.set i (some v)) H (env.set i (some s)) (λj=>if j=i then l else fp j):=by
 refine⟨λj t e=>?_,λj a e=>?_,λj k a Er e z=>?_,λj a t e1 e2 e3=>?_⟩;case refine_4=>
  by_cases q:j=i
  .subst q;rw[abv]at e2;simp only[if_true]at e2;split at e2
   .cases e2;exact absurd e3 hk
   .cases e2
  .rw[aav (abm q)]at e2;rw[aav (abm q)];exact L.oa j a t e1 e2 e3
 .by_cases q:j=i
  .subst q;rw[abv]at e;simp only[if_true]at e;split at e
   .first|(done)|cases e
    exact⟨v,by simp_all,by simp_all⟩
   .first|(done)|cases e
  .rw[aav (abm q)]at e;rw[aav (abm q),if_neg q];exact L.at' j t e
 .by_cases q:j=i
  .rw[if_pos q]at e;exact al a e
  .rw[if_neg q]at e;exact L.al j a e
 .by_cases q:j=i
  .rw[if_pos q]at e;rw[if_neg (λy=>Er (q.trans y.symm))]at z;exact dj k a (λy=>Er (q.trans y.symm)) e z
  .rw[if_neg q]at e;by_cases q2:k=i
   .rw[if_pos q2]at z;exact dj j a q z e
   .rw[if_neg q2]at z;exact L.dj j k a Er e z
theorem Slots.push{fp:Nat->List Addr}(L:Slots M Z F σ H env fp)(hk:s.k≠2)(hn:env.length=σ.length)(h:CY M Z F H v s l)(al:∀a∈l,H a≠none/\F a=none)(dj:∀j a,a∈l->a∉fp j):
  Slots M Z F (σ++[some v]) H (env++[some s]) (λj=>if j=env.length then l else fp j):=by
 refine⟨λj t e=>?_,λj a e=>?_,λj k a Er e z=>?_,λj a t e1 e2 e3=>?_⟩;case refine_4=>
  by_cases q:j=env.length
  .subst q;simp at e2;subst e2;exact absurd e3 hk
  .have hj:j<env.length:=by
    have:j<(env++[some s]).length:=by
     rcases aaX j _ with y|y
     .exact y
     .rw[aap y]at e2;cases e2
    simp at this;omega
   rw[aat hj]at e2;rw[aat (by omega)];exact L.oa j a t e1 e2 e3
 .by_cases q:j=env.length
  .subst q;simp at e;exact⟨v,by simp_all,by simp_all⟩
  .rw[if_neg q];have hj:j<env.length:=by
    have:j<(env++[some s]).length:=by
     rcases aaX j _ with y|y
     .exact y
     .rw[aap y]at e;cases e
    simp at this;omega
   rw[aat hj]at e;rw[aat (by omega)];exact L.at' j t e
 .by_cases q:j=env.length
  .rw[if_pos q]at e;exact al a e
  .rw[if_neg q]at e;exact L.al j a e
 .by_cases q:j=env.length
  .rw[if_pos q]at e;rw[if_neg (λy=>Er (q.trans y.symm))]at z;exact dj k a e z
  .rw[if_neg q]at e;by_cases q2:k=env.length
   .rw[if_pos q2]at z;exact dj j a z e
   .rw[if_neg q2]at z;exact L.dj j k a Er e z
theorem Slots.drop{fp:Nat->List Addr}(L:Slots M Z F (σ++[some v]) H (env++[some s]) fp)(hn:env.length=σ.length):Slots M Z F σ H env fp:=by
 have lt:∀{j:Nat} {t:Sl},env[j]?=some (some t)->j<env.length:=λ{j t} e=>by
  rcases aaX j env.length with y|y
  .exact y
  .rw[aap y]at e;cases e
 refine⟨λj t e=>?_,L.al,L.dj,λj a t e1 e2 e3=>?_⟩
 .have hj:=lt e;obtain⟨v',h1,h2⟩:=L.at' j t (by rw[aat hj];exact e);rw[aat (by omega)]at h1;exact⟨v',h1,h2⟩
 .have hj:=lt e2;have:=L.oa j a t e1 (by rw[aat hj];exact e2) e3;rw[aat (by omega)]at this;exact this
def Slots.last{fp:Nat->List Addr}(L:Slots M Z F (σ++[some v]) H (env++[some s]) fp)(hn:env.length=σ.length):CY M Z F H v s (fp env.length):=by
 obtain⟨v',h1,h2⟩:=L.at' env.length s (by simp);rw[hn]at h1;simp at h1;subst h1;exact h2
def yx.h0(K:yx M Z F σ H env)(h:H a=none):Z.H₀ a=none:=by
 cases e:Z.H₀ a with
 |none=>rfl
 |some o=>exact absurd h (K.pr a (by simp_all))
def yx.move(K:yx M Z F σ H env)(s1:eQ F F')(s2:eQ F' H')(s3:eQ H H')(nw:∀a,F' a≠none->F a≠none\/H a=none):yx M Z F' σ H' env:=by
 obtain⟨fp,L⟩:=K.sl;refine⟨s2,λb o h1 h2=>s3 b o (K.sG b o h1 h2),λb h=>?_,ah K.gr s1,λa h=>?_,K.len,fp,L.move s1 (λ_ c o _ e=>s3 c o e) nw⟩
 .cases e:H b with
  |none=>exact absurd e (K.pr b h)
  |some o=>rw[s3 b o e];simp
 .rcases nw a h with h1|h1
  .exact K.nw a h1
  .exact .inr (K.h0 h1)
def yx.lay(K:yx M Z F σ H env)(h:H p=none):yx M Z (upd F p o) σ (upd H p o) env:=by
 have hF  := eQ.none_of K.sF h;refine K.move (aA hF) (λa u e=>?_) (aA h) λa e=>?_
 .by_cases q:a=p
  .subst q;rw[aj]at e ⊢;exact e
  .rw[ae q]at e ⊢;exact K.sF a u e
 .by_cases q:a=p
  .subst q;exact .inr h
  .rw[ae q]at e;exact .inl e
def yx.slots{σ':St}{dO:En}{fp:Nat->List Addr}(K:yx M Z F σ H env)(hn:dO.length=σ'.length)(L:Slots M Z F σ' H dO fp):yx M Z F σ' H dO:=⟨K.sF,K.sG,K.pr,K.gr,K.nw,hn,fp,L⟩
theorem yx.own(K:yx M Z F σ H env)(h:H p=none)(hx:AV M F (upd H p o) p x):yx M Z F (σ++[some (.ref p)]) (upd H p o) (env++[some ⟨1,x⟩]):=by
 have hF  := eQ.none_of K.sF h;have K1:yx M Z F σ (upd H p o) env:=K.move ak (λa u e=>by rw[ae (au e hF)];exact K.sF a u e) (aA h) λa e=>.inl e;obtain⟨fp,L⟩:=K.sl;have L1:Slots M Z F σ (upd H p o) env fp:=L.move ak (λ_ c u _ e=>aA h c u e) λa e=>.inl e;refine K1.slots (by simp[K.len]) (L1.push (by simp) K.len (.inr (.inl ⟨rfl,p,rfl,rfl,K.h0 h,hx⟩)) (λa ha=>?_) λj a ha hj=>?_)
 .simp at ha;subst ha;exact⟨by rw[aj];simp,hF⟩
 .simp at ha;subst ha;exact(L.al j a hj).1 h
def yx.drop(K:yx M Z F (σ++[some v]) H (env++[some s])):yx M Z F σ H env:=by
 have hn  :=by have:=K.len;simpa using this
 obtain⟨fp,L⟩:=K.sl;exact K.slots hn (L.drop hn)
def AV.rep(h:AV M F H a x)(hx:∀xs,x≠.set xs)(hF:F a=none)(ho:H a=some o):Rep M.K (upd F a o) (.ref a) x:=by
 have s1:eQ F (upd F a o):=aA hF;cases x<;>try exact h.elim
 .obtain⟨vs,h1,h2⟩:=h;rw[ho]at h1;cases h1;exact .lst aj (h2.mono s1)
 .obtain⟨vs,h1,h2⟩:=h;rw[ho]at h1;cases h1;exact .zh aj (h2.mono s1)
 .exact absurd rfl (hx _)
theorem yx.Bf{fp:Nat->List Addr}{σ':St}{dO:En}(K:yx M Z F σ H env)(L:Slots M Z F σ H env fp)(hf:fp i=[a])(h0:Z.H₀ a=none)(ho:H a=some o)
  (hn:dO.length=σ'.length) (hs:∀j s,j≠i->dO[j]?=some (some s)->env[j]?=some (some s)/\σ'[j]?=σ[j]?)
  (hi:∀s,dO[i]?=some (some s)->∃v,σ'[i]?=some (some v)/\s.k=0/\Rep M.K (upd F a o) v s.v):yx M Z (upd F a o) σ' H dO:=by
 have ha:=L.al i a (by simp_all);have s1:eQ F (upd F a o):=aA ha.2;refine⟨λb u e=>?_,K.sG,K.pr,ah K.gr s1,λb e=>?_,hn,λj=>if j=i then []else fp j,λj s h=>?_,λj b h=>?_,λj k b Er h z=>?_,λj b t e1 e2 e3=>?_⟩
 .by_cases q:b=a
  .subst q;rw[aj]at e;cases e;exact ho
  .rw[ae q]at e;exact K.sF b u e
 .by_cases q:b=a
  .subst q;exact .inr h0
  .rw[ae q]at e;exact K.nw b e
 .by_cases q:j=i
  .subst q;obtain⟨v,h1,h2,h3⟩:=hi s h;exact⟨v,h1,.inl ⟨h2,if_pos rfl,h3⟩⟩
  .obtain⟨e1,e2⟩:=hs j s q h;obtain⟨v,h1,h2⟩:=L.at' j s e1;exact⟨v,by simp_all,by rw[if_neg q];exact h2.mono s1 λ_ _=>rfl⟩
 .by_cases q:j=i
  .rw[if_pos q]at h;simp at h
  .rw[if_neg q]at h;have hb:=L.al j b h;have:b≠a:=λz=>L.dj j i b q h (by simp_all);exact⟨hb.1,by rw[ae this];exact hb.2⟩
 .by_cases q:j=i
  .rw[if_pos q]at h;simp at h
  .rw[if_neg q]at h;by_cases q2:k=i
   .rw[if_pos q2]at z;simp at z
   .rw[if_neg q2]at z;exact L.dj j k b Er h z
 .by_cases q:j=i
  .subst q;obtain⟨_,_,h2,_⟩:=hi t e2;rw[e3]at h2;cases h2
  .obtain⟨f1,f2⟩:=hs j t q e2;rw[f2];exact L.oa j b t e1 f1 e3
def cg(h:H a≠none):∃o,H a=some o:=by
 cases e:H a with
 |none=>exact absurd e h
 |some o=>exact⟨o,rfl⟩
theorem yx.Fk(K:yx M Z F (σ++[some v]) H (env++[some ⟨1,x⟩]))(hx:∀xs,x≠.set xs):∃F',eQ F F'/\yx M Z F' σ H env/\Rep M.K F' v x:=by
 have hn  :=by have:=K.len;simpa using this
 obtain⟨fp,L⟩:=K.sl;rcases L.last hn with ⟨e,_⟩|⟨_,a,rfl,hf,h0,hw⟩|⟨e,_⟩|⟨e,_⟩
 .first|(done)|cases e
 .have ha:=L.al env.length a (by simp_all);obtain⟨o,ho⟩:=cg ha.1;refine⟨_,aA ha.2,K.Bf L hf h0 ho hn (λj s _ e=>?_) (λs e=>?_),hw.rep hx ha.2 ho⟩
  .have hj:j<env.length:=by
    rcases aaX j env.length with y|y
    .exact y
    .rw[aap y]at e;cases e
   rw[aat hj,aat (by omega)];exact⟨e,rfl⟩
  .simp at e
 .first|(revert e;simp)|cases e
 .first|(done)|cases e
def yx.freeze(K:yx M Z F σ H env)(hi:env[i]?=some (some ⟨1,x⟩))(hx:∀xs,x≠.set xs):∃F' v,σ[i]?=some (some v)/\eQ F F'/\yx M Z F' σ H (env.set i (some ⟨0,x⟩))/\Rep M.K F' v x:=by
 obtain⟨fp,L⟩:=K.sl;obtain⟨v,hv,h⟩:=L.at' i _ hi;rcases h with ⟨e,_⟩|⟨_,a,rfl,hf,h0,hw⟩|⟨e,_⟩|⟨e,_⟩
 .first|(done)|cases e
 .have ha:=L.al i a (by simp_all);obtain⟨o,ho⟩:=cg ha.1;refine⟨_,_,hv,aA ha.2,K.Bf L hf h0 ho (by simp[K.len]) (λj s q e=>?_) (λs e=>?_),hw.rep hx ha.2 ho⟩
  .rw[aav (abm q)]at e;exact⟨e,rfl⟩
  .rw[abv]at e;simp only[if_true]at e;split at e
   .first|(done)|cases e
    exact⟨_,hv,rfl,hw.rep hx ha.2 ho⟩
   .first|(done)|cases e
 .first|(revert e;simp)|cases e
 .first|(done)|cases e
def yx.put(K:yx M Z F σ H env)(h:Rep M.K F v x):yx M Z F (σ.set i (some v)) H (env.set i (some ⟨0,x⟩)):=by
 obtain⟨fp,L⟩:=K.sl;rcases aaX i env.length with hi|hi;case inr=>
  rw[aa8 hi,aa8 (by have:=K.len;omega)];exact K
 exact K.slots (by simp[K.len]) (L.put (by simp) (by have:=K.len;omega) (.inl ⟨rfl,rfl,h⟩) (λa h=>by simp at h) λj a _ h=>by simp at h)
theorem yx.take(K:yx M Z F (σ++[some v]) H (env++[some s]))(hk:s.k≠2:=by simp):yx M Z F (σ.set i (some v)) H (env.set i (some s)):=by
 have hn  :=by have:=K.len;simpa using this
 rcases aaX i env.length with hi|hi;case inr=>
  rw[aa8 hi,aa8 (by omega)];exact K.drop
 obtain⟨fp,L⟩:=K.sl;have hl:=L.last hn;refine K.slots (by simp_all) (Slots.put (fp:=λj=>if j=env.length then []else fp j) ⟨λj t e=>?_,λj a e=>?_,λj k a Er e z=>?_,(L.drop hn).oa⟩ hk (by omega) hl (λa=>L.al _ a) λj a _ h z=>?_)
 .have hj:j<env.length:=by
   rcases aaX j env.length with y|y
   .exact y
   .rw[aap y]at e;cases e
  rw[if_neg (by omega)];obtain⟨v',h1,h2⟩:=L.at' j t (by rw[aat hj];exact e);rw[aat (by omega)]at h1;exact⟨v',h1,h2⟩
 .split at e
  .simp at e
  .exact L.al j a e
 .split at e
  .simp at e
  .split at z
   .simp at z
   .exact L.dj j k a Er e z
 .split at z
  .simp at z
  .rename_i q;exact L.dj env.length j a (abm q) h z
variable{k:Nat}{y:PV}
theorem yx.write(K:yx M Z F σ H env)(hk:k=1\/k=3)(hi:env[i]?=some (some ⟨k,x⟩))(hv:σ[i]?=some (some (.ref a)))(hw:AV M F (upd H a o) a y):yx M Z F σ (upd H a o) (env.set i (some ⟨k,y⟩)):=by
 obtain⟨fp,L⟩:=K.sl;obtain⟨v,IB,h⟩:=L.at' i _ hi;rw[hv]at IB;cases IB;obtain⟨hf,hd,FF⟩:fp i=[a]/\(Z.H₀ a=none\/a∈Z.S)/\CY M Z F (upd H a o) (.ref a) ⟨k,y⟩ [a]:=by
  rcases h with ⟨e,_⟩|⟨e,a',ea,hf,h0,hx⟩|⟨e,_⟩|⟨e,a',ea,hf,h0,hx⟩
  .rcases hk with rfl|rfl<;>exact absurd e (by simp)
  .cases ea;exact⟨hf,.inl h0,.inr (.inl ⟨e,a,rfl,rfl,h0,hw⟩)⟩
  .rcases hk with rfl|rfl<;>exact absurd e (by simp)
  .cases ea;exact⟨hf,.inr h0,.inr (.inr (.inr ⟨e,a,rfl,rfl,h0,hw⟩))⟩
 have ha:=L.al i a (by simp_all);refine⟨λb u e=>?_,λb u h1 h2=>?_,λb h=>?_,K.gr,K.nw,by simp[K.len],fp,λj s e=>?_,λj b h=>?_,L.dj,λj b t e1 e2 e3=>?_⟩
 .rw[ae (au e ha.2)];exact K.sF b u e
 .have:b≠a:=by
   rcases hd with h0|h0
   .exact au h1 h0
   .exact λz=>h2 (by simp_all)
  rw[ae this];exact K.sG b u h1 h2
 .by_cases q:b=a
  .subst q;rw[aj];simp
  .rw[ae q];exact K.pr b h
 .by_cases q:j=i
  .subst q;rw[abv]at e;simp only[if_true]at e;split at e
   .first|(done)|cases e
    exact⟨_,hv,by simp_all⟩
   .first|(done)|cases e
  .rw[aav (abm q)]at e;obtain⟨v,h1,h2⟩:=L.at' j s e;refine⟨v,h1,h2.mono ak λc hc=>ae λz=>?_⟩;exact L.dj j i c q hc (by simp_all)
 .have hb:=L.al j b h;refine⟨?_,hb.2⟩;by_cases q:b=a
  .subst q;rw[aj];simp
  .rw[ae q];exact hb.1
 .by_cases q:j=i
  .subst q;rw[abv]at e2;simp only[if_true]at e2;split at e2
   .cases e2;rcases hk with rfl|rfl<;>cases e3
   .cases e2
  .rw[aav (abm q)]at e2;exact L.oa j b t e1 e2 e3
def Vw(M:Md)(F H:Hp)(v:V)(x:PV):Prop:=Rep M.K F v x\/∃a,v=.ref a/\AV M F H a x
def Vw.lst(h:Vw M F H v (.lst xs))(s:eQ F H):∃a vs,v=.ref a/\H a=some (.lst vs)/\yA M.K F vs xs:=by
 rcases h with h|⟨a,rfl,vs,h1,h2⟩
 .cases h with
  |lst h1 h2=>exact⟨_,_,rfl,s _ _ h1,h2⟩
 .exact⟨a,vs,rfl,h1,h2⟩
def Vw.tup(h:Vw M F H v (.tup xs))(s:eQ F H):∃a vs,v=.ref a/\AF M.K H a vs/\yA M.K F vs xs:=by
 rcases h with h|⟨a,rfl,h⟩
 .cases h with
  |tup h1 h2=>exact⟨_,_,rfl,aw s h1,h2⟩
 .exact h.elim
def Vw.zh{xs:List (Key×PV)}(h:Vw M F H v (.zh xs))(s:eQ F H):∃a vs,v=.ref a/\H a=some (.dK vs)/\yC M.K F vs xs:=by
 rcases h with h|⟨a,rfl,vs,h1,h2⟩
 .cases h with
  |zh h1 h2=>exact⟨_,_,rfl,s _ _ h1,h2⟩
 .exact⟨a,vs,rfl,h1,h2⟩
def Vw.int{i:Int}(h:Vw M F H v (.int i)):v=.int i:=by
 rcases h with h|⟨a,rfl,h⟩
 .cases h;rfl
 .exact h.elim
def Vw.bl{b:Bool}(h:Vw M F H v (.bl b)):v=.bl b:=by
 rcases h with h|⟨a,rfl,h⟩
 .cases h;rfl
 .exact h.elim
def Vw.str{x:Str}(h:Vw M F H v (.str x)):v=.str x:=by
 rcases h with h|⟨a,rfl,h⟩
 .cases h;rfl
 .exact h.elim
def Vw.yB(h:Vw M F H v .yB):v=.yB:=by
 rcases h with h|⟨a,rfl,h⟩
 .cases h;rfl
 .exact h.elim
def yx.vw(K:yx M Z F σ H env)(hi:env[i]?=some (some s))(hk:s.k≠2/\s.k≠4):∃v,σ[i]?=some (some v)/\Vw M F H v s.v:=by
 obtain⟨fp,L⟩:=K.sl;obtain⟨v,hv,h⟩:=L.at' i _ hi;rcases h with ⟨_,_,h⟩|⟨_,a,rfl,_,_,h⟩|⟨e,_⟩|⟨_,a,rfl,_,_,h⟩
 .exact⟨v,hv,.inl h⟩
 .exact⟨_,hv,.inr ⟨a,rfl,h⟩⟩
 .exact(e.elim hk.1 hk.2).elim
 .exact⟨_,hv,.inr ⟨a,rfl,h⟩⟩
def yx.val(K:yx M Z F σ H env)(hi:env[i]?=some (some ⟨0,x⟩)):∃v,σ[i]?=some (some v)/\Rep M.K F v x:=by
 obtain⟨fp,L⟩:=K.sl;obtain⟨v,hv,h⟩:=L.at' i _ hi;rcases h with ⟨_,_,h⟩|⟨e,_⟩|⟨e,_⟩|⟨e,_⟩
 .exact⟨v,hv,h⟩
 .first|(done)|cases e
 .first|(revert e;simp)|cases e
 .first|(done)|cases e
def yx.ownAt(K:yx M Z F σ H env)(hk:k=1\/k=3)(hi:env[i]?=some (some ⟨k,x⟩)):∃a,σ[i]?=some (some (.ref a))/\AV M F H a x:=by
 obtain⟨fp,L⟩:=K.sl;obtain⟨v,hv,h⟩:=L.at' i _ hi;rcases h with ⟨e,_⟩|⟨_,a,rfl,_,_,h⟩|⟨e,_⟩|⟨_,a,rfl,_,_,h⟩
 .rcases hk with rfl|rfl<;>exact absurd e (by simp)
 .exact⟨a,hv,h⟩
 .rcases hk with rfl|rfl<;>exact absurd e (by simp)
 .exact⟨a,hv,h⟩
abbrev WE:=En->(PV->En->Prop)->Prop
abbrev WT:=En->(Bool->En->Prop)->Prop
abbrev WA:=En->(List PV->En->Prop)->Prop
structure Wd where
 nx:En->Prop
 rt:PV->En->Prop
 bk:En->Prop:=λ_=>False
 ct:En->Prop:=λ_=>False
 rf:PV->En->Prop:=λ_ _=>False
 ro:PV->Nat->En->Prop:=λ_ _ _=>False
abbrev WS:=Wd->En->Prop
abbrev md(ob:zP)(X:Cx):Md:=⟨X.prog,X.w,X.K,ob⟩
structure yW(ob:zP)(X:Cx)(e:Expr)(f:WE):Prop where
 ex:∃t:TE,PE X e t/\∀(Z:Zn) (F:Hp) (σ:St) (H:Hp) (env:En) (P:PV->En->Prop) (Q:VK),yx (md ob X) Z F σ H env->f env P ->
  (∀x dO v F' H',P x dO->eQ F F'->yx (md ob X) Z F' σ H' dO->Rep X.K F' v x->Q v H')->t σ H Q
structure CZ(ob:zP)(X:Cx)(e:Expr)(f:WE):Prop where
 ex:∃t:TE,PE X e t/\∀(Z:Zn) (F:Hp) (σ:St) (H:Hp) (env:En) (P:PV->En->Prop) (Q:VK),yx (md ob X) Z F σ H env->f env P ->
  (∀x dO v F' H',P x dO->eQ F F'->yx (md ob X) Z F' σ H' dO->Vw (md ob X) F' H' v x->Q v H')->t σ H Q
structure Ie(ob:zP)(X:Cx)(e:Expr)(f:WE):Prop where
 ex:∃t:TE,PE X e t/\∀(Z:Zn) (F:Hp) (σ:St) (H:Hp) (env:En) (P:PV->En->Prop) (Q:VK),yx (md ob X) Z F σ H env->f env P ->
  (∀x dO v F' H',P x dO->eQ F F'->(∀xs,x≠.set xs)->yx (md ob X) Z F' (σ++[some v]) H' (dO++[some ⟨1,x⟩])->Q v H')->t σ H Q
structure Ew(ob:zP)(X:Cx)(e:Expr)(f:WT):Prop where
 ex:∃t:TT,PT X e t/\∀(Z:Zn) (F:Hp) (σ:St) (H:Hp) (env:En) (P:Bool->En->Prop) (Q:Bool->Hp->Prop),yx (md ob X) Z F σ H env->f env P ->
  (∀b dO F' H',P b dO->eQ F F'->yx (md ob X) Z F' σ H' dO->Q b H')->t σ H Q
structure Kl(ob:zP)(X:Cx)(e:Expr)(f:WT):Prop where
 ex:∃t:TT,PW X e t/\∀(Z:Zn) (F:Hp) (σ:St) (H:Hp) (env:En) (P:Bool->En->Prop) (Q:Bool->Hp->Prop),yx (md ob X) Z F σ H env->f env P ->
  (∀b dO F' H',P b dO->eQ F F'->yx (md ob X) Z F' σ H' dO->Q b H')->t σ H Q
structure Ex(ob:zP)(X:Cx)(es:List Expr)(f:WA):Prop where
 ex:∃t:TA,PA X es t/\∀(Z:Zn) (F:Hp) (σ:St) (H:Hp) (env:En) (P:List PV->En->Prop) (Q:List V->Hp->Prop),yx (md ob X) Z F σ H env->f env P ->
  (∀xs dO vs F' H',P xs dO->xs.length=es.length->eQ F F'->yx (md ob X) Z F' σ H' dO->yA X.K F' vs xs->Q vs H')->t σ H Q
def eC(x:PV):WE:=λenv P=>P x env
def eV(i:Nat):WE:=λenv P=>match env[i]? with
 |some (some ⟨0,x⟩)=>P x env
 |some (some ⟨1,.lst xs⟩)=>P (.lst xs) (env.set i (some ⟨0,.lst xs⟩))
 |some (some ⟨1,.zh xs⟩)=>P (.zh xs) (env.set i (some ⟨0,.zh xs⟩))
 |_=>False
def zH(i:Nat):WE:=λenv P=>match env[i]? with
 |some (some ⟨0,x⟩)=>P x env
 |some (some ⟨1,x⟩)=>P x env
 |some (some ⟨3,x⟩)=>P x env
 |_=>False
variable{α:Type}
def opt(o:Option α)(P:α->Prop):Prop:=∃z,o=some z/\P z
def A3{z:α}{P:α->Prop}:opt (some z) P↔P z:=⟨λ⟨_,e,h⟩=>by simp_all,λh=>⟨z,rfl,h⟩⟩
def iD:WA:=λenv P=>P [] env
def aS(a:WE)(r:WA):WA:=λenv P=>a env λx e1=>r e1 λxs e2=>P (x::xs) e2
def Af(a:WA):WE:=λenv P=>a env λxs e=>P (.tup xs) e
def C8(a:WA):WE:=λenv P=>a env λxs e=>P (.lst xs) e
def yu(g:PV->PV->Option PV)(a b:WE):WE:=λenv P=>a env λx e1=>b e1 λy e2=>opt (g x y) λz=>P z e2
def Rw(g:PV->Option PV)(a:WE):WE:=λenv P=>a env λx e1=>opt (g x) λz=>P z e1
def FI(g:PV->PV->Option PV)(i:Nat)(b:WE):WE:=λenv P=>(env[i]?).join.isSome=true/\b env λy e2=>zH i e2 λx _=>opt (g x y) λz=>P z e2
def yM(a:WE):WT:=λenv P=>a env λx e=>opt (match x with|.bl b=>some b|_=>none) λb=>P b e
def EB(a b:WT):WT:=λenv P=>a env λx e=>if x=true then b e P else P false e
def Hs(a b:WT):WT:=λenv P=>a env λx e=>if x=true then P true e else b e P
def BN(a:WT):WT:=λenv P=>a env λx e=>P (!x) e
def KQ(c:WT)(a b:WE):WE:=λenv P=>c env λx e=>if x=true then a e P else b e P
variable{ob:zP}{X:Cx}{e a b c:Expr}{es:List Expr}{pos:Pos}{f g h:WE}
def yE(he:yW ob X e f):CZ ob X e f:=by
 obtain⟨t,ht,h⟩:=he.ex;exact⟨t,ht,λZ F σ H env P Q K hf k=>h Z F σ H env P Q K hf λx dO v F' H' p s K' r=>k x dO v F' H' p s K' (.inl r)⟩
def DQ(he:Ie ob X e f):yW ob X e f:=by
 obtain⟨t,ht,h⟩:=he.ex;refine⟨t,ht,λZ F σ H env P Q K hf k=>h Z F σ H env P Q K hf λx dO v F' H' p s hx K'=>?_⟩;obtain⟨F2,s2,K2,r⟩:=K'.Fk hx;exact k x dO v F2 H' p (ah s s2) K2 r
def eI(hp:PE X e (tC v))(hr:∀F,Rep X.K F v x):yW ob X e (eC x) :=
 ⟨_,hp,λZ F σ H env P Q K hf k=>k x env v F H hf ak K (hr F)⟩
theorem af{i j}:yW ob X (.Constant (.int i) j pos) (eC (.int i)):=eI aC λ_=>.int i
theorem kI{i j}:yW ob X (.Constant (.bool i) j pos) (eC (.bl i)):=eI yd λ_=>.bl i
theorem ik{j}:yW ob X (.Constant .none j pos) (eC .yB):=eI nG λ_=>.yB
theorem bb{i j}:yW ob X (.Constant (.str i) j pos) (eC (.str i)):=eI wX λ_=>.str i
def xR(i:Nat){x:Str}(hp:PE X (.Name x pos) (zt i)):yW ob X (.Name x pos) (eV i):=by
 refine⟨_,hp,λZ F σ H env P Q K hf k=>?_⟩;unfold eV at hf;split at hf
 .rename_i y hy;obtain⟨v,hv,r⟩:=K.val hy;exact⟨v,hv,k _ _ v F H hf ak K r⟩
 .rename_i y hy;obtain⟨F',v,hv,s,K',r⟩:=K.freeze hy (λ_=>by simp);exact⟨v,hv,k _ _ v F' H hf s K' r⟩
 .rename_i y hy;obtain⟨F',v,hv,s,K',r⟩:=K.freeze hy (λ_=>by simp);exact⟨v,hv,k _ _ v F' H hf s K' r⟩
 .exact hf.elim
def vZ(i:Nat){x:Str}(hp:PE X (.Name x pos) (zt i)):CZ ob X (.Name x pos) (zH i):=by
 refine⟨_,hp,λZ F σ H env P Q K hf k=>?_⟩;unfold zH at hf;split at hf
 .rename_i y hy;obtain⟨v,hv,r⟩:=K.vw hy (by simp);exact⟨v,hv,k _ _ v F H hf ak K r⟩
 .rename_i y hy;obtain⟨v,hv,r⟩:=K.vw hy (by simp);exact⟨v,hv,k _ _ v F H hf ak K r⟩
 .rename_i y hy;obtain⟨v,hv,r⟩:=K.vw hy (by simp);exact⟨v,hv,k _ _ v F H hf ak K r⟩
 .exact hf.elim
def ag:Ex ob X [] iD:=⟨_,be,λZ F σ H env P Q K hf k=>k [] env [] F H hf rfl ak K .nil⟩
variable{fa:WA}
def ac(he:yW ob X e f)(hr:Ex ob X es fa)(hs:aag (e::es) X.env=(false,eval e X.env)::aag es X.env:=by rfl):Ex ob X (e::es) (aS f fa):=by
 obtain⟨t,ht,h⟩:=he.ex;obtain⟨u,hu,g⟩:=hr.ex;refine⟨_,aY ht hu hs,λZ F σ H env P Q K hf k=>?_⟩;refine h Z F σ H env _ _ K hf λx e1 v F1 H1 p s1 K1 r1=>g Z F1 σ H1 e1 _ _ K1 p λxs e2 vs F2 H2 p2 hl s2 K2 r2=>?_;exact k _ e2 _ F2 H2 p2 (by simp_all) (ah s1 s2) K2 (.cons (r1.mono s2) r2)
def aU{x1}(ha:Ex ob X es fa)(hn:es.length<=1000:=by decide):yW ob X (.Tuple es x1 pos) (Af fa):=by
 obtain⟨t,ht,h⟩:=ha.ex;refine⟨_,wW ht,λZ F σ H env P Q K hf k=>?_⟩;refine h Z F σ H env _ _ K hf λxs e1 vs F1 H1 p hl s1 K1 r1=>⟨?_,λq hq=>?_⟩
 .rw[r1.len,hl,aaB];omega
 .have hF  := eQ.none_of K1.sF hq;exact k _ e1 _ _ _ p (ah s1 (aA hF)) (K1.lay hq) (.tup (.inl (.inl aj)) (r1.mono (aA hF)))
def dq(ha:Ex ob X es fa)(hn:es.length<=1000:=by decide):Ie ob X (.List es pos) (C8 fa):=by
 obtain⟨t,ht,h⟩:=ha.ex;refine⟨_,hU ht,λZ F σ H env P Q K hf k=>?_⟩;refine h Z F σ H env _ _ K hf λxs e1 vs F1 H1 p hl s1 K1 r1=>⟨?_,λq hq=>?_⟩
 .rw[r1.len,hl,aaB];omega
 .exact k _ e1 _ _ _ p s1 (λ_=>by simp) (K1.own hq ⟨vs,aj,r1⟩)
def BK(ob:zP)(X:Cx)(r:R2)(g:PV->PV->Option PV):Prop :=
 ∀(Z:Zn) (F:Hp) (σ:St) (H:Hp) (env:En) (v u:V) (x y z:PV) (Q:VK),yx (md ob X) Z F σ H env->Vw (md ob X) F H v x->Vw (md ob X) F H u y->g x y=some z ->
  (∀v' F' H',eQ F F'->yx (md ob X) Z F' σ H' env->Rep X.K F' v' z->Q v' H')->r v u H Q
def M6(ob:zP)(X:Cx)(r:R2)(g:PV->PV->Option PV):Prop :=
 ∀(Z:Zn) (F:Hp) (σ:St) (H:Hp) (env:En) (v u:V) (x y z:PV) (Q:VK),yx (md ob X) Z F σ H env->Rep X.K F v x->Vw (md ob X) F H u y->g x y=some z ->
  (∀v' F' H',eQ F F'->yx (md ob X) Z F' σ H' env->Rep X.K F' v' z->Q v' H')->r v u H Q
variable{r:R2}
def Nm{o:PV->PV->Option PV}(h:BK ob X r o):M6 ob X r o:=λZ F σ H env v u x y z Q K rx ry=>h Z F σ H env v u x y z Q K (.inl rx) ry
variable{tb:TE}
def iH{o:PV->PV->Option PV}{ta:TE}(hq:M6 ob X r o)
  (ha:∀(Z:Zn) (F:Hp) (σ:St) (H:Hp) (env:En) (P:PV->En->Prop) (Q:VK),yx (md ob X) Z F σ H env->f env P->(∀x dO v F' H',P x dO->eQ F F'->yx (md ob X) Z F' σ H' dO->Rep X.K F' v x->Q v H')->ta σ H Q)
  (hb:∀(Z:Zn) (F:Hp) (σ:St) (H:Hp) (env:En) (P:PV->En->Prop) (Q:VK),yx (md ob X) Z F σ H env->g env P->(∀x dO v F' H',P x dO->eQ F F'->yx (md ob X) Z F' σ H' dO->Vw (md ob X) F' H' v x->Q v H')->tb σ H Q) :
  ∀(Z:Zn) (F:Hp) (σ:St) (H:Hp) (env:En) (P:PV->En->Prop) (Q:VK),yx (md ob X) Z F σ H env->yu o f g env P->(∀x dO v F' H',P x dO->eQ F F'->yx (md ob X) Z F' σ H' dO->Rep X.K F' v x->Q v H')->Cn r ta tb σ H Q:=by
 intro Z F σ H env P Q K hf k;refine ha Z F σ H env _ _ K hf λx e1 v F1 H1 p s1 K1 r1=>hb Z F1 σ H1 e1 _ _ K1 p λy e2 u F2 H2 p2 s2 K2 r2=>?_;obtain⟨z,ez,p3⟩:=p2;exact hq Z F2 σ H2 e2 v u x y z Q K2 (r1.mono s2) r2 ez λv' F' H' s3 K3 r3=>k z e2 v' F' H' p3 (ah s1 (ah s2 s3)) K3 r3
def tL{o:PV->PV->Option PV}(hq:BK ob X r o)
  (hb:∀(Z:Zn) (F:Hp) (σ:St) (H:Hp) (env:En) (P:PV->En->Prop) (Q:VK),yx (md ob X) Z F σ H env->g env P->(∀x dO v F' H',P x dO->eQ F F'->yx (md ob X) Z F' σ H' dO->Vw (md ob X) F' H' v x->Q v H')->tb σ H Q) :
  ∀(Z:Zn) (F:Hp) (σ:St) (H:Hp) (env:En) (P:PV->En->Prop) (Q:VK),yx (md ob X) Z F σ H env->FI o i g env P->(∀x dO v F' H',P x dO->eQ F F'->yx (md ob X) Z F' σ H' dO->Rep X.K F' v x->Q v H')->Cn r (zt i) tb σ H Q:=by
 intro Z F σ H env P Q K hf k;obtain⟨hd,hf⟩:=hf;obtain⟨v,hv⟩:∃v,σ[i]?=some _:=by
  cases e:env[i]? with
  |none=>rw[e]at hd;cases hd
  |some w=>
   cases w with
   |none=>rw[e]at hd;cases hd
   |some s=>
    obtain⟨fp,L⟩:=K.sl;obtain⟨v,hv,_⟩:=L.at' i s e;exact⟨v,hv⟩
 refine⟨v,hv,hb Z F σ H env _ _ K hf λy e2 u F2 H2 p2 s2 K2 r2=>?_⟩;unfold zH at p2;have fin:∀(s:Sl),(s.k≠2/\s.k≠4)->e2[i]?=some _->opt (o s.v y) (λz=>P z e2)->r v u H2 Q:=λs hk hs ⟨z,ez,p3⟩=>by
  obtain⟨v',IB,rv⟩:=K2.vw hs hk;rw[hv]at IB;cases IB;exact hq Z F2 σ H2 e2 v u s.v y z Q K2 rv r2 ez λv' F' H' s3 K3 r3=>k z e2 v' F' H' p3 (ah s2 s3) K3 r3
 split at p2
 .rename_i hy;exact fin _ (by simp) hy p2
 .rename_i hy;exact fin _ (by simp) hy p2
 .rename_i hy;exact fin _ (by simp) hy p2
 .exact p2.elim
open PySem L2 PyProof.Rows
def Ah(gE:List (Key×PV))(k:Key):Option PV:=(gE.find? λkv=>decide (kv.1=k)).map (·.2)
def C5(gE:List (Key×PV))(k:Key)(v:PV):List (Key×PV) :=
 if (gE.any λkv=>decide (kv.1=k))=true then gE.map (λkv=>if kv.1=k then (kv.1,v)else kv)else gE++[(k,v)]
def BV:PV->Option Key
 |.int i=>some (.inl i)
 |.str s=>some (.inr s)
 |_=>none
variable{K:aaf}{F:Hp}
variable{k:Key}{vs:List (Key×V)}{xs:List (Key×PV)}
def yC.val(h:yC K F vs xs):(Az vs k=none/\Ah xs k=none)\/∃v x,Az vs k=some v/\Ah xs k=some x/\Rep K F v x:=by
 induction h using yC.ind with
 |nil=>exact .inl ⟨rfl,rfl⟩
 |@cons k' v x vs xs h _ ih=>
  by_cases e:k'=k
  .exact .inr ⟨v,x,gf e,by simp[Ah,e],h⟩
  .rw[gg e];have e2:Ah ((k',x)::xs) k=Ah xs k:=by simp[Ah,e]
   rw[e2];exact ih
def yC.any(h:yC K F vs xs):(vs.any λkv=>decide (kv.1=k))=xs.any λkv=>decide (kv.1=k):=by
 induction h using yC.ind with
 |nil=>rfl
 |cons _ _ ih=>exact congrArg _ ih
def yC.app{ws:List (Key×V)}{ys:List (Key×PV)}(h:yC K F vs xs)(k:yC K F ws ys):yC K F (vs++ws) (xs++ys):=by
 induction h using yC.ind with
 |nil=>exact k
 |cons a _ ih=>exact .cons a ih
variable{v:V}{x:PV}
def yC.Jv(hv:Rep K F v x)(h:yC K F vs xs):yC K F (vs.map λkv=>if kv.1=k then (kv.1,v)else kv) (xs.map λkv=>if kv.1=k then (kv.1,x)else kv):=by
 induction h using yC.ind with
 |nil=>exact .nil
 |@cons k' v' x' vs xs a _ ih=>
  rw[aaz,aaz];by_cases e:k'=k
  .rw[if_pos e,if_pos e];exact .cons hv ih
  .rw[if_neg e,if_neg e];exact .cons a ih
def yC.put(h:yC K F vs xs)(hv:Rep K F v x):yC K F (putK vs k v) (C5 xs k x):=by
 unfold putK C5;rw[h.any];split
 .exact h.Jv hv
 .exact h.app (.cons hv .nil)
def fN(h:BV x=some k)(r:Rep K F v x):v=kV k:=by
 cases r<;>cases h<;>rfl
def tO:PV->PV->Option PV
 |.tup xs,.int i=>E2 xs i
 |.lst xs,.int i=>E2 xs i
 |.str s,.int i=>if s.length<=100000 then (E2 s.cps.toList i).map λc=>.str ⟨#[c]⟩else none
 |.zh gE,y=>(BV y).bind (Ah gE)
 |_,_=>none
def LC:R2:=λx y H Q=>∃a v,x=.ref a/\Em H a y (some v)/\Q v H
variable{ob:zP}{X:Cx}{a b c e:Expr}{f g h:WE}{pos:Pos}
def vR(hu:X.A.units+1<cLine):G2 X LC:=by
 intro value slice pins s σ H x y v u Q I rx ry h hs;obtain⟨a,z,rfl,g,q⟩:=h;cases rx;exact tail_any (jp I g) PySem.F.slot_dict_getitem.lookup (mG hu I g ry λw' s3 I3 Cv=>⟨z,H,I3,Cv,q⟩) hs
def LD(K:aaf):R2:=λx y H Q=>QN K x y H Q\/LC x y H Q
def rZ(hu:X.A.units+1<cLine):G2 X (LD X.K):=JA.or (vR hu)
variable{i:Int}
theorem pZ{vs:List V}{xs:List PV}{z:PV}(r:yA K F vs xs)(h:E2 xs i=some z):∃v,E2 vs i=some v/\Rep K F v z:=by
 unfold E2 at h⊢;rw[r.len];cases e:G9 xs.length i with
 |none=>rw[e]at h;cases h
 |some j=>
  rw[e]at h;exact r.get h
variable{M:Md}{H:Hp}
def Ih(h:Vw M F H v x)(hk:BV x=some k):v=kV k:=by
 cases x<;>try cases hk
 .exact h.int
 .exact h.str
def Gu:BK ob X (LD X.K) tO:=by
 intro Z F σ H env v u x y z Q K rx ry hz k;unfold tO at hz;split at hz
 .obtain⟨p,vs,rfl,h1,h2⟩:=rx.tup K.sF;rw[ry.int];obtain⟨w,e1,e2⟩:=pZ h2 hz;exact .inl (.inr (.inl ⟨p,vs,_,w,rfl,rfl,h1,e1,k w F H ak K e2⟩))
 .obtain⟨p,vs,rfl,h1,h2⟩:=rx.lst K.sF;rw[ry.int];obtain⟨w,e1,e2⟩:=pZ h2 hz;exact .inl (.inl ⟨p,vs,_,w,rfl,rfl,.inl (.inl h1),e1,k w F H ak K e2⟩)
 .rename_i s i;split at hz
  .rw[rx.str,ry.int];cases e:E2 s.cps.toList i with
   |none=>rw[e]at hz;cases hz
   |some c=>
    rw[e]at hz;cases hz;exact .inl (.inr (.inr ⟨s,i,c,rfl,rfl,by rw[aaB];omega,e,k _ F H ak K (.str _)⟩))
  .cases hz
 .rename_i gE;obtain⟨p,vs,rfl,h1,h2⟩:=rx.zh K.sF;cases e:BV y with
  |none=>rw[e]at hz;cases hz
  |some kk=>
   rw[e]at hz;have hz:Ah gE kk=some z:=hz;rw[Ih ry e];rcases h2.val with ⟨_,e2⟩|⟨w,w',e1,e2,e3⟩
   .rw[e2]at hz;cases hz
   .rw[e2]at hz;cases hz;refine .inr ⟨p,w,rfl,?_,k w F H ak K e3⟩;rw[<- e1];exact O7 h1
 .cases hz
def yn(hu:X.A.units+1<cLine)(ha:yW ob X a f)(hb:CZ ob X b g)(hs:ga b:=by exact λ_ _=>rfl):yW ob X (.Subscript a b pos) (yu tO f g):=by
 obtain⟨ta,ha,ka⟩:=ha.ex;obtain⟨tb,hb,kb⟩:=hb.ex;exact⟨_,bI (rZ hu) ha hb hs,iH (Nm Gu) ka kb⟩
variable{p:Pos}
def xU(i:Nat){x:Str}(hu:X.A.units+1<cLine)(ha:PE X (.Name x p) (zt i))(hb:CZ ob X b g)(hs:ga b:=by exact λ_ _=>rfl):yW ob X (.Subscript (.Name x p) b pos) (FI tO i g):=by
 obtain⟨tb,hb,kb⟩:=hb.ex;exact⟨_,bI (rZ hu) ha hb hs,tL Gu kb⟩
variable{r r':R2}
def zC.or{fn:Value->Value->Sem Value}(h:zC X fn r)(h':zC X fn r'):zC X fn (λx y H Q=>r x y H Q\/r' x y H Q):=by
 intro pins s σ H x y v u Q I rx ry q;rcases q with q|q
 .exact h pins s σ H x y v u Q I rx ry q
 .exact h' pins s σ H x y v u Q I rx ry q
def yZ:PV->PV->Option PV
 |.int i,.int j=>some (.int (i+j))
 |.str s,.str t=>if s.length+t.length<=100000 then some (.str (s++t))else none
 |.tup xs,.tup ys=>if xs.length+ys.length<=100000 then some (.tup (xs++ys))else none
 |.lst xs,.lst ys=>if xs.length+ys.length<=100000 then some (.lst (xs++ys))else none
 |_,_=>none
def Vw.Gf{xs:List PV}(h:Vw M F H v (.tup xs)):Rep M.K F v (.tup xs):=by
 rcases h with h|⟨a,rfl,h⟩
 .exact h
 .exact h.elim
def Iq(K:aaf):R2:=λx y H Q=>((Ep λi j=>.int (i+j)) x y H Q\/∃i j,x=.str i/\y=.str j/\i.length+j.length<=sizeLine/\Q (.str (i++j)) H)\/(Ip K x y H Q\/LJ x y H Q)
def vp:zC X (abR .Add) (Iq X.K):=zC.or (zC.or hX qt) (zC.or vm xl)
def vg:BK ob X (Iq X.K) yZ:=by
 intro Z F σ H env v u x y z Q K rx ry hz k;unfold yZ at hz;split at hz
 .cases hz;rw[rx.int,ry.int];exact .inl (.inl ⟨_,_,rfl,rfl,k _ F H ak K (.int _)⟩)
 .split at hz
  .cases hz;rw[rx.str,ry.str];exact .inl (.inr ⟨_,_,rfl,rfl,by rw[aaB];omega,k _ F H ak K (.str _)⟩)
  .cases hz
 .rename_i xs ys;split at hz
  .cases hz;obtain⟨p,vs,rfl,h1,h2⟩:=rx.tup K.sF;obtain⟨q,ws,rfl,g1,g2⟩:=ry.tup K.sF;have hl:=h2.len;have gl:=g2.len;refine .inr (.inl ⟨p,q,vs,ws,rfl,rfl,h1,g1,by rw[aaB];omega,?_⟩);refine⟨λe=>k _ F H ak K ?_,λe=>k _ F H ak K ?_,λr hr=>?_⟩
   .subst e;have  := List.length_eq_zero_iff.mp hl.symm;subst this;exact ry.Gf
   .subst e;have  := List.length_eq_zero_iff.mp gl.symm;subst this;rw[abO];exact rx.Gf
   .have hF  := eQ.none_of K.sF hr;exact k _ _ _ (aA hF) (K.lay hr) (.tup (.inl (.inl aj)) ((h2.app g2).mono (aA hF)))
  .cases hz
 .split at hz
  .cases hz;obtain⟨p,vs,rfl,h1,h2⟩:=rx.lst K.sF;obtain⟨q,ws,rfl,g1,g2⟩:=ry.lst K.sF;have hl:=h2.len;have gl:=g2.len;refine .inr (.inr ⟨p,q,vs,ws,rfl,rfl,h1,g1,by rw[aaB];omega,λr hr=>?_⟩);have hF  := eQ.none_of K.sF hr;exact k _ _ _ (aA hF) (K.lay hr) (.lst aj ((h2.app g2).mono (aA hF)))
  .cases hz
 .cases hz
variable{o:PV->PV->Option PV}
def fV{op:Operator}(hr:zC X (abR op) r)(hq:BK ob X r o)(ha:yW ob X a f)(hb:CZ ob X b g):yW ob X (.BinOp a op b pos) (yu o f g):=by
 obtain⟨ta,ha,ka⟩:=ha.ex;obtain⟨tb,hb,kb⟩:=hb.ex;exact⟨_,bj hr ha hb,iH (Nm hq) ka kb⟩
def aK(ha:yW ob X a f)(hb:CZ ob X b g):yW ob X (.BinOp a .Add b pos) (yu yZ f g):=fV vp vg ha hb
def iI(C:Int->Int->Bool)(h:Int->Int->Int):PV->PV->Option PV
 |.int i,.int j=>if C i j=true then some (.int (h i j))else none
 |_,_=>none
theorem iJ{C:Int->Int->Bool}{D:Int->Int->Prop}{h:Int->Int->Int}(hC:∀i j,C i j=true->D i j):BK ob X (rI D λi j=>.int (h i j)) (iI C h):=by
 intro Z F σ H env v u x y z Q K rx ry hz k;unfold iI at hz;split at hz
 .split at hz
  .rename_i hc;cases hz;rw[rx.int,ry.int];exact⟨_,_,rfl,rfl,hC _ _ hc,k _ F H ak K (.int _)⟩
  .cases hz
 .cases hz
def Av:=iI (λ_ _=>true) λi j=>i - j
def Kf(i j:Int):Bool:=(decide (-(2 ^ 64)<i) && decide (i<2 ^ 64)) || (decide (-(2 ^ 64)<j) && decide (j<2 ^ 64))
def AH:PV->PV->Option PV
 |.int i,.int j=>if Kf i j=true then some (.int (i*j))else none
 |.str s,.int i=>if 0<=i/\i<=1000/\s.length<=1000 then some (.str (CC s i.toNat))else none
 |.lst xs,.int i=>if -1000<=i/\i<=1000/\xs.length<=1000 then some (.lst (aaC i.toNat xs).flatten)else none
 |_,_=>none
def Ca:=iI (λ_ j=>decide (0<j)) λi j=>i % j
def Fm:=iI (λ_ j=>decide (0<j) && decide (j<1073741824)) λi j=>i / j
def A2:=iI (λi j=>decide (0<=j) && decide (j<=1000000) && decide (i.natAbs<2 ^ 64)) λi j=>i ^ j.toNat
theorem vh:zC X (abR .Sub) (rI (λ_ _=>True) λi j=>.int (i - j)):=by
 intro pins s σ H x y v u Q I rx ry h;obtain⟨i,j,e1,e2,_,q⟩:=h;exact xg pins s σ H x y v u Q I rx ry ⟨i,j,e1,e2,q⟩
def bQ(ha:yW ob X a f)(hb:CZ ob X b g):yW ob X (.BinOp a .Sub b pos) (yu Av f g):=fV vh (iJ λ_ _ _=>trivial) ha hb
def fU(ha:yW ob X a f)(hb:CZ ob X b g):yW ob X (.BinOp a .Mod b pos) (yu Ca f g):=fV ee (iJ λ_ _ h=>of_decide_eq_true h) ha hb
def sw(ha:yW ob X a f)(hb:CZ ob X b g):yW ob X (.BinOp a .FloorDiv b pos) (yu Fm f g):=fV lB (iJ λ_ _ h=>by simp at h;exact h) ha hb
def fS(ha:yW ob X a f)(hb:CZ ob X b g):yW ob X (.BinOp a .Pow b pos) (yu A2 f g):=fV nM (iJ λ_ _ h=>by simp at h;exact⟨h.1.1,h.1.2,h.2⟩) ha hb
def yA.rep{vs:List V}{xs:List PV}(r:yA K F vs xs):∀n:Nat,yA K F (aaC n vs).flatten (aaC n xs).flatten
 |0=>.nil
 |n+1=>by
  exact r.app (r.rep n)
theorem vf:BK ob X (λx y H Q=>(rI FP λi j=>.int (i*j)) x y H Q\/(Io x y H Q\/Lw x y H Q)) AH:=by
 intro Z F σ H env v u x y z Q K rx ry hz k;unfold AH at hz;split at hz
 .split at hz
  .rename_i hc;cases hz;rw[rx.int,ry.int];refine .inl ⟨_,_,rfl,rfl,?_,k _ F H ak K (.int _)⟩;unfold Kf at hc;simp at hc;exact hc
  .cases hz
 .split at hz
  .rename_i hc;cases hz;rw[rx.str,ry.int];exact .inr (.inl ⟨_,_,rfl,rfl,hc.1,hc.2.1,hc.2.2,k _ F H ak K (.str _)⟩)
  .cases hz
 .rename_i xs i;split at hz
  .cases hz;obtain⟨p,vs,rfl,h1,h2⟩:=rx.lst K.sF;rw[ry.int];have hl:=h2.len;refine .inr (.inr ⟨p,i,vs,rfl,rfl,h1,by omega,by omega,?_,λr hr=>?_⟩)
   .have h3:i.toNat<=1000:=by omega
    have h4:vs.length<=1000:=by omega
    calc vs.length*i.toNat<=1000*1000:=Nat.mul_le_mul h4 h3
     _<=16777216:=by decide
   .have hF  := eQ.none_of K.sF hr;exact k _ _ _ (aA hF) (K.lay hr) (.lst aj ((h2.rep _).mono (aA hF)))
  .cases hz
 .cases hz
def fT(ha:yW ob X a f)(hb:CZ ob X b g):yW ob X (.BinOp a .Mult b pos) (yu AH f g):=fV (zC.or j9 (zC.or vk xh)) vf ha hb
def LV:PV->Option PV
 |.int i=>some (.int (-i))
 |_=>none
variable{op:CmpOp}
def xV(hr:zC X (aaL op) r)(hq:BK ob X r o)(ha:yW ob X a f)(hb:CZ ob X b g)(hm:ab7 op b=false):yW ob X (.Compare a [op] [b] pos) (yu o f g):=by
 obtain⟨ta,ha,ka⟩:=ha.ex;obtain⟨tb,hb,kb⟩:=hb.ex;exact⟨_,pG hr ha hb hm,iH (Nm hq) ka kb⟩
def xW{o:PV->PV->Option PV}(he:∃t,PE X (.Compare a [op] [b] pos) t/\PT X (.Compare a [op] [b] pos) (E9 t)/\∀(Z:Zn) (F:Hp) (σ:L2.St) (H:Hp) (env:En) (P:PV->En->Prop) (Q:VK),yx (md ob X) Z F σ H env->f env P->(∀x dO v F' H',P x dO->eQ F F'->yx (md ob X) Z F' σ H' dO->Rep X.K F' v x->Q v H')->t σ H Q):Ew ob X (.Compare a [op] [b] pos) (yM f):=by
 obtain⟨t,_,ht,h⟩:=he;refine⟨_,ht,λZ F σ H env P Q K hf k=>h Z F σ H env _ _ K hf λx e1 v F1 H1 p s1 K1 r1=>?_⟩;obtain⟨z,hz,p⟩:=p;cases x<;>try (cases hz)
 cases r1;exact⟨_,rfl,k _ e1 F1 H1 p s1 K1⟩
def we(hr:zC X (aaL op) r)(hq:BK ob X r o)(ha:yW ob X a f)(hb:CZ ob X b g)(hm:ab7 op b=false):Ew ob X (.Compare a [op] [b] pos) (yM (yu o f g)):=by
 obtain⟨ta,ha,ka⟩:=ha.ex;obtain⟨tb,hb,kb⟩:=hb.ex;exact xW (o:=o) ⟨_,pG hr ha hb hm,fE hr ha hb hm,iH (Nm hq) ka kb⟩
def bw{P:V->V->Hp->V->Prop}(h:∀(F H:Hp) (v u:V) (x y z:PV),eQ F H->Vw (md ob X) F H v x->Vw (md ob X) F H u y->o x y=some z->∃w,(∀F,Rep X.K F w z)/\∀Q:VK,Q w H->r v u H Q):BK ob X r o:=by
 intro Z F σ H env v u x y z Q K rx ry hz k;obtain⟨w,h1,h2⟩:=h F H v u x y z K.sF rx ry hz;exact h2 Q (k w F H ak K (h1 F))
def Fz:PV->PV->Option PV
 |.int i,.int j=>some (.bl (decide (i<j)))
 |.str s,.str t=>some (.bl (decide (zw s t)))
 |_,_=>none
def EO:PV->PV->Option PV
 |.int i,.int j=>some (.bl (decide (i<=j)))
 |.str s,.str t=>some (.bl (!decide (zw t s)))
 |_,_=>none
def HU:PV->PV->Option PV
 |.int i,.int j=>some (.bl (decide (j<i)))
 |_,_=>none
def JW:PV->PV->Option PV
 |.int i,.int j=>some (.bl (decide (j<=i)))
 |_,_=>none
theorem nL:BK ob X (λx y H Q=>(Ep λi j=>.bl (decide (i<j))) x y H Q\/∃i j,x=.str i/\y=.str j/\Q (.bl (decide (i.cps.toList<j.cps.toList))) H) Fz:=by
 refine bw (P:=λ_ _ _ _=>True) λF H v u x y z sF rx ry hz=>?_;unfold Fz at hz;split at hz
 .cases hz;rw[rx.int,ry.int];exact⟨_,λ_=>.bl _,λQ q=>.inl ⟨_,_,rfl,rfl,q⟩⟩
 .cases hz;rw[rx.str,ry.str];exact⟨_,λ_=>.bl _,λQ q=>.inr ⟨_,_,rfl,rfl,q⟩⟩
 .cases hz
theorem j8:BK ob X (λx y H Q=>(Ep λi j=>.bl (decide (i<=j))) x y H Q\/∃i j,x=.str i/\y=.str j/\Q (.bl (!decide (j.cps.toList<i.cps.toList))) H) EO:=by
 refine bw (P:=λ_ _ _ _=>True) λF H v u x y z sF rx ry hz=>?_;unfold EO at hz;split at hz
 .cases hz;rw[rx.int,ry.int];exact⟨_,λ_=>.bl _,λQ q=>.inl ⟨_,_,rfl,rfl,q⟩⟩
 .cases hz;rw[rx.str,ry.str];exact⟨_,λ_=>.bl _,λQ q=>.inr ⟨_,_,rfl,rfl,q⟩⟩
 .cases hz
theorem xc:BK ob X (Ep λi j=>.bl (decide (j<i))) HU:=by
 refine bw (P:=λ_ _ _ _=>True) λF H v u x y z sF rx ry hz=>?_;unfold HU at hz;split at hz
 .cases hz;rw[rx.int,ry.int];exact⟨_,λ_=>.bl _,λQ q=>⟨_,_,rfl,rfl,q⟩⟩
 .cases hz
theorem xf:BK ob X (Ep λi j=>.bl (decide (j<=i))) JW:=by
 refine bw (P:=λ_ _ _ _=>True) λF H v u x y z sF rx ry hz=>?_;unfold JW at hz;split at hz
 .cases hz;rw[rx.int,ry.int];exact⟨_,λ_=>.bl _,λQ q=>⟨_,_,rfl,rfl,q⟩⟩
 .cases hz
theorem qr:zC X (aaL .Lt) (λx y H Q=>(Ep λi j=>.bl (decide (i<j))) x y H Q\/∃i j,x=.str i/\y=.str j/\Q (.bl (decide (i.cps.toList<j.cps.toList))) H):=zC.or yg rG
theorem mX:zC X (aaL .LtE) (λx y H Q=>(Ep λi j=>.bl (decide (i<=j))) x y H Q\/∃i j,x=.str i/\y=.str j/\Q (.bl (!decide (j.cps.toList<i.cps.toList))) H):=zC.or yh rH
def Dy:PV->Bool
 |.yB=>true
 |_=>false
def JC:PV->PV->Option PV
 |x,.yB=>some (.bl (Dy x))
 |.bl a,.bl b=>some (.bl (a==b))
 |_,_=>none
def wH(h:Vw M F H v x):decide (v=V.yB)=Dy x:=by
 rcases h with h|⟨a,rfl,h⟩
 .cases h<;>simp[Dy]
 .cases x<;>first|exact h.elim|simp[Dy]
def xb:BK ob X (λx y H Q=>(y=.yB/\Q (.bl (decide (x=.yB))) H)\/∃a b,x=.bl a/\y=.bl b/\Q (.bl (a==b)) H) JC:=by
 refine bw (P:=λ_ _ _ _=>True) λF H v u x y z sF rx ry hz=>?_;unfold JC at hz;split at hz
 .cases hz;rw[ry.yB];refine⟨_,λ_=>.bl _,λQ q=>.inl ⟨rfl,?_⟩⟩;rw[wH rx];exact q
 .cases hz;rw[rx.bl,ry.bl];exact⟨_,λ_=>.bl _,λQ q=>.inr ⟨_,_,rfl,rfl,q⟩⟩
 .cases hz
def ye:zC X (aaL .Is) (λx y H Q=>(y=.yB/\Q (.bl (decide (x=.yB))) H)\/∃a b,x=.bl a/\y=.bl b/\Q (.bl (a==b)) H):=zC.or xj xk
def Gg:PV->Option Bool
 |.yB=>some false
 |.bl b=>some b
 |.int i=>some (i != 0)
 |.str s=>if s.length<=100000 then some ((s.length:Int) != 0)else none
 |.tup xs=>some (!xs.isEmpty)
 |.lst xs=>some (!xs.isEmpty)
 |.zh xs=>some (!xs.isEmpty)
 |_=>none
def Bu(a:WE):WT:=λenv P=>a env λx e=>opt (Gg x) λb=>P b e
def bK(he:CZ ob X e f)(h:∀whole,isTrue e X.env whole=(do let v <- whole;standAt e.pos;acn [v] (truthy v)):=by intro _;rfl):Ew ob X e (Bu f):=by
 obtain⟨t,ht,k0⟩:=he.ex;refine⟨_,s0 ht h,λZ F σ H env P Q K hf k=>k0 Z F σ H env _ _ K hf λx e1 v F1 H1 p s1 K1 r1=>?_⟩;obtain⟨z,hz,p⟩:=p;refine⟨z,?_,k _ e1 F1 H1 p s1 K1⟩;have Qg:∀{α β:Type} {l:List α} {m:List β},l.length=m.length->l.isEmpty=m.isEmpty:=λ{α β l m} h=>by
  cases l<;>cases m<;>simp at h⊢
 cases x<;>simp only[Gg]at hz
 .cases hz;rw[r1.yB];rfl
 .cases hz;rw[r1.bl];rfl
 .cases hz;rw[r1.int];rfl
 .split at hz
  .cases hz;rw[r1.str];exact⟨by rw[aaB];omega,rfl⟩
  .cases hz
 .cases hz;obtain⟨p,vs,rfl,h1,h2⟩:=r1.tup K1.sF;exact .inr (.inl ⟨vs,h1,by rw[Qg h2.len]⟩)
 .cases hz;obtain⟨p,vs,rfl,h1,h2⟩:=r1.lst K1.sF;exact .inl ⟨vs,.inl (.inl h1),by rw[Qg h2.len]⟩
 .cases hz;obtain⟨p,vs,rfl,h1,h2⟩:=r1.zh K1.sF;exact .inr (.inr ⟨vs,h1,by rw[Qg h2.len]⟩)
 .cases hz
 .cases hz
variable{t u:WT}{rest:List Expr}
def lQ(h:Kl ob X e t):Ew ob X e t:=by
 obtain⟨w,hw,k⟩:=h.ex;exact⟨w,hw.pt,k⟩
def lR(h:Ew ob X a t):Kl ob X (.BoolOp .And [a] pos) t:=by
 obtain⟨w,hw,k⟩:=h.ex;exact⟨w,pw_and1 hw,k⟩
def oq(h:Ew ob X a t):Kl ob X (.BoolOp .Or [a] pos) t:=by
 obtain⟨w,hw,k⟩:=h.ex;exact⟨w,pw_or1 hw,k⟩
def ou(h:Ew ob X a t)(h2:Kl ob X (.BoolOp .And (b::rest) pos) u):Kl ob X (.BoolOp .And (a::b::rest) pos) (EB t u):=by
 obtain⟨w,hw,k⟩:=h.ex;obtain⟨w2,Pf,k2⟩:=h2.ex;refine⟨_,pw_and hw Pf,λZ F σ H env P Q K hf kk=>k Z F σ H env _ _ K hf λx e1 F1 H1 p s1 K1=>?_⟩;cases x with
 |true=>exact Cq (k2 Z F1 σ H1 e1 P Q K1 p λx e2 F2 H2 p2 s2 K2=>kk x e2 F2 H2 p2 (ah s1 s2) K2)
 |false=>exact BW (kk _ e1 F1 H1 p s1 K1)
def kK(h:Ew ob X a t)(h2:Kl ob X (.BoolOp .Or (b::rest) pos) u):Kl ob X (.BoolOp .Or (a::b::rest) pos) (Hs t u):=by
 obtain⟨w,hw,k⟩:=h.ex;obtain⟨w2,Pf,k2⟩:=h2.ex;refine⟨_,pw_or hw Pf,λZ F σ H env P Q K hf kk=>k Z F σ H env _ _ K hf λx e1 F1 H1 p s1 K1=>?_⟩;cases x with
 |true=>exact Cq (kk _ e1 F1 H1 p s1 K1)
 |false=>exact BW (k2 Z F1 σ H1 e1 P Q K1 p λx e2 F2 H2 p2 s2 K2=>kk x e2 F2 H2 p2 (ah s1 s2) K2)
def cL(h:Ew ob X a t):Ew ob X (.UnaryOp .Not a pos) (BN t):=by
 obtain⟨w,hw,k⟩:=h.ex;exact⟨_,wP hw,λZ F σ H env P Q K hf kk=>k Z F σ H env _ _ K hf λx e1 F1 H1 p s1 K1=>kk _ e1 F1 H1 p s1 K1⟩
def oj(hc:Ew ob X c t)(ha:yW ob X a f)(hb:yW ob X b g):yW ob X (.IfExp c a b pos) (KQ t f g):=by
 obtain⟨w,hw,k⟩:=hc.ex;obtain⟨ta,ha,ka⟩:=ha.ex;obtain⟨tb,hb,kb⟩:=hb.ex;refine⟨_,tz hw ha hb,λZ F σ H env P Q K hf kk=>k Z F σ H env _ _ K hf λx e1 F1 H1 p s1 K1=>?_⟩;cases x with
 |true=>exact Cq (ka Z F1 σ H1 e1 P Q K1 p λx e2 v F2 H2 p2 s2 K2 r2=>kk x e2 v F2 H2 p2 (ah s1 s2) K2 r2)
 |false=>exact BW (kb Z F1 σ H1 e1 P Q K1 p λx e2 v F2 H2 p2 s2 K2 r2=>kk x e2 v F2 H2 p2 (ah s1 s2) K2 r2)
def Dc:PV->Option Bool
 |.bl b=>some b
 |_=>none
def CO(a b:WE):WE:=λenv P=>a env λx e=>opt (Dc x) λk=>if k=true then b e P else P (.bl false) e
def MN(a b:WE):WE:=λenv P=>a env λx e=>opt (Dc x) λk=>if k=true then P (.bl true) e else b e P
def Kc(a:WE):WE:=λenv P=>a env λx e=>opt (Dc x) λk=>P (.bl (!k)) e
def eG{op}(h:yW ob X a f):yW ob X (.BoolOp op [a] pos) f:=by
 obtain⟨t,ht,k⟩:=h.ex;exact⟨t,wY ht,k⟩
def iX{k:Bool}(r:Rep K F v x)(h:Dc x=some k):v=.bl k/\x=.bl k:=by
 cases x<;>cases h;cases r;exact⟨rfl,rfl⟩
def eJ(ha:yW ob X a f)(hb:yW ob X (.BoolOp .And (b::rest) pos) g):yW ob X (.BoolOp .And (a::b::rest) pos) (CO f g):=by
 obtain⟨ta,ha,ka⟩:=ha.ex;obtain⟨tb,hb,kb⟩:=hb.ex;refine⟨_,w8 ha hb,λZ F σ H env P Q K hf kk=>ka Z F σ H env _ _ K hf λx e1 v F1 H1 p s1 K1 r1=>?_⟩;obtain⟨z,hz,p⟩:=p;obtain⟨rfl,rfl⟩:=iX r1 hz;refine⟨z,rfl,?_⟩;cases z with
 |true=>exact Cq (kb Z F1 σ H1 e1 P Q K1 p λx e2 v F2 H2 p2 s2 K2 r2=>kk x e2 v F2 H2 p2 (ah s1 s2) K2 r2)
 |false=>exact BW (kk _ e1 _ F1 H1 p s1 K1 (.bl _))
def ym(ha:yW ob X a f)(hb:yW ob X (.BoolOp .Or (b::rest) pos) g):yW ob X (.BoolOp .Or (a::b::rest) pos) (MN f g):=by
 obtain⟨ta,ha,ka⟩:=ha.ex;obtain⟨tb,hb,kb⟩:=hb.ex;refine⟨_,yb ha hb,λZ F σ H env P Q K hf kk=>ka Z F σ H env _ _ K hf λx e1 v F1 H1 p s1 K1 r1=>?_⟩;obtain⟨z,hz,p⟩:=p;obtain⟨rfl,rfl⟩:=iX r1 hz;refine⟨z,rfl,?_⟩;cases z with
 |true=>exact Cq (kk _ e1 _ F1 H1 p s1 K1 (.bl _))
 |false=>exact BW (kb Z F1 σ H1 e1 P Q K1 p λx e2 v F2 H2 p2 s2 K2 r2=>kk x e2 v F2 H2 p2 (ah s1 s2) K2 r2)
def xS(ha:yW ob X a f):yW ob X (.UnaryOp .Not a pos) (Kc f):=by
 obtain⟨ta,ha,ka⟩:=ha.ex;refine⟨_,wZ ha,λZ F σ H env P Q K hf kk=>ka Z F σ H env _ _ K hf λx e1 v F1 H1 p s1 K1 r1=>?_⟩;obtain⟨z,hz,p⟩:=p;obtain⟨rfl,rfl⟩:=iX r1 hz;exact⟨z,rfl,kk _ e1 _ F1 H1 p s1 K1 (.bl _)⟩
def zM:Nat->PV->PV->Option Bool
 |0,_,_=>none
 |d+1,x,y=>match x,y with
  |.yB,.yB=>some true
  |.yB,.bl _=>some false
  |.yB,.int _=>some false
  |.yB,.str _=>some false
  |.bl _,.yB=>some false
  |.bl a,.bl b=>some (a==b)
  |.bl a,.int b=>some ((if a then 1 else 0)==b)
  |.bl _,.str _=>some false
  |.int _,.yB=>some false
  |.int a,.bl b=>some (a==(if b then 1 else 0))
  |.int a,.int b=>some (a==b)
  |.int _,.str _=>some false
  |.str _,.yB=>some false
  |.str _,.bl _=>some false
  |.str _,.int _=>some false
  |.str a,.str b=>some (a==b)
  |.tup xs,.tup ys=>((xs.zip ys).mapM λp=>zM d p.1 p.2).map λbs=>bs.all id && xs.length==ys.length
  |.lst xs,.lst ys=>if xs.length=ys.length then ((xs.zip ys).mapM λp=>zM d p.1 p.2).map λbs=>bs.all id else some false
  |.tup _,.lst _=>some false
  |.lst _,.tup _=>some false
  |.tup _,.yB=>some false
  |.tup _,.bl _=>some false
  |.tup _,.int _=>some false
  |.tup _,.str _=>some false
  |.yB,.tup _=>some false
  |.bl _,.tup _=>some false
  |.int _,.tup _=>some false
  |.str _,.tup _=>some false
  |.lst _,.yB=>some false
  |.lst _,.bl _=>some false
  |.lst _,.int _=>some false
  |.lst _,.str _=>some false
  |.yB,.lst _=>some false
  |.bl _,.lst _=>some false
  |.int _,.lst _=>some false
  |.str _,.lst _=>some false
  |_,_=>none
variable{α β:Type}
def bu{f:α->Option β}:∀{l:List α} {m:List β},l.mapM f=some m->m.length=l.length/\∀(i:Nat) (a:α),l[i]?=some a->∃b,m[i]?=some b/\f a=some b
 |[],m,h=>by simp_all
 |a::l,m,h=>by
  rw[abq]at h;cases ea:f a with
  |none=>rw[ea]at h;cases h
  |some b=>
   rw[ea]at h;cases el:l.mapM f with
   |none=>rw[el]at h;cases h
   |some m'=>
    rw[el]at h;cases h;obtain⟨h1,h2⟩:=bu el;refine⟨by simp_all,λi c e=>?_⟩;cases i with
    |zero=>simp at e;subst e;exact⟨b,rfl,ea⟩
    |succ i=>exact h2 i c e
def yz.GP:∀{xs:List V} {us:List Value} {i:Nat} {u:Value},yz xs us->us[i]?=some u->∃x,xs[i]?=some x/\RelV x u
 |_,_,_,_,.nil,e=>by simp at e
 |_,_,0,_,.cons r _,e=>by simp_all
 |_,_,i+1,x,.cons _ t,e=>by
  obtain⟨u,h1,h2⟩:=yz.GP t (by simpa using e);exact⟨u,by simp_all,h2⟩
variable{pins:List (Addr×Obj)}{σ:L2.St}{s:Shared}
variable{ws:List V}
def cU(I:Inv X pins σ H s){a:Addr}{vs:List V}(h1:Ar X.K H a vs)(h2:AF X.K H a ws):False:=by
 obtain⟨_,_,⟨o,n,e,c,_⟩,_⟩:=I.list h1;obtain⟨_,_,⟨o',e',c',_⟩,_⟩:=I.tuple h2;rw[e]at e';cases e';rw[c]at c';exact absurd c' (by decide)
theorem eO{e:Nat->Bool}{bs:List Bool}(h:∀j,j<bs.length->bs[j]?=some (e j)):(aaZ bs.length).all e=bs.all id:=by
 rw[aa2,adc,adc];constructor
 .intro q b hb;obtain⟨j,hj,rfl⟩:=List.mem_iff_getElem.mp hb;have:=h j hj;rw[aaa hj]at this;have q2:=q j (List.mem_range.mpr hj);rw[<- aaq this]at q2;exact q2
 .intro q j hj;have hj:=List.mem_range.mp hj;have:=h j hj;rw[aaa hj]at this;rw[<- aaq this];exact q _ (abk hj)
theorem mE(I:Inv X pins σ H s)(sF:eQ F H):∀{d:Nat} {v:V} {x y:PV} {k:Bool},Rep X.K F v x->Rep X.K F v y->zM d x y=some k->k=true:=by
 intro d;induction d with
 |zero=>intro v x y k _ _ h;cases h
 |succ d ih=>
  intro v x y k rx ry h;have lists:∀{vs:List V} {xs ys:List PV} {bs:List Bool},yA X.K F vs xs->yA X.K F vs ys->(xs.zip ys).mapM (λp=>zM d p.1 p.2)=some bs->bs.all id=true:=λ{vs xs ys bs} r1 r2 hm=>by
   obtain⟨h1,h2⟩:=bu hm;rw[adc];intro b hb;obtain⟨j,hj,rfl⟩:=List.mem_iff_getElem.mp hb;have SX:j<(xs.zip ys).length:=by omega
   obtain⟨b',e1,e2⟩:=h2 j _ (aaa SX);rw[aaa hj]at e1;cases aaq e1;have hx:xs[j]?=some (xs.zip ys)[j].1:=by simp
   have hy:ys[j]?=some (xs.zip ys)[j].2:=by simp
   obtain⟨v1,q1,q2⟩:=r1.get hx;obtain⟨v2,q3,q4⟩:=r2.get hy;rw[q1]at q3;cases q3;exact ih q2 q4 e2
  cases rx with
  |yB=>cases ry;cases h;rfl
  |bl b=>cases ry;cases h;simp
  |int b=>cases ry;cases h;simp
  |str b=>cases ry;cases h;simp
  |tup h1 r1=>
   cases ry with
   |tup h2 r2=>
    have:=I.BM (aw sF h1) (aw sF h2);subst this;replace h:adX _ _=some k:=h;rw[aau]at h;obtain⟨bs,hb,e⟩:=h;rw[<- e,lists r1 r2 hb,<- r1.len,<- r2.len];simp
   |lst h2 r2=>exact(cU I (.inl (.inl (sF _ _ h2))) (aw sF h1)).elim
   |zh h2 r2=>cases h
   |Ba h2=>cases h
  |lst h1 r1=>
   cases ry with
   |tup h2 r2=>exact(cU I (.inl (.inl (sF _ _ h1))) (aw sF h2)).elim
   |lst h2 r2=>
    rw[h1]at h2;cases h2;replace h:(if ada _=ada _ then adX _ _ else some false)=some k:=h;rw[if_pos (by rw[<- r1.len,<- r2.len])]at h;rw[aau]at h;obtain⟨bs,hb,e⟩:=h;rw[<- e,lists r1 r2 hb]
   |zh h2 r2=>cases h
   |Ba h2=>cases h
  |zh h1 r1=>cases y<;>cases h
  |Ba h1=>cases y<;>cases h
theorem J9(I:Inv X pins σ H s)(sF:eQ F H):∀{d:Nat} {A:Around} {v u:V} {x y:PV} {a b:Value} {k:Bool},A.units+d<cLine->Rep X.K F v x->Rep X.K F u y->RelV v a->RelV u b->zM d x y=some k->SeqAt.RcAt A s a b k/\adv A s a b k:=by
 intro d;induction d with
 |zero=>intro A v u x y a b k _ _ _ _ _ h;cases h
 |succ d ih=>
  intro A v u x y a b k hu rx ry ra rb h;have Al:A.units<cLine:=by omega
  cases rx with
  |yB=>
   cases ra;cases ry with
   |yB=>cases rb;cases h;exact⟨SeqAt.RcAt.none_none,aem _⟩
   |bl b=>cases rb;cases h;exact⟨SeqAt.RcAt.none_bool b,SeqAt.EqAt.none_bool b⟩
   |int b=>obtain⟨t,rfl⟩:=rb;cases h;exact⟨SeqAt.RcAt.none_int b t,SeqAt.EqAt.none_int b t⟩
   |str b=>obtain⟨t,rfl⟩:=rb;cases h;exact⟨SeqAt.RcAt.none_str b t,SeqAt.EqAt.none_str b t⟩
   |tup h1 r1=>
    cases rb;cases h;obtain⟨nE,_,p,_⟩:=I.tuple (aw sF h1);exact⟨SeqAt.RcAt.none_tuple p Al,SeqAt.EqAt.none_tuple p Al⟩
   |lst h1 r1=>
    cases rb;cases h;obtain⟨nE,_,p,_⟩:=I.list (.inl (.inl (sF _ _ h1)));exact⟨SeqAt.RcAt.none_list p.isList Al,SeqAt.EqAt.none_list p.isList Al⟩
   |zh=>cases h
   |Ba=>cases h
  |bl a=>
   cases ra;cases ry with
   |yB=>cases rb;cases h;exact⟨SeqAt.RcAt.bool_none a,SeqAt.EqAt.bool_none a⟩
   |bl b=>cases rb;cases h;exact⟨SeqAt.RcAt.bool_bool a b,SeqAt.EqAt.bool_bool a b⟩
   |int b=>obtain⟨t,rfl⟩:=rb;cases h;exact⟨SeqAt.RcAt.bool_int a b t,SeqAt.EqAt.bool_int a b t⟩
   |str b=>obtain⟨t,rfl⟩:=rb;cases h;exact⟨SeqAt.RcAt.bool_str a b t,SeqAt.EqAt.bool_str a b t⟩
   |tup h1 r1=>
    cases rb;cases h;obtain⟨nE,_,p,_⟩:=I.tuple (aw sF h1);exact⟨SeqAt.RcAt.bool_tuple a p Al,SeqAt.EqAt.bool_tuple a p Al⟩
   |lst h1 r1=>
    cases rb;cases h;obtain⟨nE,_,p,_⟩:=I.list (.inl (.inl (sF _ _ h1)));exact⟨SeqAt.RcAt.bool_list a p.isList Al,SeqAt.EqAt.bool_list a p.isList Al⟩
   |zh=>cases h
   |Ba=>cases h
  |int a=>
   obtain⟨t',rfl⟩:=ra;cases ry with
   |yB=>cases rb;cases h;exact⟨SeqAt.RcAt.int_none a t',SeqAt.EqAt.int_none a t'⟩
   |bl b=>cases rb;cases h;exact⟨SeqAt.RcAt.int_bool a t' b,SeqAt.EqAt.int_bool a t' b⟩
   |int b=>obtain⟨t,rfl⟩:=rb;cases h;exact⟨SeqAt.RcAt.int_int a t' b t,ab0 a t' b t⟩
   |str b=>obtain⟨t,rfl⟩:=rb;cases h;exact⟨SeqAt.RcAt.int_str a t' b t,SeqAt.EqAt.int_str a t' b t⟩
   |tup h1 r1=>
    cases rb;cases h;obtain⟨nE,_,p,_⟩:=I.tuple (aw sF h1);exact⟨SeqAt.RcAt.int_tuple a t' p Al,SeqAt.EqAt.int_tuple a t' p Al⟩
   |lst h1 r1=>
    cases rb;cases h;obtain⟨nE,_,p,_⟩:=I.list (.inl (.inl (sF _ _ h1)));exact⟨SeqAt.RcAt.int_list a t' p.isList Al,SeqAt.EqAt.int_list a t' p.isList Al⟩
   |zh=>cases h
   |Ba=>cases h
  |str a=>
   obtain⟨t',rfl⟩:=ra;cases ry with
   |yB=>cases rb;cases h;exact⟨SeqAt.RcAt.str_none a t',SeqAt.EqAt.str_none a t'⟩
   |bl b=>cases rb;cases h;exact⟨SeqAt.RcAt.str_bool a t' b,SeqAt.EqAt.str_bool a t' b⟩
   |int b=>obtain⟨t,rfl⟩:=rb;cases h;exact⟨SeqAt.RcAt.str_int a t' b t,SeqAt.EqAt.str_int a t' b t⟩
   |str b=>obtain⟨t,rfl⟩:=rb;cases h;exact⟨SeqAt.RcAt.str_str a t' b t,acS a t' b t⟩
   |tup h1 r1=>
    cases rb;cases h;obtain⟨nE,_,p,_⟩:=I.tuple (aw sF h1);exact⟨SeqAt.RcAt.str_tuple a t' p Al,SeqAt.EqAt.str_tuple a t' p Al⟩
   |lst h1 r1=>
    cases rb;cases h;obtain⟨nE,_,p,_⟩:=I.list (.inl (.inl (sF _ _ h1)));exact⟨SeqAt.RcAt.str_list a t' p.isList Al,SeqAt.EqAt.str_list a t' p.isList Al⟩
   |zh=>cases h
   |Ba=>cases h
  |@tup pa vs xs h1 r1=>
   cases ra;obtain⟨nE,rv,p,_⟩:=I.tuple (aw sF h1);cases ry with
   |yB=>cases rb;cases h;exact⟨SeqAt.RcAt.tuple_none p Al,SeqAt.EqAt.tuple_none p Al⟩
   |bl b=>cases rb;cases h;exact⟨SeqAt.RcAt.tuple_bool b p Al,SeqAt.EqAt.tuple_bool b p Al⟩
   |int b=>obtain⟨t,rfl⟩:=rb;cases h;exact⟨SeqAt.RcAt.tuple_int b t p Al,SeqAt.EqAt.tuple_int b t p Al⟩
   |str b=>obtain⟨t,rfl⟩:=rb;cases h;exact⟨SeqAt.RcAt.tuple_str b t p Al,SeqAt.EqAt.tuple_str b t p Al⟩
   |@tup pb ws ys h2 r2=>
    cases rb;have h0:=h;obtain⟨Aa,Cv,p2,_⟩:=I.tuple (aw sF h2);replace h:adX (λbs:List Bool=>bs.all id && xs.length==ys.length) (List.mapM (λp:PV×PV=>zM d p.1 p.2) (xs.zip ys))=some k:=h;rw[aau]at h;obtain⟨bs,hb,e⟩:=h;obtain⟨Hf,Hg⟩:=bu hb;have l1:nE.length=xs.length:=by rw[<- rv.length,r1.len]
    have l2:Aa.length=ys.length:=by rw[<- Cv.length,r2.len]
    have rc:SeqAt.RcAt A s (.ref pa) (.ref pb) k:=by
     have:=SeqAt.RcAt.tuples (e:=λj=>bs.getD j false) p p2 Al (λj j1 j2=>by
      simp only[aam]at j1 j2;have jx:j<xs.length:=by omega
      have jy:j<ys.length:=by omega
      have hz:(xs.zip ys)[j]?=some (xs[j],ys[j]):=by rw[abj];exact⟨by simp[jx],by simp[jy]⟩
      obtain⟨b,e1,e2⟩:=Hg j _ hz;obtain⟨v1,q1,q2⟩:=r1.get (aaa jx);obtain⟨v2,q3,q4⟩:=r2.get (aaa jy);obtain⟨u1,q5,q6⟩:=rv.get q1;obtain⟨u2,q7,q8⟩:=Cv.get q3;have g1:nE.toArray[j]=u1:=by simpa[aaa j1]using q5
      have g2:Aa.toArray[j]=u2:=by simpa[aaa j2]using q7
      rw[g1,g2];have C0:bs.getD j false=b:=by simp[aes,e1]
      rw[C0];exact(ih (A:=A.in1) (by show A.units+1+d<cLine;omega) q2 q4 q6 q8 e2).2)
     have e3:((aaZ (min nE.toArray.size Aa.toArray.size)).all (λj=>bs.getD j false) && nE.toArray.size==Aa.toArray.size)=k:=by
      have e4:min nE.toArray.size Aa.toArray.size=bs.length:=by
       rw[Hf,List.length_zip,aam,aam,l1,l2]
      rw[e4,eO (λj hj=>by simp[aes,aaa hj]),aam,aam,l1,l2];exact e
     rw[e3]at this;exact this
    refine⟨rc,?_⟩;by_cases q:pa=pb
    .subst q;have:k=true:=mE I sF (.tup h1 r1) (.tup h2 r2) h0;subst this;exact aem _
    .exact SeqAt.EqAt.of_refs q rc
   |lst h2 r2=>
    cases rb;cases h;obtain⟨Aa,_,p2,_⟩:=I.list (.inl (.inl (sF _ _ h2)));exact⟨SeqAt.RcAt.tuple_list p p2.isList Al,SeqAt.EqAt.tuple_list p p2.isList Al⟩
   |zh=>cases h
   |Ba=>cases h
  |@lst pa vs xs h1 r1=>
   cases ra;obtain⟨nE,rv,p,_⟩:=I.list (.inl (.inl (sF _ _ h1)));cases ry with
   |yB=>cases rb;cases h;exact⟨SeqAt.RcAt.list_none p.isList Al,SeqAt.EqAt.list_none p.isList Al⟩
   |bl b=>cases rb;cases h;exact⟨SeqAt.RcAt.list_bool b p.isList Al,SeqAt.EqAt.list_bool b p.isList Al⟩
   |int b=>obtain⟨t,rfl⟩:=rb;cases h;exact⟨SeqAt.RcAt.list_int b t p.isList Al,SeqAt.EqAt.list_int b t p.isList Al⟩
   |str b=>obtain⟨t,rfl⟩:=rb;cases h;exact⟨SeqAt.RcAt.list_str b t p.isList Al,SeqAt.EqAt.list_str b t p.isList Al⟩
   |tup h2 r2=>
    cases rb;cases h;obtain⟨Aa,_,p2,_⟩:=I.tuple (aw sF h2);exact⟨SeqAt.RcAt.list_tuple p.isList p2 Al,SeqAt.EqAt.list_tuple p.isList p2 Al⟩
   |@lst pb ws ys h2 r2=>
    cases rb;have h0:=h;obtain⟨Aa,Cv,p2,_⟩:=I.list (.inl (.inl (sF _ _ h2)));have l1:nE.length=xs.length:=by rw[<- rv.length,r1.len]
    have l2:Aa.length=ys.length:=by rw[<- Cv.length,r2.len]
    have rc:SeqAt.RcAt A s (.ref pa) (.ref pb) k:=by
     replace h:(if xs.length=ys.length then adX (λbs:List Bool=>bs.all id) (List.mapM (λp:PV×PV=>zM d p.1 p.2) (xs.zip ys))else some false)=some k:=h;split at h
     .rename_i hl;rw[aau]at h;obtain⟨bs,hb,e⟩:=h;obtain⟨Hf,Hg⟩:=bu hb;have:=SeqAt.RcAt.lists (e:=λj=>bs.getD j false) p.isList p2.isList (by rw[aam,aam];omega) Al (λj j1 j2=>by
       simp only[aam]at j1 j2;have jx:j<xs.length:=by omega
       have jy:j<ys.length:=by omega
       have hz:(xs.zip ys)[j]?=some (xs[j],ys[j]):=by rw[abj];exact⟨by simp[jx],by simp[jy]⟩
       obtain⟨b,e1,e2⟩:=Hg j _ hz;obtain⟨v1,q1,q2⟩:=r1.get (aaa jx);obtain⟨v2,q3,q4⟩:=r2.get (aaa jy);obtain⟨u1,q5,q6⟩:=rv.get q1;obtain⟨u2,q7,q8⟩:=Cv.get q3;have g1:nE.toArray[j]=u1:=by simpa[aaa j1]using q5
       have g2:Aa.toArray[j]=u2:=by simpa[aaa j2]using q7
       rw[g1,g2];have C0:bs.getD j false=b:=by simp[aes,e1]
       rw[C0];exact(ih (A:=A.in1) (by show A.units+1+d<cLine;omega) q2 q4 q6 q8 e2).2)
      have e3:((aaZ nE.toArray.size).all (λj=>bs.getD j false))=k:=by
       have e4:nE.toArray.size=bs.length:=by
        rw[Hf,List.length_zip,aam,l1];omega
       rw[e4,eO (λj hj=>by simp[aes,aaa hj])];exact e
      rw[e3]at this;exact this
     .rename_i hl;cases h;exact SeqAt.RcAt.lists_lengths p.isList p2.isList (by simp only[aam];simpa[l1,l2]using hl) Al
    refine⟨rc,?_⟩;by_cases q:pa=pb
    .subst q;have:k=true:=mE I sF (.lst h1 r1) (.lst h2 r2) h0;subst this;exact aem _
    .exact SeqAt.EqAt.of_refs q rc
   |zh=>cases h
   |Ba=>cases h
  |zh h1 r1=>cases y<;>cases h
  |Ba h1=>cases y<;>cases h
def ze(x y:PV):Option PV:=(zM 60 x y).map .bl
def Vw.Bf(h:Vw M F H v x)(s:eQ F H)(hx:∀xs,x≠.set xs):∃F',eQ F F'/\eQ F' H/\Rep M.K F' v x:=by
 rcases h with h|⟨a,rfl,h⟩
 .exact⟨F,ak,s,h⟩
 .cases x<;>try exact h.elim
  .obtain⟨vs,h1,h2⟩:=h;cases e:F a with
   |none=>
    refine⟨_,aA e,λb o q=>?_,.lst aj (h2.mono (aA e))⟩;by_cases z:b=a
    .subst z;rw[aj]at q;cases q;exact h1
    .rw[ae z]at q;exact s b o q
   |some o=>
    have:=s a o e;rw[h1]at this;cases this;exact⟨F,ak,s,.lst e h2⟩
  .obtain⟨vs,h1,h2⟩:=h;cases e:F a with
   |none=>
    refine⟨_,aA e,λb o q=>?_,.zh aj (h2.mono (aA e))⟩;by_cases z:b=a
    .subst z;rw[aj]at q;cases q;exact h1
    .rw[ae z]at q;exact s b o q
   |some o=>
    have:=s a o e;rw[h1]at this;cases this;exact⟨F,ak,s,.zh e h2⟩
  .exact absurd rfl (hx _)
def LH(K:aaf):R2:=λv u H Q=>∃F x y k,eQ F H/\Rep K F v x/\Rep K F u y/\zM 60 x y=some k/\Q (.bl k) H
def aR(hu:X.A.units+60<cLine):zC X (aaL .Eq) (LH X.K):=by
 intro pins s σ H x y v u Q I rx ry h;obtain⟨F,p,q,k,sF,r1,r2,e,hq⟩:=h;exact(J9 I sF hu r1 r2 rx ry e).1 X.prog X.w X.xe _ ⟨.bl k,H,I,rfl,hq⟩
def aQ:BK ob X (LH X.K) ze:=by
 refine bw (P:=λ_ _ _ _=>True) λF H v u x y z sF rx ry hz=>?_;unfold ze at hz;rw[aau]at hz;obtain⟨k,hk,rfl⟩:=hz;have nx:∀xs,x≠.set xs:=λxs e=>by subst e;cases y<;>cases hk
 have ny:∀xs,y≠.set xs:=λxs e=>by subst e;cases x<;>cases hk
 obtain⟨F1,s1,s2,r1⟩:=rx.Bf sF nx;have R1:Vw (md ob X) F1 H u y:=by
  rcases ry with r|⟨a,e,r⟩
  .exact .inl (r.mono s1)
  .exact .inr ⟨a,e,r.mono s1 rfl⟩
 obtain⟨F2,s3,s4,r2⟩:=R1.Bf s2 ny;exact⟨_,λ_=>.bl _,λQ q=>⟨F2,x,y,k,s4,r1.mono s3,r2,hk,q⟩⟩
def toV:PV->Option V
 |.yB=>some .yB
 |.bl b=>some (.bl b)
 |.int i=>some (.int i)
 |.str s=>some (.str s)
 |_=>none
def qQ{w:V}(h:Vw M F H v x)(e:toV x=some w):v=w:=by
 cases x<;>cases e
 .exact h.yB
 .exact h.bl
 .exact h.int
 .exact h.str
def CH:PV->PV->Option PV
 |.lst xs,.lst []=>some (.bl (!xs.isEmpty))
 |x,y=>(toV x).bind λv=>(toV y).bind λu=>if Hx v u=true then some (.bl (!decide (v=u)))else none
def ed:BK ob X (λx y H Q=>OP x y H Q\/Dw X.K x y H Q) CH:=by
 refine bw (P:=λ_ _ _ _=>True) λF H v u x y z sF rx ry hz=>?_;unfold CH at hz;split at hz
 .cases hz;rename_i xs;obtain⟨p,vs,rfl,h1,h2⟩:=rx.lst sF;obtain⟨q,ws,rfl,g1,g2⟩:=ry.lst sF;cases g2;refine⟨_,λ_=>.bl _,λQ hq=>.inr ⟨p,q,vs,rfl,rfl,.inl (.inl h1),.inl (.inl g1),?_⟩⟩;have:vs.isEmpty=xs.isEmpty:=by have:=h2.len;cases vs<;>cases xs<;>simp at this ⊢
  rw[this];exact hq
 .cases e1:toV x with
  |none=>rw[e1]at hz;cases hz
  |some v'=>
   cases e2:toV y with
   |none=>rw[e1,e2]at hz;cases hz
   |some u'=>
    rw[e1,e2]at hz;have hz:(if Hx v' u'=true then some _ else none)=some z:=hz;split at hz
    .rename_i hs;cases hz;rw[qQ rx e1,qQ ry e2];exact⟨_,λ_=>.bl _,λQ q=>.inl ⟨hs,q⟩⟩
    .cases hz
def gy(hu:X.A.units<cLine):zC X (aaL .NotEq) (λx y H Q=>OP x y H Q\/Dw X.K x y H Q):=zC.or yf (jL hu)
def Inv.Nv(I:Inv X pins σ H s){a:Addr}{o:Obj}(h:X.K.lookup a=some o):H a=none:=(I.bs a o (I.mod.kin a o h)).2
def oC(I:Inv X pins σ H s){a:Addr}{gE:List (Key×V)}{vs:List V}(h1:H a=some (.dK gE))(h2:AF X.K H a vs):False:=by
 obtain⟨_,_,_,_,o,_,_,e,ex,_⟩:=I.yL a _ h1;obtain⟨_,_,⟨o',e',c',_⟩,_⟩:=I.tuple h2;rw[e]at e';cases e';rw[ex.1]at c';exact absurd c' (by decide)
def jm:∀{ns ms:List Int},ns.map V.int=ms.map V.int->ns=ms
 |[],[],_=>rfl
 |n::ns,m::ms,h=>by
  injection h with h1 h2;injection h1 with h1;rw[h1,jm h2]
 |[],_::_,h=>by simp_all
 |_::_,[],h=>by simp_all
variable{y:PV}
def Rep.inj(I:Inv X pins σ H s)(sF:eQ F H)(h:Rep X.K F v x)(h':Rep X.K F v y):x=y:=by
 refine Rep.rec (motive_2:=λvs xs _=>∀ys,yA X.K F vs ys->xs=ys) (motive_3:=λvs xs _=>∀ys,yC X.K F vs ys->xs=ys)
  ?_ ?_ ?_ ?_ ?_ ?_ ?_ ?_ ?_ ?_ ?_ ?_ h y h'
 .intro y h;cases h;rfl
 .intro b y h;cases h;rfl
 .intro b y h;cases h;rfl
 .intro b y h;cases h;rfl
 .intro a vs xs h1 _ ih y h;cases h with
  |tup h2 r2=>
   have:=I.BM (aw sF h1) (aw sF h2);subst this;rw[ih _ r2]
  |lst h2 r2=>exact(cU I (.inl (.inl (sF _ _ h2))) (aw sF h1)).elim
  |zh h2 r2=>exact(oC I (sF _ _ h2) (aw sF h1)).elim
  |Ba h2=>exact(cU I (dN sF h2.sq) (aw sF h1)).elim
 .intro a vs xs h1 _ ih y h;cases h with
  |tup h2 r2=>exact(cU I (.inl (.inl (sF _ _ h1))) (aw sF h2)).elim
  |lst h2 r2=>rw[h1]at h2;cases h2;rw[ih _ r2]
  |zh h2 r2=>rw[h1]at h2;cases h2
  |Ba h2=>
   rcases h2 with ⟨o,h2⟩|⟨o,_,_,h2,_⟩
   .rw[h1]at h2;cases h2
   .have:=sF _ _ h1;rw[Inv.Nv I h2]at this;cases this
 .intro a vs xs h1 _ ih y h;cases h with
  |tup h2 r2=>exact(oC I (sF _ _ h1) (aw sF h2)).elim
  |lst h2 r2=>rw[h1]at h2;cases h2
  |zh h2 r2=>rw[h1]at h2;cases h2;rw[ih _ r2]
  |Ba h2=>
   rcases h2 with ⟨o,h2⟩|⟨o,_,_,h2,_⟩
   .rw[h1]at h2;cases h2
   .have:=sF _ _ h1;rw[Inv.Nv I h2]at this;cases this
 .intro a ns h1 y h;cases h with
  |tup h2 r2=>exact(cU I (dN sF h1.sq) (aw sF h2)).elim
  |lst h2 r2=>
   rcases h1 with ⟨o,h1⟩|⟨o,_,_,h1,_⟩
   .rw[h1]at h2;cases h2
   .have:=sF _ _ h2;rw[Inv.Nv I h1]at this;cases this
  |zh h2 r2=>
   rcases h1 with ⟨o,h1⟩|⟨o,_,_,h1,_⟩
   .rw[h1]at h2;cases h2
   .have:=sF _ _ h2;rw[Inv.Nv I h1]at this;cases this
  |Ba h2=>rw[jm (I.D4 (dN sF h1.sq) (dN sF h2.sq))]
 .intro ys h;cases h;rfl
 .intro v x vs xs _ _ O9 O8 ys h;cases h with
  |cons h r=>rw[O9 _ h,O8 _ r]
 .intro ys h;cases h;rfl
 .intro k v x vs xs _ _ O9 O8 ys h;cases h with
  |cons h r=>rw[O9 _ h,O8 _ r]
variable{A:Around}
theorem iL(I:Inv X pins σ H s)(sF:eQ F H){d:Nat}{vs:List V}{us:List Value}{xs:List PV}{u:Value}{ks:List Bool}(hu:A.units+d<cLine)(rv:yz vs us)(r:yA X.K F vs xs)(rx:Rep X.K F v x)(ru:RelV v u)
  (hk:xs.mapM (λy=>zM d y x)=some ks):∃e:Value->Bool,(∀y,y∈us->adv A s y u (e y))/\us.any e=ks.any id/\us.countP e=ks.countP id/\(∀(i:Nat) (w:Value),us[i]?=some w->ks[i]?=some (e w)):=by
 obtain⟨hl,hb⟩:=bu hk;have l1:=rv.length;have l2:=r.len;have key:∀(i:Nat) (w:Value),us[i]?=some w->∃b y z,xs[i]?=some y/\vs[i]?=some z/\RelV z w/\Rep X.K F z y/\zM d y x=some b/\ks[i]?=some b:=λi w hw=>by
  obtain⟨z,e1,e2⟩:=yz.GP rv hw;obtain⟨y,e3,e4⟩:=r.GP e1;obtain⟨b,e5,e6⟩:=hb i y e3;exact⟨b,y,z,e3,e1,e2,e4,e6,e5⟩
 let e  := λw=>(us.zip ks).any λp=>p.1==w && p.2;have four:∀(i:Nat) (w:Value),us[i]?=some w->ks[i]?=some (e w):=by
  intro i w hw;obtain⟨b,y,z,e1,e2,e3,e4,e5,e6⟩:=key i w hw;rw[e6];congr 1;rw[aa2,List.any_eq_true];constructor
  .intro C0;refine⟨(w,b),aa1 (by rw[abj];exact⟨hw,e6⟩),by simp_all⟩
  .rintro⟨⟨w',b'⟩,hm,hp⟩;simp only[aaR]at hp;obtain⟨j,hj,ej⟩:=List.mem_iff_getElem.mp hm;have hz:=aaa hj;rw[ej,abj]at hz;obtain⟨QZ,Sk⟩:=hz;have Sq  := eq_of_beq hp.1;rw[Sq]at QZ;obtain⟨b2,y2,z2,f1,f2,f3,f4,f5,f6⟩:=key j w QZ;have  := e3.inj f3;subst this;have:=Rep.inj I sF e4 f4;subst this;rw[e5]at f5;cases f5;rw[Sk]at f6;cases f6;exact hp.2
 have Mu:ks=us.map e:=by
  refine acz λi=>?_;rw[aah];cases q:us[i]? with
  |none=>
   have  := List.getElem?_eq_none_iff.mp q;rw[aap (by omega)];rfl
  |some w=>rw[four i w q];rfl
 refine⟨e,λy hy=>?_,?_,?_,four⟩
 .obtain⟨i,hi,rfl⟩:=List.mem_iff_getElem.mp hy;have hw:=aaa hi;obtain⟨b,y,z,e1,e2,e3,e4,e5,e6⟩:=key i _ hw;have:=four i _ hw;rw[e6]at this;rw[<- aaq this];exact(J9 I sF hu e4 rx e3 ru e5).2
 .rw[Mu,List.any_map];rfl
 .rw[Mu,List.countP_map];rfl
def HH(x:PV):PV->Option Bool
 |.tup ys=>(ys.mapM λy=>zM 60 y x).map λks=>ks.any id
 |.lst ys=>(ys.mapM λy=>zM 60 y x).map λks=>ks.any id
 |.zh gE=>(BV x).map λk=>(Ah gE k).isSome
 |.str s=>match x with
  |.str t=>some (!(act s t 0 s.length 1).isEmpty)
  |_=>none
 |.set S=>match x with
  |.str t=>some (decide (t∈S))
  |_=>none
 |_=>none
def Gw:PV->Bool
 |.set _=>false
 |_=>true
def nQ(h:Gw x=true):∀xs,x≠.set xs:=λxs e=>by subst e;cases h
def Bp(x y:PV):Option PV:=if Gw x=true then (HH x y).map .bl else none
def A4(x y:PV):Option PV:=if Gw x=true then (HH x y).map λb=>.bl (!b)else none
def Fw(P:aaA)(w:World)(K:aaf)(neg:Bool):R2:=λv u H Q=>∃(F:Hp) (x:PV) (b:Bool),eQ F H/\Q (.bl (if neg then !b else b)) H /\
 ((∃p vs ys ks,u=.ref p/\(Ar K H p vs\/AF K H p vs)/\yA K F vs ys/\Rep K F v x/\ys.mapM (λy=>zM 60 y x)=some ks/\b=ks.any id) \/
  (∃p o,u=.ref p/\Em H p v o/\b=o.isSome)\/(∃i j,v=.str i/\u=.str j/\b=!(act j i 0 j.length 1).isEmpty) \/
  (∃z a S n,v=.str z/\u=.ref a/\H a=some (Jj P w a S n)/\b=S z))
theorem cI(hu:X.A.units+62<cLine):zC X (aaL .In) (Fw X.prog X.w X.K false):=by
 intro pins s σ H v u v' u' Q I rv ru h;obtain⟨F,x,b,sF,q,h⟩:=h;rcases h with ⟨p,vs,ys,ks,rfl,hs,hr,hx,hk,rfl⟩|⟨p,o,rfl,hd,rfl⟩|⟨i,j,rfl,rfl,rfl⟩|⟨z,a,S,n,rfl,rfl,ha,rfl⟩
 .cases ru;rcases hs with hs|hs
  .obtain⟨nE,r,pl,_⟩:=I.list hs;obtain⟨e,e1,e2,_⟩:=iL I sF (A:=X.A.in1) (by show X.A.units+1+60<cLine;omega) r hr hx rv hk;refine SeqAt.in_listAt e pl.isList (λy hy=>e1 y (by simp_all)) ⟨.bl _,H,I,rfl,?_⟩;rw[show nE.toArray.any e=nE.any e by simp,e2];exact q
  .obtain⟨nE,r,pl,_⟩:=I.tuple hs;obtain⟨e,e1,e2,_⟩:=iL I sF (A:=X.A.in1) (by show X.A.units+1+60<cLine;omega) r hr hx rv hk;refine SeqAt.in_tupleAt e pl (λy hy=>e1 y (by simp_all)) ⟨.bl _,H,I,rfl,?_⟩;rw[show nE.toArray.any e=nE.any e by simp,e2];exact q
 .cases ru;exact yt (by omega) I hd rv λs3 I3=>⟨.bl _,H,I3,rfl,q⟩
 .exact rJ pins s σ H _ _ _ _ Q I rv ru ⟨i,j,rfl,rfl,q⟩
 .cases ru;obtain⟨t,rfl⟩:=rv;obtain⟨x,_,_⟩:=I.yL a _ ha;exact wpAny_inSet_of (strKind_is _ _ _ _) rfl x ⟨.bl (S z),H,I.tok _,rfl,q⟩
theorem fJ(hu:X.A.units+62<cLine):zC X (aaL .NotIn) (Fw X.prog X.w X.K true):=by
 intro pins s σ H v u v' u' Q I rv ru h;obtain⟨F,x,b,sF,q,h⟩:=h;rcases h with ⟨p,vs,ys,ks,rfl,hs,hr,hx,hk,rfl⟩|⟨p,o,rfl,hd,rfl⟩|⟨i,j,rfl,rfl,rfl⟩|⟨z,a,S,n,rfl,rfl,ha,rfl⟩
 .cases ru;rcases hs with hs|hs
  .obtain⟨nE,r,pl,_⟩:=I.list hs;obtain⟨e,e1,e2,_⟩:=iL I sF (A:=X.A.in1) (by show X.A.units+1+60<cLine;omega) r hr hx rv hk;refine SeqAt.notIn_listAt e pl.isList (λy hy=>e1 y (by simp_all)) ⟨.bl _,H,I,rfl,?_⟩;rw[show nE.toArray.any e=nE.any e by simp,e2];exact q
  .obtain⟨nE,r,pl,_⟩:=I.tuple hs;obtain⟨e,e1,e2,_⟩:=iL I sF (A:=X.A.in1) (by show X.A.units+1+60<cLine;omega) r hr hx rv hk;refine SeqAt.notIn_tupleAt e pl (λy hy=>e1 y (by simp_all)) ⟨.bl _,H,I,rfl,?_⟩;rw[show nE.toArray.any e=nE.any e by simp,e2];exact q
 .cases ru;exact wj (by omega) I hd rv λs3 I3=>⟨.bl _,H,I3,rfl,q⟩
 .exact nN pins s σ H _ _ _ _ Q I rv ru ⟨i,j,rfl,rfl,q⟩
 .exact rF pins s σ H _ _ _ _ Q I rv ru ⟨z,a,S,n,rfl,rfl,ha,q⟩
def sd{u:V}{b neg:Bool}(sF:eQ F H)(nx:∀xs,x≠.set xs)(rx:Vw (md ob X) F H v x)(ry:Vw (md ob X) F H u y)(hz:HH x y=some b)(Q:VK)(q:Q (.bl (if neg then !b else b)) H):Fw X.prog X.w X.K neg v u H Q:=by
 unfold HH at hz;have seq:∀{p:Addr} {vs:List V} {ys:List PV},u=.ref p->(Ar X.K H p vs\/AF X.K H p vs)->yA X.K F vs ys->((ys.mapM λy=>zM 60 y x).map _)=some b->Fw X.prog X.w X.K neg v u H Q:=λ{p vs ys} hp hs hr hz=>by
  rw[aau]at hz;obtain⟨ks,hk,e⟩:=hz;obtain⟨F1,s1,s2,r1⟩:=rx.Bf sF nx;exact⟨F1,x,b,s2,q,.inl ⟨p,vs,ys,ks,hp,hs,hr.mono s1,r1,hk,e.symm⟩⟩
 split at hz
 .obtain⟨p,vs,e,h1,h2⟩:=ry.tup sF;exact seq e (.inr h1) h2 hz
 .obtain⟨p,vs,e,h1,h2⟩:=ry.lst sF;exact seq e (.inl (.inl (.inl h1))) h2 hz
 .obtain⟨p,vs,e,h1,h2⟩:=ry.zh sF;rw[aau]at hz;obtain⟨k,hk,rfl⟩:=hz;have hv:=Ih rx hk;subst hv;refine⟨F,.yB,_,sF,q,.inr (.inl ⟨p,_,e,O7 h1,?_⟩)⟩;rcases h2.val with ⟨e1,e2⟩|⟨w,w',e1,e2,_⟩
  .rw[e1,e2];rfl
  .rw[e1,e2];rfl
 .split at hz
  .cases hz;exact⟨F,.yB,_,sF,q,.inr (.inr (.inl ⟨_,_,rx.str,ry.str,rfl⟩))⟩
  .cases hz
 .split at hz
  .cases hz;rcases ry with r|⟨p,rfl,r⟩
   .cases r
   .exact⟨F,.yB,_,sF,q,.inr (.inr (.inr ⟨_,p,_,_,rx.str,rfl,r,rfl⟩))⟩
  .cases hz
 .cases hz
def cH:BK ob X (Fw X.prog X.w X.K false) Bp:=by
 refine bw (P:=λ_ _ _ _=>True) λF H v u x y z sF rx ry hz=>?_;unfold Bp at hz;split at hz;case isFalse=>cases hz
 rename_i nx;rw[aau]at hz;obtain⟨b,hb,rfl⟩:=hz;exact⟨_,λ_=>.bl _,λQ q=>sd sF (nQ nx) rx ry hb Q q⟩
def fI:BK ob X (Fw X.prog X.w X.K true) A4:=by
 refine bw (P:=λ_ _ _ _=>True) λF H v u x y z sF rx ry hz=>?_;unfold A4 at hz;split at hz;case isFalse=>cases hz
 rename_i nx;rw[aau]at hz;obtain⟨b,hb,rfl⟩:=hz;exact⟨_,λ_=>.bl _,λQ q=>sd sF (nQ nx) rx ry hb Q q⟩
inductive G0 (M:Md) (F H:Hp):List V->List PV->Prop where
 |nil:G0 M F H [] []
 |cons {v:V} {x:PV} {vs:List V} {xs:List PV}:Vw M F H v x->G0 M F H vs xs->G0 M F H (v::vs) (x::xs)
def yA.RN{vs:List V}{xs:List PV}(h:yA M.K F vs xs):G0 M F H vs xs:=by
 induction h using yA.ind with
 |nil=>exact .nil
 |cons a _ ih=>exact .cons (.inl a) ih
def G0.one{vs:List V}(h:G0 M F H vs [x]):∃v,vs=[v]/\Vw M F H v x:=by
 cases h with
 |cons a r=>cases r;exact⟨_,rfl,a⟩
def G0.two{vs:List V}(h:G0 M F H vs [x,y]):∃v u,vs=[v,u]/\Vw M F H v x/\Vw M F H u y:=by
 cases h with
 |cons a r=>
  cases r with
  |cons b r=>cases r;exact⟨_,_,rfl,a,b⟩
structure FO(ob:zP)(X:Cx)(es:List Expr)(f:WA):Prop where
 ex:∃t:TA,PA X es t/\∀(Z:Zn) (F:Hp) (σ:L2.St) (H:Hp) (env:En) (P:List PV->En->Prop) (Q:List V->Hp->Prop),yx (md ob X) Z F σ H env->f env P ->
  (∀xs dO vs F' H',P xs dO->eQ F F'->yx (md ob X) Z F' σ H' dO->G0 (md ob X) F' H' vs xs->Q vs H')->t σ H Q
def a1(a:WE):WA:=λenv P=>a env λx e=>P [x] e
def BJ(o:List PV->Option PV)(fa:WA):WE:=λenv P=>fa env λxs e=>opt (o xs) λz=>P z e
variable{es:List Expr}{fa:WA}{x:Str}{IA T:String}{r:List V->Hp->VK->Prop}{o:List PV->Option PV}
def DV(h:Ex ob X es fa):FO ob X es fa:=by
 obtain⟨t,ht,k⟩:=h.ex;exact⟨t,ht,λZ F σ H env P Q K hf kk=>k Z F σ H env P Q K hf λxs e1 vs F1 H1 p _ s1 K1 r1=>kk xs e1 vs F1 H1 p s1 K1 r1.RN⟩
def e7(h:CZ ob X e f)(hs:aag [e] X.env=(false,eval e X.env)::aag [] X.env:=by rfl):FO ob X [e] (a1 f):=by
 obtain⟨t,ht,k⟩:=h.ex;exact⟨_,aY ht be hs,λZ F σ H env P Q K hf kk=>k Z F σ H env _ _ K hf λx e1 v F1 H1 p s1 K1 r1=>kk [x] e1 [v] F1 H1 p s1 K1 (.cons r1 .nil)⟩
def Ck(ob:zP)(X:Cx)(r:List V->Hp->VK->Prop)(o:List PV->Option PV):Prop :=
 ∀(Z:Zn) (F:Hp) (σ:L2.St) (H:Hp) (env:En) (vs:List V) (xs:List PV) (z:PV) (Q:VK),yx (md ob X) Z F σ H env->G0 (md ob X) F H vs xs->o xs=some z ->
  (∀v' F' H',eQ F F'->yx (md ob X) Z F' σ H' env->Rep X.K F' v' z->Q v' H')->r vs H Q
def qZ{t:TA}(hq:Ck ob X r o)(k:∀(Z:Zn) (F:Hp) (σ:L2.St) (H:Hp) (env:En) (P:List PV->En->Prop) (Q:List V->Hp->Prop),yx (md ob X) Z F σ H env->fa env P->(∀xs dO vs F' H',P xs dO->eQ F F'->yx (md ob X) Z F' σ H' dO->G0 (md ob X) F' H' vs xs->Q vs H')->t σ H Q):
  ∀(Z:Zn) (F:Hp) (σ:L2.St) (H:Hp) (env:En) (P:PV->En->Prop) (Q:VK),yx (md ob X) Z F σ H env->BJ o fa env P->(∀x dO v F' H',P x dO->eQ F F'->yx (md ob X) Z F' σ H' dO->Rep X.K F' v x->Q v H')->OB r t σ H Q:=by
 intro Z F σ H env P Q K hf kk;refine k Z F σ H env _ _ K hf λxs e1 vs F1 H1 p s1 K1 r1=>?_;obtain⟨z,hz,p⟩:=p;exact hq Z F1 σ H1 e1 vs xs z Q K1 r1 hz λv' F' H' s2 K2 r2=>kk z e1 v' F' H' p (ah s1 s2) K2 r2
def dI(hc:za X (.builtin IA) r)(hq:Ck ob X r o)(hg:Gl X x)(hm:X.mg x=none)(hv:ab2 x=some (.builtin IA))(ha:FO ob X (e::es) fa)(hn:x ≠ "__name__" :=by decide)(BY:(x==("__debug__" : Str))=false:=by decide)
  (he:aag (e::es) X.env=(false,eval e X.env)::aag es X.env:=by rfl) (AQ:(backTo pos (aag es X.env)).any (·.1)=false:=by rfl):yW ob X (.Call (.Name x p) (e::es) [] pos) (BJ o fa):=by
 obtain⟨t,ht,k⟩:=ha.ex;exact⟨_,cw hc hg hm hv ht hn BY he AQ,qZ hq k⟩
def dg(hc:za X (.type T) r)(hq:Ck ob X r o)(hg:Gl X x)(hm:X.mg x=none)(hv:ab2 x=some (.type T))(ha:FO ob X (e::es) fa)(hn:x ≠ "__name__" :=by decide)(BY:(x==("__debug__" : Str))=false:=by decide)
  (he:aag (e::es) X.env=(false,eval e X.env)::aag es X.env:=by rfl) (AQ:(backTo pos (aag es X.env)).any (·.1)=false:=by rfl):yW ob X (.Call (.Name x p) (e::es) [] pos) (BJ o fa):=by
 obtain⟨t,ht,k⟩:=ha.ex;exact⟨_,rA hc hg hm hv ht hn BY he AQ,qZ hq k⟩
variable{ns:List Int}
def Vw.Ba(h:Vw M F H v (.Ba ns))(s:eQ F H):∃a,v=.ref a/\Ar M.K H a (ns.map V.int):=by
 rcases h with h|⟨a,rfl,h⟩
 .cases h with
  |Ba h=>exact⟨_,rfl,dN s h.sq⟩
 .exact h.elim
def Bx:List PV->Option PV
 |[.lst xs]=>some (.int xs.length)
 |[.tup xs]=>some (.int xs.length)
 |[.zh xs]=>some (.int xs.length)
 |[.str s]=>if s.length<=100000 then some (.int s.length)else none
 |[.Ba ns]=>some (.int ns.length)
 |_=>none
def Lz(K:aaf):List V->Hp->VK->Prop:=λxs H Q=>(∃p ys,xs=[.ref p]/\(Ar K H p ys\/AF K H p ys)/\Q (.int ys.length) H)\/((∃z,xs=[.str z]/\z.length<=sizeLine/\Q (.int z.length) H)\/∃a gE,xs=[V.ref a]/\H a=some (.dK gE)/\Q (.int gE.length) H)
def f7:za X (.builtin "len") (Lz X.K):=za.or ir (za.or oJ sI)
def f8:Ck ob X (Lz X.K) Bx:=by
 intro Z F σ H env vs xs z Q K rv hz k;unfold Bx at hz;split at hz
 .cases hz;obtain⟨v,rfl,r⟩:=rv.one;obtain⟨p,vs,rfl,h1,h2⟩:=r.lst K.sF;exact .inl ⟨p,vs,rfl,.inl (.inl (.inl h1)),k _ F H ak K (by rw[h2.len];exact .int _)⟩
 .cases hz;obtain⟨v,rfl,r⟩:=rv.one;obtain⟨p,vs,rfl,h1,h2⟩:=r.tup K.sF;exact .inl ⟨p,vs,rfl,.inr h1,k _ F H ak K (by rw[h2.len];exact .int _)⟩
 .cases hz;obtain⟨v,rfl,r⟩:=rv.one;obtain⟨p,vs,rfl,h1,h2⟩:=r.zh K.sF;exact .inr (.inr ⟨p,vs,rfl,h1,k _ F H ak K (by rw[h2.len];exact .int _)⟩)
 .split at hz
  .cases hz;obtain⟨v,rfl,r⟩:=rv.one;rw[r.str];exact .inr (.inl ⟨_,rfl,by rw[aaB];omega,k _ F H ak K (.int _)⟩)
  .cases hz
 .cases hz;obtain⟨v,rfl,r⟩:=rv.one;obtain⟨p,rfl,h1⟩:=r.Ba K.sF;exact .inl ⟨p,_,rfl,.inl h1,k _ F H ak K (by rw[aae];exact .int _)⟩
 .cases hz
def bo:List PV->Option PV
 |[.lst xs]=>some (.tup xs)
 |[.tup xs]=>some (.tup xs)
 |_=>none
def Gs(K:aaf):List V->Hp->VK->Prop:=λxs H Q=>∃p ys,xs=[.ref p]/\((Ar K H p ys/\∀l,H l=none->Q (.ref l) (upd H l (.tup ys)))\/(AF K H p ys/\Q (.ref p) H))
def bz:za X (.type "tuple") (Gs X.K):=mW
def bA:Ck ob X (Gs X.K) bo:=by
 intro Z F σ H env vs xs z Q K rv hz k;unfold bo at hz;split at hz
 .cases hz;obtain⟨v,rfl,r⟩:=rv.one;obtain⟨p,vs,rfl,h1,h2⟩:=r.lst K.sF;refine⟨p,vs,rfl,.inl ⟨.inl (.inl h1),λl hl=>?_⟩⟩;have hF  := eQ.none_of K.sF hl;exact k _ _ _ (aA hF) (K.lay hl) (.tup (.inl (.inl aj)) (h2.mono (aA hF)))
 .cases hz;obtain⟨v,rfl,r⟩:=rv.one;have r':=r.Gf;obtain⟨p,vs,rfl,h1,h2⟩:=r.tup K.sF;exact⟨p,vs,rfl,.inr ⟨h1,k _ F H ak K r'⟩⟩
 .cases hz
def g6:∀(ns:List Int),yA K F (ns.map V.int) (ns.map PV.int)
 |[]=>.nil
 |n::ns=>.cons (.int n) (g6 ns)
def GZ:List PV->Option PV
 |[.int i]=>some (.int (if i<0 then -i else i))
 |_=>none
def x5:Ck ob X (λxs H Q=>∃i,xs=[.int i]/\Q (.int (if i<0 then -i else i)) H) GZ:=by
 intro Z F σ H env vs xs z Q K rv hz k;unfold GZ at hz;split at hz
 .cases hz;obtain⟨v,rfl,r⟩:=rv.one;rw[r.int];exact⟨_,rfl,k _ F H ak K (.int _)⟩
 .cases hz
def Fh:List PV->Option PV
 |[.int i,.int j]=>some (.int (if j > i then j else i))
 |[.str s,.str t]=>some (.str (Gz s t))
 |_=>none
theorem xY(hc:X.calm=true):za X (.builtin "max") (λxs H Q=>(∃i j,xs=[.int i,.int j]/\Q (.int (if j > i then j else i)) H)\/∃x y,xs=[.str x,.str y]/\Q (.str (Gz x y)) H):=za.or (sE hc) (qH hc)
theorem x3:Ck ob X (λxs H Q=>(∃i j,xs=[.int i,.int j]/\Q (.int (if j > i then j else i)) H)\/∃x y,xs=[.str x,.str y]/\Q (.str (Gz x y)) H) Fh:=by
 intro Z F σ H env vs xs z Q K rv hz k;unfold Fh at hz;split at hz
 .cases hz;obtain⟨v,u,rfl,r1,r2⟩:=rv.two;rw[r1.int,r2.int];exact .inl ⟨_,_,rfl,k _ F H ak K (.int _)⟩
 .cases hz;obtain⟨v,u,rfl,r1,r2⟩:=rv.two;rw[r1.str,r2.str];exact .inr ⟨_,_,rfl,k _ F H ak K (.str _)⟩
 .cases hz
def GC:PV->Option Int
 |.int i=>some i
 |_=>none
def DZ:PV->Option Str
 |.str i=>some i
 |_=>none
def cv{g:PV->Option α}{w:α->V}(hg:∀x a,g x=some a->∀v,Rep K F v x->v=w a):∀{xs:List PV} {as:List α} {vs:List V},xs.mapM g=some as->yA K F vs xs->vs=as.map w
 |[],as,vs,h,r=>by simp at h;subst h;cases r;rfl
 |x::xs,as,vs,h,r=>by
  rw[abq]at h;cases ea:g x with
  |none=>rw[ea]at h;cases h
  |some a=>
   rw[ea]at h;cases el:xs.mapM g with
   |none=>rw[el]at h;cases h
   |some bs=>
    rw[el]at h;cases h;cases r with
    |cons r1 r2=>rw[aaz,hg x a ea _ r1,cv hg el r2]
def Dm:List PV->Option PV
 |[.lst xs]=>(xs.mapM Dc).map λbs=>.bl (bs.all id)
 |_=>none
def x6(x:PV)(a:Bool)(h:Dc x=some a)(v:V)(r:Rep K F v x):v=.bl a:=by cases x<;>cases h;cases r;rfl
def fC(x:PV)(a:Str)(h:DZ x=some a)(v:V)(r:Rep K F v x):v=.str a:=by cases x<;>cases h;cases r;rfl
def x4:Ck ob X (λxs H Q=>∃(p:Addr) (bs:List Bool),xs=[.ref p]/\Ar X.K H p (bs.map V.bl)/\Q (.bl (bs.all id)) H) Dm:=by
 intro Z F σ H env vs xs z Q K rv hz k;unfold Dm at hz;split at hz
 .rw[aau]at hz;obtain⟨ns,hn,rfl⟩:=hz;obtain⟨v,rfl,r⟩:=rv.one;obtain⟨p,vs,rfl,h1,h2⟩:=r.lst K.sF;have:=cv x6 hn h2;subst this;exact⟨p,ns,rfl,.inl (.inl h1),k _ F H ak K (.bl _)⟩
 .cases hz
abbrev WO:=En->(Option Int->En->Prop)->Prop
structure N3(ob:zP)(X:Cx)(e:Option Expr)(f:WO):Prop where
 ex:∃t:TO,PO X e t/\∀(Z:Zn) (F:Hp) (σ:L2.St) (H:Hp) (env:En) (P:Option Int->En->Prop) (Q:Option Int->Hp->Prop),yx (md ob X) Z F σ H env->f env P ->
  (∀i dO F' H',P i dO->eQ F F'->yx (md ob X) Z F' σ H' dO->Q i H')->t σ H Q
def Bw:WO:=λenv P=>P none env
def Bv(a:WE):WO:=λenv P=>a env λx e=>opt (GC x) λi=>P (some i) e
def dS:N3 ob X none Bw:=⟨_,lu,λZ F σ H env P Q K hf k=>k none env F H hf ak K⟩
def dR(h:CZ ob X e f):N3 ob X (some e) (Bv f):=by
 obtain⟨t,ht,k⟩:=h.ex;refine⟨_,ls ht,λZ F σ H env P Q K hf kk=>k Z F σ H env _ _ K hf λx e1 v F1 H1 p s1 K1 r1=>?_⟩;obtain⟨z,hz,p⟩:=p;cases x<;>cases hz;rw[r1.int];exact⟨_,rfl,kk _ e1 F1 H1 p s1 K1⟩
def AX(xs:List α)(lo hi:Option Int):List α:=(xs.drop (HT.Ae xs.length 0 lo)).take (HT.Ae xs.length xs.length hi - HT.Ae xs.length 0 lo)
def Hv:PV->Option Int->Option Int->Option PV
 |.lst xs,lo,hi=>some (.lst (AX xs lo hi))
 |.tup xs,lo,hi=>some (.tup (AX xs lo hi))
 |.Ba ns,lo,hi=>some (.lst ((AX ns lo hi).map .int))
 |_,_,_=>none
def HX(a:WE)(lo hi:WO):WE:=λenv P=>a env λx e1=>lo e1 λl e2=>hi e2 λu e3=>opt (Hv x l u) λz=>P z e3
def oD{vs:List V}{xs:List PV}{lo hi:Option Int}(r:yA K F vs xs):yA K F (CT vs lo hi) (AX xs lo hi):=by
 unfold CT AX;rw[r.len];exact(r.drop _).take _
def wm{lo hi:Option Int}:CT (ns.map V.int) lo hi=(AX ns lo hi).map V.int:=by
 unfold CT AX;rw[aae,List.map_take,List.map_drop]
theorem iQ{l u:Option Expr}{lo hi:WO}{p2:Pos}(ha:yW ob X a f)(hl:N3 ob X l lo)(hu:N3 ob X u hi):yW ob X (.Subscript a (.Slice l u none p2) pos) (HX f lo hi):=by
 obtain⟨t,ht,k⟩:=ha.ex;obtain⟨t1,HI,k1⟩:=hl.ex;obtain⟨t2,JG,k2⟩:=hu.ex;refine⟨_,jJ (H0.or kU uR) ht HI JG,λZ F σ H env P Q K hf kk=>k Z F σ H env _ _ K hf λx e1 v F1 H1 p s1 K1 r1=>?_⟩;refine k1 Z F1 σ H1 e1 _ _ K1 p λi e2 F2 H2 p2 s2 K2=>k2 Z F2 σ H2 e2 _ _ K2 p2 λj e3 F3 H3 p3 s3 K3=>?_;obtain⟨z,hz,p3⟩:=p3;have r3:=(r1.mono s2).mono s3;have s4:=ah s1 (ah s2 s3);have OQ:Vw (md ob X) F3 H3 v x:=.inl r3;cases x<;>simp only[Hv]at hz<;>cases hz
 .obtain⟨q,vs,rfl,h1,h2⟩:=OQ.tup K3.sF;refine .inr ⟨q,vs,rfl,h1,λhw=>kk _ e3 _ F3 H3 p3 s4 K3 ?_,λl hl=>?_⟩
  .have:AX ‹_› i j=‹List PV›:=by
    unfold AX;rw[<- h2.len,hw.1,hw.2];simp[h2.len]
   rw[this];exact r3
  .have hF  := eQ.none_of K3.sF hl;exact kk _ e3 _ _ _ p3 (ah s4 (aA hF)) (K3.lay hl) (.tup (.inl (.inl aj)) ((oD h2).mono (aA hF)))
 .obtain⟨q,vs,rfl,h1,h2⟩:=OQ.lst K3.sF;refine .inl ⟨q,vs,rfl,.inl (.inl h1),λl hl=>?_⟩;have hF  := eQ.none_of K3.sF hl;exact kk _ e3 _ _ _ p3 (ah s4 (aA hF)) (K3.lay hl) (.lst aj ((oD h2).mono (aA hF)))
 .obtain⟨q,rfl,h1⟩:=OQ.Ba K3.sF;refine .inl ⟨q,_,rfl,h1,λl hl=>?_⟩;have hF  := eQ.none_of K3.sF hl;exact kk _ e3 _ _ _ p3 (ah s4 (aA hF)) (K3.lay hl) (.lst (by rw[aj,wm]) (g6 _))
structure Na(M:Md)(Z:Zn)(F:Hp)(P:Wd)(D:Ends):Prop where
 nx:∀env σ F' H,P.nx env->eQ F F'->yx M Z F' σ H env->D.nx σ H
 rt:∀x env v σ F' H,P.rt x env->eQ F F'->yx M Z F' σ H env->Rep M.K F' v x->D.rt v H
 bk:∀env σ F' H,P.bk env->eQ F F'->yx M Z F' σ H env->D.bk σ H
 ct:∀env σ F' H,P.ct env->eQ F F'->yx M Z F' σ H env->D.ct σ H
 rf:∀x env v σ F' H,P.rf x env->eQ F F'->(∀xs,x≠.set xs)->yx M Z F' (σ++[some v]) H (env++[some ⟨1,x⟩])->D.rt v H
 ro:∀x i env v σ F' H,P.ro x i env->eQ F F'->yx M Z F' σ H env->env[i]?=some (some ⟨4,x⟩)->σ[i]?=some (some v)->D.rt v H
variable{Z:Zn}{F1:Hp}{P:Wd}
def Na.mono{D:Ends}(h:Na M Z F P D)(s:eQ F F1):Na M Z F1 P D :=
 ⟨λe σ F' H p q=>h.nx e σ F' H p (ah s q),λx e v σ F' H p q=>h.rt x e v σ F' H p (ah s q),λe σ F' H p q=>h.bk e σ F' H p (ah s q),λe σ F' H p q=>h.ct e σ F' H p (ah s q),λx e v σ F' H p q=>h.rf x e v σ F' H p (ah s q),λx i e v σ F' H p q=>h.ro x i e v σ F' H p (ah s q)⟩
structure C1(ob:zP)(X:Cx)(st:Stmt)(f:WS):Prop where
 ex:∃t:TS,PS X st t/\∀(Z:Zn) (F:Hp) (σ:L2.St) (H:Hp) (env:En) (P:Wd) (D:Ends),yx (md ob X) Z F σ H env->f P env->Na (md ob X) Z F P D->t D σ H
structure B6(ob:zP)(X:Cx)(st:List Stmt)(f:WS):Prop where
 ex:∃t:TS,E4 X st t/\∀(Z:Zn) (F:Hp) (σ:L2.St) (H:Hp) (env:En) (P:Wd) (D:Ends),yx (md ob X) Z F σ H env->f P env->Na (md ob X) Z F P D->t D σ H
abbrev WG:=PV->En->(En->Prop)->Prop
structure Nf(ob:zP)(X:Cx)(tg:Expr)(f:WG):Prop where
 ex:∃t:TG,PG X tg t/\∀(Z:Zn) (F:Hp) (σ:L2.St) (H:Hp) (env:En) (v:V) (x:PV) (P:En->Prop) (Q:L2.St->Hp->Prop),yx (md ob X) Z F σ H env->Rep X.K F v x->f x env P ->
  (∀dO σ' F' H',P dO->eQ F F'->yx (md ob X) Z F' σ' H' dO->Q σ' H')->t v σ H Q
abbrev IQ:=List PV->En->(En->Prop)->Prop
structure Ic(ob:zP)(X:Cx)(RW:List Expr)(f:IQ):Prop where
 ex:∃t:F9,M5 X RW t/\∀(Z:Zn) (F:Hp) (σ:L2.St) (H:Hp) (env:En) (vs:List V) (xs:List PV) (P:En->Prop) (Q:L2.St->Hp->Prop),yx (md ob X) Z F σ H env->yA X.K F vs xs->f xs env P ->
  (∀dO σ' F' H',P dO->eQ F F'->yx (md ob X) Z F' σ' H' dO->Q σ' H')->t vs σ H Q
def yy(a b:WS):WS:=λP env=>a {P with nx:=b P} env
def zS:WS:=λP env=>P.nx env
def yJ(a:WE):WS:=λP env=>a env P.rt
def B9(a:WE):WS:=λP env=>a env λ_ e=>P.nx e
def Br(c:WT)(a b:WS):WS:=λP env=>c env λk e=>if k=true then a P e else b P e
def y8(i:Nat)(a:WE):WS:=λP env=>a env λx e=>P.nx (e.set i (some ⟨0,x⟩))
def A0(i:Nat)(a:WE):WS:=λP env=>a env λx e=>P.nx (e.set i (some ⟨1,x⟩))
def gN(i:Nat):WG:=λx env P=>P (env.set i (some ⟨0,x⟩))
def Ce:IQ:=λxs env P=>xs=[]/\P env
def zU(g:WG)(r:IQ):IQ:=λxs env P=>match xs with
 |[]=>False
 |x::xs=>g x env λe=>r xs e P
def gT(r:IQ):WG:=λx env P=>match x with
 |.tup xs=>r xs env P
 |_=>False
def Fu(a:WE)(g:WG):WS:=λP env=>a env λx e=>g x e P.nx
def D1(i j:Nat)(a:WA):WS:=λP env=>a env λxs e=>match xs with
 |[x,y]=>P.nx ((e.set i (some ⟨0,x⟩)).set j (some ⟨0,y⟩))
 |_=>False
variable{tg:Expr}{st:Stmt}{Ks:List Stmt}{u v:WS}
def aG:B6 ob X [] zS:=⟨_,pD,λZ F σ H env P D K hf L=>L.nx env σ F H hf ak K⟩
def ai(h1:C1 ob X st u)(h2:B6 ob X Ks v):B6 ob X (st::Ks) (yy u v):=by
 obtain⟨t1,HI,k1⟩:=h1.ex;obtain⟨t2,JG,k2⟩:=h2.ex;refine⟨_,bH HI JG,λZ F σ H env P D K hf L=>k1 Z F σ H env _ _ K hf ⟨λe σ' F' H' p s K'=>?_,L.rt,L.bk,L.ct,L.rf,L.ro⟩⟩;exact k2 Z F' σ' H' e P D K' p (L.mono s)
def aq(h1:C1 ob X st u):B6 ob X [st] u:=by
 obtain⟨t1,HI,k1⟩:=h1.ex;exact⟨t1,cT HI,k1⟩
def ay(h:yW ob X e f):C1 ob X (.Return (some e) pos) (yJ f):=by
 obtain⟨t,ht,k⟩:=h.ex;exact⟨_,fF ht,λZ F σ H env P D K hf L=>k Z F σ H env _ _ K hf λx e1 v F1 H1 p s1 K1 r1=>L.rt x e1 v σ F1 H1 p s1 K1 r1⟩
def dQ(h:CZ ob X e f)(hs:abK e none pos.line X.env=pure false:=by rfl):C1 ob X (.Expr e pos) (B9 f):=by
 obtain⟨t,ht,k⟩:=h.ex;exact⟨_,lr ht hs,λZ F σ H env P D K hf L=>k Z F σ H env _ _ K hf λx e1 v F1 H1 p s1 K1 r1=>L.nx e1 σ F1 H1 p s1 K1⟩
def aN{s1 s2:List Stmt}(hc:Ew ob X c t)(ha:B6 ob X s1 u)(hb:B6 ob X s2 v):C1 ob X (.If c s1 s2 pos) (Br t u v):=by
 obtain⟨w,hw,k⟩:=hc.ex;obtain⟨ta,ha,ka⟩:=ha.ex;obtain⟨tb,hb,kb⟩:=hb.ex;refine⟨_,uz hw ha hb,λZ F σ H env P D K hf L=>k Z F σ H env _ _ K hf λx e1 F1 H1 p s1 K1=>?_⟩;cases x with
 |true=>exact Cq (ka Z F1 σ H1 e1 P D K1 p (L.mono s1))
 |false=>exact BW (kb Z F1 σ H1 e1 P D K1 p (L.mono s1))
def aB(i:Nat){pos':Pos}(hN:X.N.Nodup)(hi:X.N[i]?=some x)(hx:Loc X.env.scope x)(he:yW ob X e f)(hs:abK e (some (.Name x pos')) pos.line X.env=pure false:=by rfl)(hf:X.fn x=true\/X.env.scope.names.lookup x=some .local:=by first|exact .inl rfl|exact .inr rfl|assumption):
  C1 ob X (.Assign [.Name x pos'] e pos) (y8 i f):=by
 obtain⟨t,ht,k⟩:=he.ex;exact⟨_,d0 hN hi hx ht hs hf,λZ F σ H env P D K hf L=>k Z F σ H env _ _ K hf λx e1 v F1 H1 p s1 K1 r1=>L.nx _ _ F1 H1 p s1 (K1.put r1)⟩
def dP(i:Nat){pos':Pos}(hN:X.N.Nodup)(hi:X.N[i]?=some x)(hx:Loc X.env.scope x)(he:Ie ob X e f)(hs:abK e (some (.Name x pos')) pos.line X.env=pure false:=by rfl)(hf:X.fn x=true\/X.env.scope.names.lookup x=some .local:=by first|exact .inl rfl|exact .inr rfl|assumption):
  C1 ob X (.Assign [.Name x pos'] e pos) (A0 i f):=by
 obtain⟨t,ht,k⟩:=he.ex;exact⟨_,d0 hN hi hx ht hs hf,λZ F σ H env P D K hf L=>k Z F σ H env _ _ K hf λx e1 v F1 H1 p s1 _ K1=>L.nx _ _ F1 H1 p s1 K1.take⟩
def aZ(i:Nat)(hN:X.N.Nodup)(hi:X.N[i]?=some x)(hx:Loc X.env.scope x)(hf:X.fn x=true\/X.env.scope.names.lookup x=some .local:=by first|exact .inl rfl|exact .inr rfl|assumption):Nf ob X (.Name x pos) (gN i) :=
 ⟨_,aP hN hi hx hf,λZ F σ H env v x P Q K r hf k=>k _ _ F H hf ak (K.put r)⟩
def fW:Ic ob X [] Ce:=⟨_,pF,λZ F σ H env vs xs P Q K r hf k=>by obtain⟨rfl,hf⟩:=hf;cases r;exact⟨rfl,k env σ F H hf ak K⟩⟩
def bx{g:WG}{r:IQ}(h1:Nf ob X e g)(h2:Ic ob X es r)(hs:(abX (e::es) X.env).map (·.2)=assign e X.env::(abX es X.env).map (·.2):=by rfl):Ic ob X (e::es) (zU g r):=by
 obtain⟨t1,HI,k1⟩:=h1.ex;obtain⟨t2,JG,k2⟩:=h2.ex;refine⟨_,jI HI JG hs,λZ F σ H env vs xs P Q K r hf k=>?_⟩;cases r with
 |nil=>exact hf.elim
 |cons r1 r2=>
  refine⟨_,_,rfl,k1 Z F σ H env _ _ _ _ K r1 hf λe1 σ1 F1 H1 p s1 K1=>?_⟩;exact k2 Z F1 σ1 H1 e1 _ _ P Q K1 (r2.mono s1) p λe2 σ2 F2 H2 p2 s2 K2=>k e2 σ2 F2 H2 p2 (ah s1 s2) K2
variable{n:Nat}
def ip{r:IQ}{k:Nat}(hc:X.calm=true)(h:Ic ob X es r)(hl:∀xs env P,r xs env P->xs.length=n)(hn:(abX es X.env).length=n:=by rfl)(FD:(abX es X.env).findIdx? (·.1)=none:=by rfl):Nf ob X (.Tuple es k pos) (gT r):=by
 obtain⟨t,ht,kk⟩:=h.ex;refine⟨_,rn hc ht hn FD,λZ F σ H env v x P Q K r hf k=>?_⟩;unfold gT at hf;split at hf
 .have hl:=hl _ _ _ hf;cases r with
  |tup h1 h2=>exact⟨_,_,rfl,aw K.sF h1,by rw[h2.len];exact hl,kk Z F σ H env _ _ P Q K h2 hf k⟩
 .exact hf.elim
def ig:∀xs env P,Ce xs env P->xs.length=0:=λxs env P h=>by obtain⟨rfl,_⟩:=h;rfl
def bM{i:Nat}{r:IQ}(h:∀xs env P,r xs env P->xs.length=n):∀xs env P,zU (gN i) r xs env P->xs.length=n+1:=λxs env P q=>by
 cases xs with
 |nil=>exact q.elim
 |cons x xs=>exact congrArg _ (h _ _ _ q)
def kG{g:WG}(he:yW ob X e f)(hg:Nf ob X tg g)(hs:ac6 [tg] e pos.line X.env=pure false:=by rfl)(hw:ac7 [tg] e X.env=pure none:=by rfl)
  (h1:(abX [tg] X.env).map (·.2)=[assign tg X.env]:=by rfl):C1 ob X (.Assign [tg] e pos) (Fu f g):=by
 obtain⟨t,ht,k⟩:=he.ex;obtain⟨t1,HI,k1⟩:=hg.ex;refine⟨_,j6 ht HI hs hw h1,λZ F σ H env P D K hf L=>k Z F σ H env _ _ K hf λx e1 v F1 H1 p s1 K1 r1=>?_⟩;exact k1 Z F1 σ H1 e1 v x _ _ K1 r1 p λe2 σ2 F2 H2 p2 s2 K2=>L.nx e2 σ2 F2 H2 p2 (ah s1 s2) K2
variable{px py:Pos}
theorem og(i j:Nat){y:Str}{pt:Pos}{kt k2 pt2}(hc:X.calm=true)(hN:X.N.Nodup)(hi:X.N[i]?=some x)(hj:X.N[j]?=some y)(Cc:i≠j)
  (hx:X.env.scope.names.lookup x=some .local) (hy:X.env.scope.names.lookup y=some .local) (ha:Ex ob X [a,b] fa)
  (hw:ac7 [.Tuple [.Name x px,.Name y py] kt pt] (.Tuple [a,b] k2 pt2) X.env=pure (some [x,y]))
  (hs:ac6 [.Tuple [.Name x px,.Name y py] kt pt] (.Tuple [a,b] k2 pt2) pos.line X.env=pure false:=by rfl) :
  C1 ob X (.Assign [.Tuple [.Name x px,.Name y py] kt pt] (.Tuple [a,b] k2 pt2) pos) (D1 i j fa):=by
 obtain⟨t,ht,k⟩:=ha.ex;refine⟨_,wQ hc hN hi hj Cc hx hy ht hw hs,λZ F σ H env P D K hf L=>k Z F σ H env _ _ K hf λxs e1 vs F1 H1 p hl s1 K1 r1=>?_⟩;cases r1 with
 |nil=>cases hl
 |cons r1 r2=>cases r2 with
  |nil=>cases hl
  |cons r2 r3=>cases r3 with
   |nil=>exact⟨_,_,rfl,L.nx _ _ F1 H1 p s1 ((K1.put r1).put r2)⟩
   |cons=>simp at hl
def Gc(c:WT)(b:WS)(P:Wd):Nat->En->Prop
 |0,_=>False
 |n+1,env=>c env λk e=>if k=true then b {P with nx:=Gc c b P n,ct:=Gc c b P n,bk:=P.nx} e else P.nx e
def BR(c:WT)(b:WS):WS:=λP env=>∃n,Gc c b P n env
def oe(hp:PassesOwn (model X.prog X.w) X.A X.env X.xe)(hc:Ew ob X c t)(hb:B6 ob X Ks u):C1 ob X (.While c Ks [] pos) (BR t u):=by
 obtain⟨w,hw,k⟩:=hc.ex;obtain⟨tb,hb,kb⟩:=hb.ex;refine⟨_,nq hp hw hb,λZ F σ H env P D K hf L=>?_⟩;obtain⟨n,hf⟩:=hf;refine⟨λm σ' H'=>∃F' dO,eQ F F'/\yx _ Z F' σ' H' dO/\Gc t u P m dO,⟨n,F,env,ak,K,hf⟩,?_⟩;rintro m σ' H' ⟨F',dO,s,K',hg⟩;cases m with
 |zero=>exact hg.elim
 |succ m=>
  refine k Z F' σ' H' dO _ _ K' hg λx e1 F1 H1 p s1 K1=>?_;cases x with
  |true=>
   refine Cq ⟨_,λσ2 H2 q=>⟨m,aaU m,q⟩,?_⟩;have sF:=ah s s1;exact kb Z F1 σ' H1 e1 _ _ K1 p ⟨λe2 σ2 F2 H2 q s2 K2=>⟨F2,e2,ah sF s2,K2,q⟩,(L.mono sF).rt,(L.mono sF).nx,λe2 σ2 F2 H2 q s2 K2=>⟨F2,e2,ah sF s2,K2,q⟩,(L.mono sF).rf,(L.mono sF).ro⟩
  |false=>exact BW (L.nx e1 σ' F1 H1 p (ah s s1) K1)
structure El(M:Md)(J:It)(F:Hp)(xs:List PV):Prop where
 go:∀(Z:Zn) (i:Nat) (σ:L2.St) (env:En) (F' H:Hp) (x:PV),eQ F F'->yx M Z F' σ H env->xs[i]?=some x->J.go i H/\∀v H',J.yld i H v H'->∃N1,eQ F' N1/\yx M Z N1 σ H' env/\Rep M.K N1 v x/\eQ H H'/\∀a,N1 a≠none->F' a≠none\/H a=none
 stop:∀(Z:Zn) (i:Nat) (σ:L2.St) (env:En) (F' H:Hp),eQ F F'->yx M Z F' σ H env->xs.length<=i->J.stop i H
structure G3(ob:zP)(X:Cx)(tg it:Expr)(f:WA):Prop where
 ex:∃wi:TI,PI X tg it wi/\∀(Z:Zn) (F:Hp) (σ:L2.St) (H:Hp) (env:En) (P:List PV->En->Prop) (R:It->Hp->Prop),yx (md ob X) Z F σ H env->f env P ->
  (∀xs dO J F' H',P xs dO->eQ F F'->yx (md ob X) Z F' σ H' dO->El (md ob X) J F' xs->R J H')->wi σ H R
def xK{a:Addr}{vs:List V}{xs:List PV}(h:F a=some (.lst vs))(r:yA M.K F vs xs):El M (Hm M.K a) F xs:=by
 refine⟨λZ i σ env F' H x s K e=>?_,λZ i σ env F' H s K hl=>⟨vs,.inl (.inl (K.sF _ _ (s _ _ h))),by rw[r.len];exact hl⟩⟩;obtain⟨v,hv,rv⟩:=r.get e;have hH:Ar M.K H a vs:=.inl (.inl (K.sF _ _ (s _ _ h)));refine⟨⟨vs,v,hH,hv⟩,λv' H' y=>?_⟩;obtain⟨rfl,y⟩:=y;have:=y vs hH;rw[hv]at this;cases this;exact⟨F',ak,K,rv.mono s,ak,λ_ h=>.inl h⟩
def xH{a:Addr}{vs:List V}{xs:List PV}(h:AF M.K F a vs)(r:yA M.K F vs xs):El M (Qp M.K a) F xs:=by
 refine⟨λZ i σ env F' H x s K e=>?_,λZ i σ env F' H s K hl=>⟨vs,aw K.sF (aw s h),by rw[r.len];exact hl⟩⟩;obtain⟨v,hv,rv⟩:=r.get e;have hH  := aw K.sF (aw s h);refine⟨⟨vs,v,hH,hv⟩,λv' H' y=>?_⟩;obtain⟨rfl,y⟩:=y;have:=y vs hH;rw[hv]at this;cases this;exact⟨F',ak,K,rv.mono s,ak,λ_ h=>.inl h⟩
def Pb(K:aaf)(tl:TE):TI:=λσ H R=>tl σ H λx H1=>∃a,x=.ref a/\(((∃xs,Ar K H1 a xs)/\R (Hm K a) H1)\/((∃xs,AF K H1 a xs)/\R (Qp K a) H1))
def wU{l:Expr}{tl:TE}(hl:PE X l tl):PI X tg l (Pb X.K tl):=by
 intro pins s σ H R I h;refine zk (hl pins s σ H _ I h) λv s1 ⟨x,H1,I1,r1,q1⟩=>?_;obtain⟨a,e,q⟩:=q1;subst e;cases r1;rcases q with ⟨⟨xs,hq⟩,q⟩|⟨⟨xs,hq⟩,q⟩
 .obtain⟨nE,rv,p,hz⟩:=I1.list hq;refine ac0 p.isList ?_;refine⟨s1.heap.objs.size,_,_,_,H1,rfl,I1.kept λb o e=>aad _ e,mf a _,⟨_,aan _ rfl,rfl,rfl⟩,λb hb=>?_,q⟩;have e  :=by simpa using hb
  subst e;exact I1.FH (aak _) (I1.yL.fresh (aak _))
 .obtain⟨nE,rv,p,hz⟩:=I1.tuple hq;refine acQ (p) ?_;refine⟨s1.heap.objs.size,_,_,_,H1,rfl,I1.kept λb o e=>aad _ e,qc a _,⟨_,aan _ rfl,rfl,rfl⟩,λb hb=>?_,q⟩;have e  :=by simpa using hb
  subst e;exact I1.FH (aak _) (I1.yL.fresh (aak _))
def iS(a:WE):WA:=λenv P=>a env λx e=>match x with
 |.lst xs=>P xs e
 |.tup xs=>P xs e
 |_=>False
def bi(h:yW ob X e f):G3 ob X tg e (iS f):=by
 obtain⟨t,ht,k⟩:=h.ex;refine⟨_,wU ht,λZ F σ H env P R K hf kk=>k Z F σ H env _ _ K hf λx e1 v F1 H1 p s1 K1 r1=>?_⟩;cases r1 with
 |tup h1 h2=>exact⟨_,rfl,.inr ⟨⟨_,aw K1.sF h1⟩,kk _ e1 _ F1 H1 p s1 K1 (xH h1 h2)⟩⟩
 |lst h1 h2=>exact⟨_,rfl,.inl ⟨⟨_,.inl (.inl (K1.sF _ _ h1))⟩,kk _ e1 _ F1 H1 p s1 K1 (xK h1 h2)⟩⟩
 |_=>exact p.elim
def CB(lo:Int)(n:Nat):List PV:=(aaZ n).map λ(k:Nat)=>.int (lo+(k:Int))
def xJ{lo:Int}:El M (NX lo n) F (CB lo n):=by
 refine⟨λZ i σ env F' H x s K e=>?_,λZ i σ env F' H s K hl=>show n<=i by simpa[CB]using hl⟩;have hi:i<n:=by
  rcases aaX i n with h|h
  .exact h
  .rw[aap (by simpa[CB]using h)]at e;cases e
 have ex  :=by
  unfold CB at e;rw[aah,abS hi]at e;exact(aaq e).symm
 subst ex;refine⟨hi,λv' H' y=>?_⟩;obtain⟨rfl,rfl⟩:=y;exact⟨F',ak,K,.int _,ak,λ_ h=>.inl h⟩
def Ku(a:WA):WA:=λenv P=>a env λxs e=>match xs with
 |[.int j]=> -1000000<=j/\j<=1000000/\P (CB 0 j.toNat) e
 |_=>False
def Si(a:WA):WA:=λenv P=>a env λxs e=>match xs with
 |[.int i,.int j]=>(-1000000<=i/\i<=1000000 /\ -1000000<=j/\j<=1000000)/\P (CB i (j - i).toNat) e
 |_=>False
def io(hg:Gl X "range")(hm:X.mg "range" = none)(ha:Ex ob X [a] fa)(hs:aag [a] X.env=[(false,eval a X.env)]:=by rfl):G3 ob X tg (.Call (.Name "range" p) [a] [] pos) (Ku fa):=by
 obtain⟨t,ht,k⟩:=ha.ex;refine⟨_,rm hg hm ht hs,λZ F σ H env P R K hf kk=>k Z F σ H env _ _ K hf λxs e1 vs F1 H1 p _ s1 K1 r1=>?_⟩;split at p
 .cases r1 with
  |cons r1 r2=>
   cases r1;cases r2;exact⟨_,rfl,by omega,by omega,kk _ e1 _ F1 H1 p.2.2 s1 K1 xJ⟩
 .exact p.elim
def K8(xs ys:List PV):List PV:=(xs.zip ys).map λp=>.tup [p.1,p.2]
def BP(s:Str):List PV:=s.cps.toList.map λc=>.str ⟨#[c]⟩
def xI{s:Str}:El M (NW s) F (BP s):=by
 refine⟨λZ i σ env F' H x sm K e=>?_,λZ i σ env F' H sm K hl=>show s.cps.size<=i by simpa[BP]using hl⟩;unfold BP at e;rw[aah]at e;cases ez:s.cps.toList[i]? with
 |none=>rw[ez]at e;cases e
 |some c=>
  rw[ez]at e;have e  := (aaq e).symm;subst e;have hi:i<s.cps.size:=by
   rcases aaX i s.cps.size with h|h
   .exact h
   .rw[aap (by omega)]at ez;cases ez
  refine⟨hi,λv' H' y=>?_⟩;obtain⟨rfl,c',Dk,rfl⟩:=y;rw[<- Array.getElem?_toList,ez]at Dk;cases Dk;exact⟨F',ak,K,.str _,ak,λ_ h=>.inl h⟩
def GD(a:WE):WA:=λenv P=>a env λx e=>match x with
 |.str s=>P (BP s) e
 |_=>False
def xX(h:yW ob X e f):G3 ob X tg e (GD f):=by
 obtain⟨t,ht,k⟩:=h.ex;refine⟨_,wS ht,λZ F σ H env P R K hf kk=>k Z F σ H env _ _ K hf λx e1 v F1 H1 p s1 K1 r1=>?_⟩;cases r1 with
 |str s=>exact⟨s,rfl,kk _ e1 _ F1 H1 p s1 K1 xI⟩
 |_=>exact p.elim
def Cf(g:WG)(b:WS)(P:Wd):List PV->En->Prop
 |[],env=>P.nx env
 |x::xs,env=>g x env λe=>b {P with nx:=Cf g b P xs,ct:=Cf g b P xs,bk:=P.nx} e
def Dv(it:WA)(g:WG)(b:WS):WS:=λP env=>it env λxs e=>Cf g b P xs e
def eD{it:Expr}{g:WG}(hp:PassesOwn (model X.prog X.w) X.A X.env X.xe)(hc:X.calm=true)(hi:G3 ob X tg it fa)(hg:Nf ob X tg g)(hb:B6 ob X Ks u)
  (hs:∀x,aaT it X.env x=pure x:=by intro _;rfl):C1 ob X (.For tg it Ks [] pos) (Dv fa g u):=by
 obtain⟨wi,GF,k⟩:=hi.ex;obtain⟨Nh,Sv,kg⟩:=hg.ex;obtain⟨tb,Mn,kb⟩:=hb.ex;refine⟨_,rj hp hc GF Sv Mn hs,λZ F σ H env P D K hf L=>k Z F σ H env _ _ K hf λxs e1 J F1 H1 p s1 K1 I1=>?_⟩;have L1:=L.mono s1;refine⟨λi m σ' H'=>m=xs.length - i/\∃F' dO,eQ F1 F'/\yx _ Z F' σ' H' dO/\Cf g u P (xs.drop i) dO,⟨_,rfl,F1,e1,ak,K1,p⟩,?_⟩;rintro i m σ' H' ⟨rfl,F',dO,s,K',Hc⟩;by_cases zR:i<xs.length
 .rw[acY zR]at Hc;obtain⟨h1,h2⟩:=I1.go Z i σ' dO F' H' xs[i] s K' (by simp);refine .inr ⟨h1,_,λσ2 H2 q=>⟨_,by omega,rfl,q⟩,λv H2 y=>?_⟩;obtain⟨F2,s2,K2,r2,_,_⟩:=h2 v H2 y;refine kg Z F2 σ' H2 dO v _ _ _ K2 r2 Hc λe3 σ3 F3 H3 p3 s3 K3=>?_;have sF:=ah s (ah s2 s3);exact kb Z F3 σ3 H3 e3 _ _ K3 p3 ⟨λe4 σ4 F4 H4 q s4 K4=>⟨F4,e4,ah sF s4,K4,q⟩,(L1.mono sF).rt,(L1.mono sF).nx,λe4 σ4 F4 H4 q s4 K4=>⟨F4,e4,ah sF s4,K4,q⟩,(L1.mono sF).rf,(L1.mono sF).ro⟩
 .rw[adf (by omega)]at Hc;exact .inl ⟨I1.stop Z i σ' dO F' H' s K' (by omega),L1.nx dO σ' F' H' Hc s K'⟩
def lend(s:Sl):Sl:=if s.k=1 then ⟨3,s.v⟩else s
def C9(js:List (Option Nat))(env:En):En:=js.map λo=>o.bind λj=>((env[j]?).getD none).map lend
def BF(s s':Sl):Option Sl:=if s'.k=3 then (if s.k=1\/s.k=3 then some ⟨s.k,s'.v⟩else none)else if s'.k=2 then (if s.k=2 then some s' else none)else some s'
def Ad(js:List (Option Nat))(env benv:En):En:=env.mapIdx λj o=>match js.findIdx? (λq=>q==some j)with
 |none=>o
 |some i=>match o,benv[i]? with
  |some s,some (some s')=>BF s s'
  |_,_=>none
def D8(js:List (Option Nat)):Bool:=decide (js.filterMap id).Nodup
theorem jU:∀{js:List (Option Nat)},(js.filterMap id).Nodup->∀(i i':Nat) (j:Nat),js[i]?=some (some j)->js[i']?=some (some j)->i=i'
 |[],_,i,i',j,h,_=>by simp_all
 |none::js,hn,i,i',j,h,h'=>by
  cases i with
  |zero=>simp at h
  |succ i=>
   cases i' with
   |zero=>simp at h'
   |succ i'=>
    exact congrArg _ (jU (by simp_all) i i' j h h')
 |some k::js,hn,i,i',j,h,h'=>by
  obtain⟨hk,hn⟩:=List.nodup_cons.mp hn;have mem:∀m,js[m]?=some _->False:=λm hm=>hk (List.mem_filterMap.mpr ⟨some k,aa1 hm,rfl⟩);cases i with
  |zero=>
   simp at h;cases i' with
   |zero=>rfl
   |succ i'=>exact(mem i' (by simp_all)).elim
  |succ i=>
   cases i' with
   |zero=>simp at h';subst h';exact(mem i (by simp_all)).elim
   |succ i'=>exact congrArg _ (jU hn i i' j (by simp_all) (by simp_all))
variable{F' H':Hp}{env:En}
def CY.wr{v:V}{s:Sl}{fp:List Addr}(h:CY M Z F H v s fp):∀c∈fp,c∈Z.S\/Z.H₀ c=none:=by
 rcases h with ⟨_,rfl,_⟩|⟨_,a,_,rfl,h0,_⟩|⟨_,a,_,h,_⟩|⟨_,a,_,rfl,h0,_⟩
 .intro c hc;simp at hc
 .intro c hc;simp at hc;subst hc;exact .inr h0
 .exact h
 .intro c hc;simp at hc;subst hc;exact .inl h0
def BE(js:List (Option Nat))(env:En)(fp:Nat->List Addr)(i:Nat):List Addr:=match js[i]? with
 |some (some j)=>match env[j]? with
  |some (some _)=>fp j
  |_=>[]
 |_=>[]
def Ed(js:List (Option Nat))(env:En)(fp:Nat->List Addr)(H:Hp):List Addr:=((aaZ js.length).flatMap (BE js env fp)).filter λb=>(H b).isSome
variable{js:List (Option Nat)}{fp:Nat->List Addr}
def rO{i:Nat}{a:Addr}(h:a∈BE js env fp i)(hH:H a≠none):a∈Ed js env fp H:=by
 refine List.mem_filter.mpr ⟨List.mem_flatMap.mpr ⟨i,List.mem_range.mpr ?_,h⟩,by obtain⟨o,ho⟩:=cg hH;rw[ho];rfl⟩;rcases aaX i js.length with q|q
 .exact q
 .unfold BE at h;rw[aap q]at h;simp at h
theorem eh{a:Addr}(h:a∈Ed js env fp H):∃(i j:Nat) (s:Sl),js[i]?=some (some j)/\env[j]?=some (some s)/\a∈fp j:=by
 obtain⟨i,_,h⟩:=List.mem_flatMap.mp (List.mem_filter.mp h).1;unfold BE at h;split at h
 .rename_i j ej;split at h
  .rename_i s es;exact⟨i,j,s,ej,es,h⟩
  .simp at h
 .simp at h
theorem uk{i:Nat}{s':Sl}(h:(C9 js env)[i]?=some (some s')):∃j s,js[i]?=some (some j)/\env[j]?=some (some s)/\s'=lend s:=by
 unfold C9 at h;rw[aah]at h;cases ej:js[i]? with
 |none=>rw[ej]at h;cases h
 |some o=>
  cases o with
  |none=>rw[ej]at h;cases h
  |some j=>
   rw[ej]at h;have h:((env[j]?).getD none).map lend=some s':=aaq h;cases es:env[j]? with
   |none=>rw[es]at h;cases h
   |some o=>
    cases o with
    |none=>rw[es]at h;cases h
    |some s=>rw[es]at h;exact⟨j,s,rfl,es,(aaq h).symm⟩
variable{j:Nat}
theorem oH{i:Nat}{v:V}(h:js[i]?=some (some j))(hv:σ[j]?=some (some v)):(zv js σ)[i]?=some (some v):=by
 unfold zv;rw[aah,h];show some ((σ[j]?).getD none)=_;rw[hv];rfl
def Zb(js:List (Option Nat))(env:En)(fp:Nat->List Addr)(F H:Hp):Zn:={H₀:=H,F₀:=F,S:=Ed js env fp H,sS:=λb hb e=>by have:=(List.mem_filter.mp hb).2;rw[e]at this;cases this}
theorem oK(hj:D8 js=true)(K:yx M Z F σ H env)(L:Slots M Z F σ H env fp):yx M (Zb js env fp F H) F (zv js σ) H (C9 js env):=by
 have hn  := of_decide_eq_true hj;refine⟨K.sF,λb o h _=>h,λb h=>h,ak,λa h=>.inl h,by simp[C9,zv],BE js env fp,λi s' h=>?_,λi a h=>?_,λi i' a SY h h'=>?_,λi a s e=>by cases e⟩
 .obtain⟨j,s,ej,es,rfl⟩:=uk h;obtain⟨v,hv,ok⟩:=L.at' j s es;have ef:BE js env fp i=fp j:=by unfold BE;rw[ej];dsimp only;rw[es]
  refine⟨v,oH ej hv,?_⟩;have JD  := λc hc=>rO (by rw[ef];exact hc) (L.al j c hc).1;rw[ef];rcases ok with ⟨k,e,r⟩|⟨k,a,e,e2,h0,r⟩|⟨k,a,e,h0,r⟩|⟨k,a,e,e2,h0,r⟩
  .have:lend s=s:=by unfold lend;rw[if_neg (by simp_all)]
   rw[this];exact .inl ⟨k,e,r⟩
  .have:lend s=⟨3,s.v⟩:=by unfold lend;rw[if_pos k]
   rw[this];exact .inr (.inr (.inr ⟨rfl,a,e,e2,JD a (by simp_all),r⟩))
  .have:lend s=s:=by unfold lend;rw[if_neg (by omega)]
   rw[this];exact .inr (.inr (.inl ⟨k,a,e,λc hc=>.inl (JD c hc),r⟩))
  .have:lend s=s:=by unfold lend;rw[if_neg (by simp_all)]
   rw[this];exact .inr (.inr (.inr ⟨k,a,e,e2,JD a (by simp_all),r⟩))
 .unfold BE at h;split at h
  .split at h
   .exact L.al _ a h
   .simp at h
  .simp at h
 .unfold BE at h h';split at h
  .rename_i j ej;split at h'
   .rename_i j' TH;split at h
    .split at h'
     .have:j≠j':=λe=>by subst e;exact SY (jU hn i i' j ej TH)
      exact L.dj j j' a this h h'
     .simp at h'
    .simp at h
   .simp at h'
  .simp at h
theorem mJ{σb:L2.St}{benv:En}(hj:D8 js=true)(K:yx M Z F σ H env)(L:Slots M Z F σ H env fp)(Kb:yx M (Zb js env fp F H) F' σb H' benv)
  (hσ:∀(k j:Nat),js[k]?=some (some j)->σb[k]?=(zv js σ)[k]?) :
  ∃FY,Slots M Z F' σ H' (Ad js env benv) FY/\yx M Z F' σ H' (Ad js env benv)/\∀i a,a∈FY i->(∃i',a∈fp i')\/H a=none:=by
 have hn:(js.filterMap id).Nodup:=of_decide_eq_true hj;obtain⟨fb,Lb⟩:=Kb.sl;have JD:∀c∈Ed js env fp H,(c∈Z.S\/Z.H₀ c=none)/\∃i',c∈fp i':=λc hc=>by
  obtain⟨i,j,s,e1,e2,e3⟩:=eh hc;obtain⟨v,_,ok⟩:=L.at' j s e2;exact⟨ok.wr c e3,j,e3⟩
 have J6:∀j i,js.findIdx? (λq=>q==some j)=some i->js[i]?=some (some j):=λj i h=>by
  rw[List.findIdx?_eq_some_iff_getElem]at h;obtain⟨hi,he,_⟩:=h;rw[aaa hi,eq_of_beq he]
 have MW:∀j,(Ad js env benv)[j]?=(env[j]?).map _:=λj=>by
  unfold Ad;rw[List.getElem?_mapIdx]
 have RE:∀i s',benv[i]?=some (some s')->∀c∈fb i,(c∈Z.S\/Z.H₀ c=none)/\((∃i',c∈fp i')\/H c=none):=λi s' e c hc=>by
  obtain⟨v,_,ok⟩:=Lb.at' i s' e;rcases ok.wr c hc with h|h
  .exact⟨(JD c h).1,.inl (JD c h).2⟩
  .exact⟨.inr (K.h0 h),.inr h⟩
 let FY:Nat->List Addr:=λj=>match js.findIdx? (λq=>q==some j)with
  |none=>fp j
  |some i=>match env[j]?,benv[i]? with
   |some (some s),some (some s')=>if (BF s s').isSome=true then fb i else []
   |_,_=>[]
 have keep:∀c o,H c=some o->c∉Ed js env fp H->H' c=some o:=λc o h1 h2=>Kb.sG c o h1 h2;have S:Slots M Z F' σ H' (Ad js env benv) FY:=by
  refine⟨λj t e=>?_,λj a h=>?_,λj j2 a KD h h2=>?_,λj a t e1 e e3=>?_⟩;case refine_4=>
   rw[MW]at e;cases ej:env[j]? with
   |none=>rw[ej]at e;cases e
   |some o=>
    rw[ej]at e;have e:=aaq e;cases ei:js.findIdx? (λq=>q==some j)with
    |none=>
     rw[ei]at e;dsimp only at e;subst e;exact L.oa j a t e1 ej e3
    |some i=>
     rw[ei]at e;dsimp only at e;cases o with
     |none=>cases e
     |some s=>
      cases eb:benv[i]? with
      |none=>rw[eb]at e;cases e
      |some w=>
       cases w with
       |none=>rw[eb]at e;cases e
       |some s'=>
        rw[eb]at e;dsimp only at e;unfold BF at e;split at e
        .split at e
         .rename_i h1 h2;cases e;rcases h2 with q|q
          .rw[q]at e3;cases e3
          .rw[q]at e3;cases e3
         .cases e
        .split at e
         .split at e
          .rename_i h1;exact L.oa j a s e1 ej h1
          .cases e
         .rename_i h1;cases e;exact absurd e3 h1
  .rw[MW]at e;cases ej:env[j]? with
   |none=>rw[ej]at e;cases e
   |some o=>
    rw[ej]at e;have e:=aaq e;show ∃v,σ[j]?=some (some v)/\CY M Z F' H' v t (match js.findIdx? (λq=>q==some j)with
     |none=>fp j
     |some i=>match env[j]?,benv[i]? with
      |some (some s),some (some s')=>if (BF s s').isSome=true then fb i else []
      |_,_=>[])
    cases ei:js.findIdx? (λq=>q==some j)with
    |none=>
     rw[ei]at e;dsimp only at e;subst e;obtain⟨v,hv,ok⟩:=L.at' j t ej;refine⟨v,hv,ok.mono Kb.gr λc hc=>?_⟩;have IF:=L.al j c hc;obtain⟨o,ho⟩:=cg IF.1;rw[ho];refine keep c o ho λhS=>?_;obtain⟨i,j',s,e1,e2,e3⟩:=eh hS;have:j≠j':=λz=>by
      subst z;rw[aeA]at ei;have:=ei (some j) (aa1 e1);simp at this
     exact L.dj j j' c this hc e3
    |some i=>
     rw[ei]at e;dsimp only at e ⊢;have Rv:=J6 j i ei;cases o with
     |none=>cases e
     |some s=>
      rw[ej];cases eb:benv[i]? with
      |none=>rw[eb]at e;cases e
      |some w=>
       cases w with
       |none=>rw[eb]at e;cases e
       |some s'=>
        rw[eb]at e;dsimp only at e ⊢;rw[e,if_pos (adK)];obtain⟨v0,DR,OS⟩:=L.at' j s ej;obtain⟨v,hv,ok⟩:=Lb.at' i s' eb;rw[hσ i j Rv,oH Rv DR]at hv;cases hv;refine⟨v0,DR,?_⟩;unfold BF at e;rcases ok with ⟨k,e1,r⟩|⟨k,a,e1,e2,h0,r⟩|⟨k,a,e1,h0,r⟩|⟨k,a,e1,e2,h0,r⟩
        .rw[if_neg (by rw[k];decide),if_neg (by rw[k];decide)]at e;cases e;exact .inl ⟨k,e1,r⟩
        .rw[if_neg (by rw[k];decide),if_neg (by rw[k];decide)]at e;cases e;exact .inr (.inl ⟨k,a,e1,e2,K.h0 h0,r⟩)
        .rw[if_neg (by rcases k with k|k<;>(rw[k];decide))]at e;have e:s'=t:=by
          split at e
          .split at e
           .exact aaq e
           .cases e
          .exact aaq e
         subst e;refine .inr (.inr (.inl ⟨k,a,e1,λc hc=>(RE i _ eb c hc).1,r⟩))
        .rw[if_pos k]at e;split at e
         .rename_i hk;cases e;rcases OS with ⟨k0,_⟩|⟨k0,a0,f1,f2,f3,_⟩|⟨k0,_⟩|⟨k0,a0,f1,f2,f3,_⟩
          .rw[k0]at hk;rcases hk with z|z<;>cases z
          .rw[e1]at f1;cases f1;exact .inr (.inl ⟨k0,a,e1,e2,f3,r⟩)
          .rcases k0 with k0|k0<;>(rw[k0]at hk;rcases hk with z|z<;>cases z)
          .rw[e1]at f1;cases f1;exact .inr (.inr (.inr ⟨k0,a,e1,e2,f3,r⟩))
         .cases e
  .have h:a∈(match js.findIdx? (λq=>q==some j)with
     |none=>fp j
     |some i=>match env[j]?,benv[i]? with
      |some (some s),some (some s')=>if (BF s s').isSome=true then fb i else []
      |_,_=>[]):=h
   split at h
   .rename_i ei;have h0:=L.al j a h;obtain⟨o,ho⟩:=cg h0.1;constructor
    .intro z;have:=Kb.pr a (by show H a≠none;exact h0.1);exact this z
    .cases ef:F' a with
     |none=>rfl
     |some o=>
      rcases Kb.nw a (by rw[ef];simp)with q|q
      .exact absurd h0.2 q
      .exact absurd q h0.1
   .split at h
    .split at h
     .exact Lb.al _ a h
     .simp at h
    .simp at h
  .have h:a∈(match js.findIdx? (λq=>q==some j)with
     |none=>fp j
     |some i=>match env[j]?,benv[i]? with
      |some (some s),some (some s')=>if (BF s s').isSome=true then fb i else []
      |_,_=>[]):=h
   have h2:a∈(match js.findIdx? (λq=>q==some j2)with
     |none=>fp j2
     |some i=>match env[j2]?,benv[i]? with
      |some (some s),some (some s')=>if (BF s s').isSome=true then fb i else []
      |_,_=>[]):=h2
   have LY:∀{j1 i:Nat} {s':Sl},js.findIdx? (λq=>q==some j1)=none->benv[i]?=some (some s')->a∈fp j1->a∈fb i->False:=λ{j1 i s'} e1 e2 m1 m2=>by
    obtain⟨v,_,ok⟩:=Lb.at' i s' e2;rcases ok.wr a m2 with q|q
    .obtain⟨i',j',s,q1,q2,q3⟩:=eh q;have:j1≠j':=λz=>by
      subst z;rw[aeA]at e1;have:=e1 (some j1) (aa1 q1);simp at this
     exact L.dj j1 j' a this m1 q3
    .exact(L.al j1 a m1).1 q
   split at h
   .rename_i ei;split at h2
    .exact L.dj j j2 a KD h h2
    .split at h2
     .rename_i eb;split at h2
      .exact LY ei eb h h2
      .simp at h2
     .simp at h2
   .rename_i i ei;split at h
    .rename_i eb;split at h
     .split at h2
      .rename_i Qh;exact LY Qh eb h2 h
      .rename_i i2 Qh;split at h2
       .split at h2
        .have:i≠i2:=λz=>by
          subst z;have q1:=J6 j i ei;have q2:=J6 j2 i Qh;rw[q1]at q2;cases q2;exact KD rfl
         exact Lb.dj i i2 a this h h2
        .simp at h2
       .simp at h2
     .simp at h
    .simp at h
 refine⟨FY,S,⟨Kb.sF,λb o h1 h2=>keep b o (K.sG b o h1 h2) λhS=>?_,λb h=>Kb.pr b (K.pr b h),ah K.gr Kb.gr,λa h=>?_,by unfold Ad;rw[List.length_mapIdx];exact K.len,FY,S⟩,λj a h=>?_⟩
 .rcases(JD b hS).1 with q|q
  .exact h2 q
  .rw[q]at h1;cases h1
 .rcases Kb.nw a h with q|q
  .exact K.nw a q
  .exact .inr (K.h0 q)
 .have h:a∈(match js.findIdx? (λq=>q==some j)with
    |none=>fp j
    |some i=>match env[j]?,benv[i]? with
     |some (some s),some (some s')=>if (BF s s').isSome=true then fb i else []
     |_,_=>[]):=h
  split at h
  .exact .inl ⟨j,h⟩
  .split at h
   .rename_i eb;split at h
    .exact(RE _ _ eb a h).2
    .simp at h
   .simp at h
def G7(M:Md)(f:WE):TE:=λσ H Q=>∃(Z:Zn) (F:Hp) (env:En) (P:PV->En->Prop),yx M Z F σ H env/\f env P/\∀x dO v F' H',P x dO->eQ F F'->yx M Z F' σ H' dO->Rep M.K F' v x->Q v H'
def Jp(M:Md)(f:WT):TT:=λσ H Q=>∃(Z:Zn) (F:Hp) (env:En) (P:Bool->En->Prop),yx M Z F σ H env/\f env P/\∀b dO F' H',P b dO->eQ F F'->yx M Z F' σ H' dO->Q b H'
def yW.pe(h:yW ob X e f):PE X e (G7 (md ob X) f):=by
 obtain⟨t,ht,k⟩:=h.ex;rintro pins s σ H Q I ⟨Z,F,env,P,K,hf,kk⟩;exact ht pins s σ H Q I (k Z F σ H env P Q K hf kk)
structure KU(ob:zP)(X:Cx)(ifs:List Expr)(f:WT):Prop where
 ex:PF X ifs (Jp (md ob X) f)
def FU:WT:=λenv P=>P true env
def fY:KU ob X [] FU:=⟨by
 rintro pins s σ H Q I ⟨Z,F,env,P,K,hf,kk⟩;exact rq pins s σ H Q I (kk true env F H hf ak K)⟩
def fX(h:Ew ob X c t):KU ob X [c] t:=⟨by
 obtain⟨w,hw,k⟩:=h.ex;rintro pins s σ H Q I ⟨Z,F,env,P,K,hf,kk⟩;exact rp hw pins s σ H Q I (k Z F σ H env P Q K hf kk)⟩
inductive F8 where
 |nm (i:Nat)|tp (l:List Nat)
def C4:List Nat->F9
 |[]=>JZ
 |i::l=>Eb (Ax i) (C4 l)
def FT(K:aaf):F8->TG
 |.nm i=>Ax i
 |.tp l=>JX K l.length (C4 l)
def EE:List Nat->List PV->En->En
 |i::l,x::xs,env=>EE l xs (env.set i (some ⟨0,x⟩))
 |_,_,env=>env
def FR:F8->WG
 |.nm i=>λx env P=>P (env.set i (some ⟨0,x⟩))
 |.tp l=>λx env P=>match x with
  |.tup xs=>xs.length=l.length/\P (EE l xs env)
  |_=>False
def Bn(js:List (Option Nat)):F8->Bool
 |.nm i=>decide (js[i]?=some none)
 |.tp l=>l.all λi=>decide (js[i]?=some none)
def sg:∀{l:List Nat},(l.all λi=>decide (js[i]?=some none))=true->Nd js (C4 l)
 |[],_=>xO
 |i::l,h=>by
  rw[List.all_cons,aaR]at h;refine vT (iM (of_decide_eq_true h.1)) (sg h.2) iO ?_;have mono:∀(l:List Nat),∀x σ H (Q Q':L2.St->Hp->Prop),(∀a b,Q a b->Q' a b)->C4 l x σ H Q->C4 l x σ H Q':=by
   intro l;induction l with
   |nil=>exact λx σ H Q Q' h q=>⟨q.1,h _ _ q.2⟩
   |cons i l ih=>exact lO iO ih
  exact mono l
def cW{T:F8}(h:Bn js T=true):Bm js (FT K T):=by
 cases T with
 |nm i=>exact iM (of_decide_eq_true h)
 |tp l=>exact xN (sg h)
def uN{l:List Nat}:∀{σ:L2.St} {env:En} {vs:List V} {xs:List PV} {Q:L2.St->Hp->Prop},yx M Z F σ H env->yA M.K F vs xs->xs.length=l.length->(∀σ',yx M Z F σ' H (EE l xs env)->Q σ' H)->C4 l vs σ H Q:=by
 induction l with
 |nil=>
  intro σ env vs xs Q K r hl k;cases r with
  |nil=>exact⟨rfl,k σ K⟩
  |cons _ _=>simp at hl
 |cons i l ih=>
  intro σ env vs xs Q K r hl k;cases r with
  |nil=>simp at hl
  |cons r1 r2=>exact⟨_,_,rfl,ih (K.put r1) r2 (by simp_all) k⟩
def qS{T:F8}{v:V}{x:PV}{P:En->Prop}{Q:L2.St->Hp->Prop}(K:yx M Z F σ H env)(r:Rep M.K F v x)(hf:FR T x env P)(k:∀dO σ',P dO->yx M Z F σ' H dO->Q σ' H):FT M.K T v σ H Q:=by
 cases T with
 |nm i=>exact k _ _ hf (K.put r)
 |tp l=>
  cases r with
  |tup h1 h2=>
   exact⟨_,_,rfl,aw K.sF h1,by rw[h2.len];exact hf.1,uN K h2 hf.1 λσ' K'=>k _ σ' hf.2 K'⟩
  |_=>exact(hf).elim
def By(g:WG)(c:WT)(f:WE)(js:List (Option Nat))(P:PV->En->Prop):List PV->En->List PV->Prop
 |[],env,acc=>P (.lst acc) env
 |x::xs,env,acc=>g x (C9 js env) λb1=>c b1 λok b2=>if ok=true then f b2 λy b3=>acc.length<=100000/\By g c f js P xs (Ad js env b3) (acc++[y])else By g c f js P xs (Ad js env b2) acc
def FZ(fi:WA)(T:F8)(c:WT)(f:WE)(js:List (Option Nat)):WE:=λenv P=>fi env λxs e=>By (FR T) c f js P xs e []
variable{elt iter kx vx:Expr}{ifs:List Expr}{scope:Scope}{fi:WA}{T:F8}{c:WT}{fk:WE}{N:List Str}
def yx.Bs{l:Addr}{o:HO}(K:yx M Z F σ H env)(L:Slots M Z F σ H env fp)(hF:F l=none)(h0:Z.H₀ l=none)(hl:∀i,l∉fp i):yx M Z F σ (upd H l o) env/\Slots M Z F σ (upd H l o) env fp:=by
 have S:Slots M Z F σ (upd H l o) env fp:=by
  refine⟨λi s e=>?_,λi a h=>?_,L.dj,L.oa⟩
  .obtain⟨v,h1,h2⟩:=L.at' i s e;exact⟨v,h1,h2.mono ak λc hc=>ae λz:c=l=>hl i (by simp_all)⟩
  .have:=L.al i a h;refine⟨?_,this.2⟩;rw[ae (λz:a=l=>hl i (by simp_all))];exact this.1
 refine⟨⟨λa u e=>?_,λb u h1 h2=>?_,λb h=>?_,K.gr,K.nw,K.len,fp,S⟩,S⟩
 .rw[ae (au e hF)];exact K.sF a u e
 .rw[ae (au h1 h0)];exact K.sG b u h1 h2
 .by_cases q:b=l
  .subst q;rw[aj];simp
  .rw[ae q];exact K.pr b h
theorem pJ{P:PV->En->Prop}{Q:VK}{xs:List PV}{J:It}(hj:D8 js=true)(hT:Bn js T=true)(K:yx (md ob X) Z F σ H env)(I1:El (md ob X) J F xs)(hf:By (FR T) c f js P xs env [])
  (kk:∀x dO v F' H',P x dO->eQ F F'->(∀xs,x≠.set xs)->yx (md ob X) Z F' (σ++[some v]) H' (dO++[some ⟨1,x⟩])->Q v H') (l:Addr) (hl:H l=none) :
  ∃W:Nat->Nat->List V->Hp->Prop,(∃m,W 0 m [] (upd H l (.lst [])))/\∀i m ys H2,W i m ys H2 ->
  (J.stop i H2/\Q (.ref l) H2)\/(J.go i H2/\∀x H3,J.yld i H2 x H3->FT X.K T x (zv js σ) H3 λσ4 H4=>Jp (md ob X) c σ4 H4 λb H5=>
   if b=true then G7 (md ob X) f σ4 H5 λy H6=>H6 l=some (.lst ys)/\ys.length<sizeLine/\∃m',m'<m/\W (i+1) m' (ys++[y]) (upd H6 l (.lst (ys++[y])))else ∃m',m'<m/\W (i+1) m' ys H5):=by
 refine⟨λi m ys H'=>m=xs.length - i/\H' l=some (.lst ys)/\∃F' dO DU fp,eQ F F'/\yx (md ob X) Z F' σ H' dO/\Slots (md ob X) Z F' σ H' dO fp/\F' l=none/\(∀i,l∉fp i)/\yA X.K F' ys DU/\By (FR T) c f js P (xs.drop i) dO DU,?_,?_⟩
 .obtain⟨fp,L⟩:=K.sl;have hF:F l=none:=eQ.none_of K.sF hl;have hn:∀i,l∉fp i:=λi h=>(L.al i l h).1 hl;obtain⟨K1,L1⟩:=K.Bs (o:=.lst []) L hF (K.h0 hl) hn;exact⟨_,rfl,aj,F,env,[],fp,ak,K1,L1,hF,hn,.nil,hf⟩
 rintro i m ys H2 ⟨rfl,FW,F',dO,DU,fp,s,K',L',MH,hn,ry,hg⟩;have h0:Z.H₀ l=none:=K.h0 hl;by_cases zR:i<xs.length
 .rw[acY zR]at hg;obtain⟨h1,h2⟩:=I1.go Z i σ dO F' H2 xs[i] s K' (by simp[zR]);refine .inr ⟨h1,λv H3 y=>?_⟩;obtain⟨F2,s2,K2,r2,sH,nw⟩:=h2 v H3 y;have Nb  := L'.move s2 (λ_ c o _ e=>sH c o e) nw;have P4:F2 l=none:=by
   cases e:F2 l with
   |none=>rfl
   |some o=>
    rcases nw l (by rw[e];simp)with q|q
    .exact absurd MH q
    .rw[FW]at q;cases q
  have HN:H3 l=some (.lst ys):=sH _ _ FW;have Kb:=oK hj K2 Nb;have Nh:=cW (K:=X.K) hT v (zv js σ) H3 _ (qS (M:=md ob X) (Q:=λσ4 H4=>H4=H3/\∃b1,yx (md ob X) (Zb js dO fp F2 H3) F2 σ4 H3 b1/\c b1 _) Kb r2 hg λe4 σ4 p4 K4=>⟨rfl,e4,K4,p4⟩);have mono:∀(Q1 Q2:L2.St->Hp->Prop),(∀a b,Q1 a b->Q2 a b)->FT X.K T v (zv js σ) H3 Q1->FT X.K T v (zv js σ) H3 Q2:=by
   have Gy:∀(l:List Nat),∀x σ H (Q Q':L2.St->Hp->Prop),(∀a b,Q a b->Q' a b)->C4 l x σ H Q->C4 l x σ H Q':=by
    intro l;induction l with
    |nil=>exact λx σ H Q Q' h q=>⟨q.1,h _ _ q.2⟩
    |cons i l ih=>exact lO iO ih
   intro Q1 Q2 hq q;cases T with
   |nm i=>exact hq _ _ q
   |tp l=>
    obtain⟨a,xs,e1,e2,e3,e4⟩:=q;exact⟨a,xs,e1,e2,e3,Gy l _ _ _ _ _ hq e4⟩
  refine mono _ _ ?_ Nh;rintro σ4 H4 ⟨⟨rfl,b1,K4,p4⟩,hlen,zD⟩;refine⟨_,F2,b1,_,K4,p4,λb b2 F5 H5 p5 s5 K5=>?_⟩;have again:∀{F6 H6:Hp} {b3:En} {ys':List V} {Ey:List PV},eQ F2 F6->yx (md ob X) (Zb js dO fp F2 H4) F6 σ4 H6 b3->By (FR T) c f js P (xs.drop (i+1)) (Ad js dO b3) Ey->yA X.K F6 ys' Ey ->
    H6 l=some (.lst ys)/\(∃m',m'<xs.length - i/\m'=xs.length - (i+1)/\(upd H6 l (.lst ys')) l=some (.lst ys')/\∃F' dO DU fp,eQ F F'/\yx (md ob X) Z F' σ (upd H6 l (.lst ys')) dO/\Slots (md ob X) Z F' σ (upd H6 l (.lst ys')) dO fp/\F' l=none/\(∀i,l∉fp i)/\yA X.K F' ys' DU/\By (FR T) c f js P (xs.drop (i+1)) dO DU):=λ{F6 H6 b3 ys' Ey} s6 K6 p6 r6=>by
   obtain⟨FY,L6,Qo,FF⟩:=mJ hj K2 Nb K6 zD;have JP:H6 l=some (.lst ys):=K6.sG l _ HN λz=>by
    obtain⟨_,j,_,_,_,hm⟩:=eh z;exact hn j hm
   have ME:F6 l=none:=by
    cases e:F6 l with
    |none=>rfl
    |some o=>
     rcases K6.nw l (by rw[e];simp)with q|q
     .exact absurd P4 q
     .exact absurd q (by show H4 l≠none;rw[HN];simp)
   have HK:∀i,l∉FY i:=λi h=>by
    rcases FF i l h with ⟨i',q⟩|q
    .exact hn i' q
    .rw[HN]at q;cases q
   obtain⟨K7,L7⟩:=Qo.Bs (o:=.lst ys') L6 ME h0 HK;exact⟨JP,_,by omega,rfl,aj,F6,_,_,FY,ah s (ah s2 s6),K7,L7,ME,HK,r6,p6⟩
  cases b with
  |false=>
   refine BW ?_;obtain⟨Pz,m',h1,h2,h3,F',dO,DU,fp,q1,q2,q3,q4⟩:=again (ys':=ys) s5 K5 p5 ((ry.mono s2).mono s5);have e:upd H5 l (.lst ys)=H5:=by
    funext a;by_cases z:a=l
    .subst z;rw[aj,Pz]
    .rw[ae z]
   rw[e]at h3 q2 q3;exact⟨m',h1,h2,h3,F',dO,DU,fp,q1,q2,q3,q4⟩
  |true=>
   refine Cq ⟨_,F5,b2,_,K5,p5,λy b3 v6 F6 H6 p6 s6 K6 r6=>?_⟩;obtain⟨JP,q⟩:=again (ys':=ys++[v6]) (ah s5 s6) K6 p6.2 ((((ry.mono s2).mono s5).mono s6).app (.cons r6 .nil));refine⟨JP,?_,q⟩;have:=p6.1;rw[ry.len,aaB];omega
 .rw[adf (by omega)]at hg;refine .inl ⟨I1.stop Z i σ dO F' H2 s K' (by omega),kk _ dO _ F' H2 hg s (λ_=>by simp) ?_⟩;refine K'.slots (by simp[K'.len]) (L'.push (l:=[l]) (by simp) K'.len (.inr (.inl ⟨rfl,l,rfl,rfl,h0,ys,FW,ry⟩)) (λa ha=>?_) λj a ha=>?_)
  .simp at ha;subst ha;exact⟨by rw[FW];simp,MH⟩
  .simp at ha;subst ha;exact hn j
def iT(hi:G3 ob X tg iter fi)(hg:∀C s₀ H₀ ex pn,PG (yw X scope N C s₀ H₀ ex pn) tg (FT X.K T))(ht:∀C s₀ H₀ ex pn,KU ob (yw X scope N C s₀ H₀ ex pn) ifs c)(he:∀C s₀ H₀ ex pn,yW ob (yw X scope N C s₀ H₀ ex pn) elt f)
  (hj:D8 js=true:=by rfl) (hT:Bn js T=true:=by rfl)
  (hc:X.calm=true:=by rfl) (hx:X.xe=(λ_ _=>False):=by rfl) (BI:BQ X.env scope=true:=by rfl) (zD:Ay X.N scope N js=true:=by rfl) (yY:scope.kind=.function:=by rfl) (hs:∀x,aaT iter X.env x=pure x:=by intro _;rfl) :
  Ie ob X (.ListComp elt [⟨tg,iter,ifs,0⟩] scope pos) (FZ fi T c f js):=by
 obtain⟨wi,GF,k⟩:=hi.ex;refine⟨_,uB (tc:=Jp (md ob X) c) (te:=G7 (md ob X) f) GF hg (λC s₀ H₀ ex pn=>(ht C s₀ H₀ ex pn).ex) (λC s₀ H₀ ex pn=>(he C s₀ H₀ ex pn).pe) (cW hT) hc hx BI zD yY hs,λZ F σ H env P Q K hf kk=>?_⟩;exact k Z F σ H env _ _ K hf λxs e1 J F1 H1 p s1 K1 I1 l hl=>pJ hj hT K1 I1 p (λx e2 v F2 H2 p2 s2 Kv K2=>kk x e2 v F2 H2 p2 (ah s1 s2) Kv K2) l hl
def CQ(g:WG)(c:WT)(fk f:WE)(js:List (Option Nat))(P:PV->En->Prop):List PV->En->List (Key×PV)->Prop
 |[],env,acc=>P (.zh acc) env
 |x::xs,env,acc=>g x (C9 js env) λb1=>c b1 λok b2=>if ok=true then fk b2 λkk b3=>f b3 λy b4=>acc.length<=100000/\opt (BV kk) λkey=>CQ g c fk f js P xs (Ad js env b4) (C5 acc key y)else CQ g c fk f js P xs (Ad js env b2) acc
def HY(fi:WA)(T:F8)(c:WT)(fk f:WE)(js:List (Option Nat)):WE:=λenv P=>fi env λxs e=>CQ (FR T) c fk f js P xs e []
theorem pU{P:PV->En->Prop}{Q:VK}{xs:List PV}{J:It}(hj:D8 js=true)(hT:Bn js T=true)(K:yx (md ob X) Z F σ H env)(I1:El (md ob X) J F xs)(hf:CQ (FR T) c fk f js P xs env [])
  (kk:∀x dO v F' H',P x dO->eQ F F'->(∀xs,x≠.set xs)->yx (md ob X) Z F' (σ++[some v]) H' (dO++[some ⟨1,x⟩])->Q v H') (l:Addr) (hl:H l=none) :
  ∃W:Nat->Nat->List (Key×V)->Hp->Prop,(∃m,W 0 m [] (upd H l (.dK [])))/\∀i m ys H2,W i m ys H2 ->
  (J.stop i H2/\Q (.ref l) H2)\/(J.go i H2/\∀x H3,J.yld i H2 x H3->FT X.K T x (zv js σ) H3 λσ4 H4=>Jp (md ob X) c σ4 H4 λb H5=>
   if b=true then G7 (md ob X) fk σ4 H5 λkk H6=>G7 (md ob X) f σ4 H6 λy H7=>∃key,kk=kV key/\H7 l=some (.dK ys)/\ys.length<sizeLine/\∃m',m'<m/\W (i+1) m' (putK ys key y) (upd H7 l (.dK (putK ys key y)))else ∃m',m'<m/\W (i+1) m' ys H5):=by
 refine⟨λi m ys H'=>m=xs.length - i/\H' l=some (.dK ys)/\∃F' dO DU fp,eQ F F'/\yx (md ob X) Z F' σ H' dO/\Slots (md ob X) Z F' σ H' dO fp/\F' l=none/\(∀i,l∉fp i)/\yC X.K F' ys DU/\CQ (FR T) c fk f js P (xs.drop i) dO DU,?_,?_⟩
 .obtain⟨fp,L⟩:=K.sl;have hF:F l=none:=eQ.none_of K.sF hl;have hn:∀i,l∉fp i:=λi h=>(L.al i l h).1 hl;obtain⟨K1,L1⟩:=K.Bs (o:=.dK []) L hF (K.h0 hl) hn;exact⟨_,rfl,aj,F,env,[],fp,ak,K1,L1,hF,hn,.nil,hf⟩
 rintro i m ys H2 ⟨rfl,FW,F',dO,DU,fp,s,K',L',MH,hn,ry,hg⟩;have h0:Z.H₀ l=none:=K.h0 hl;by_cases zR:i<xs.length
 .rw[acY zR]at hg;obtain⟨h1,h2⟩:=I1.go Z i σ dO F' H2 xs[i] s K' (by simp[zR]);refine .inr ⟨h1,λv H3 y=>?_⟩;obtain⟨F2,s2,K2,r2,sH,nw⟩:=h2 v H3 y;have Nb:Slots (md ob X) Z F2 σ H3 dO fp:=L'.move s2 (λ_ c o _ e=>sH c o e) nw;have P4:F2 l=none:=by
   cases e:F2 l with
   |none=>rfl
   |some o=>
    rcases nw l (by rw[e];simp)with q|q
    .exact absurd MH q
    .rw[FW]at q;cases q
  have HN:H3 l=some (.dK ys):=sH _ _ FW;have Kb:=oK hj K2 Nb;have Nh:=cW (K:=X.K) hT v (zv js σ) H3 _ (qS (M:=md ob X) (Q:=λσ4 H4=>H4=H3/\∃b1,yx (md ob X) (Zb js dO fp F2 H3) F2 σ4 H3 b1/\c b1 _) Kb r2 hg λe4 σ4 p4 K4=>⟨rfl,e4,K4,p4⟩);have mono:∀(Q1 Q2:L2.St->Hp->Prop),(∀a b,Q1 a b->Q2 a b)->FT X.K T v (zv js σ) H3 Q1->FT X.K T v (zv js σ) H3 Q2:=by
   have Gy:∀(l:List Nat),∀x σ H (Q Q':L2.St->Hp->Prop),(∀a b,Q a b->Q' a b)->C4 l x σ H Q->C4 l x σ H Q':=by
    intro l;induction l with
    |nil=>exact λx σ H Q Q' h q=>⟨q.1,h _ _ q.2⟩
    |cons i l ih=>exact lO iO ih
   intro Q1 Q2 hq q;cases T with
   |nm i=>exact hq _ _ q
   |tp l=>
    obtain⟨a,xs,e1,e2,e3,e4⟩:=q;exact⟨a,xs,e1,e2,e3,Gy l _ _ _ _ _ hq e4⟩
  refine mono _ _ ?_ Nh;rintro σ4 H4 ⟨⟨rfl,b1,K4,p4⟩,hlen,zD⟩;refine⟨_,F2,b1,_,K4,p4,λb b2 F5 H5 p5 s5 K5=>?_⟩;have again:∀{F6 H6:Hp} {b3:En} {ys':List (Key×V)} {Ey:List (Key×PV)},eQ F2 F6->yx (md ob X) (Zb js dO fp F2 H4) F6 σ4 H6 b3->CQ (FR T) c fk f js P (xs.drop (i+1)) (Ad js dO b3) Ey->yC X.K F6 ys' Ey ->
    H6 l=some (.dK ys)/\(∃m',m'<xs.length - i/\m'=xs.length - (i+1)/\(upd H6 l (.dK ys')) l=some (.dK ys')/\∃F' dO DU fp,eQ F F'/\yx (md ob X) Z F' σ (upd H6 l (.dK ys')) dO/\Slots (md ob X) Z F' σ (upd H6 l (.dK ys')) dO fp/\F' l=none/\(∀i,l∉fp i)/\yC X.K F' ys' DU/\CQ (FR T) c fk f js P (xs.drop (i+1)) dO DU):=λ{F6 H6 b3 ys' Ey} s6 K6 p6 r6=>by
   obtain⟨FY,L6,Qo,FF⟩:=mJ hj K2 Nb K6 zD;have JP:H6 l=some (.dK ys):=K6.sG l _ HN λz=>by
    obtain⟨_,j,_,_,_,hm⟩:=eh z;exact hn j hm
   have ME:F6 l=none:=by
    cases e:F6 l with
    |none=>rfl
    |some o=>
     rcases K6.nw l (by rw[e];simp)with q|q
     .exact absurd P4 q
     .exact absurd q (by show H4 l≠none;rw[HN];simp)
   have HK:∀i,l∉FY i:=λi h=>by
    rcases FF i l h with ⟨i',q⟩|q
    .exact hn i' q
    .rw[HN]at q;cases q
   obtain⟨K7,L7⟩:=Qo.Bs (o:=.dK ys') L6 ME h0 HK;exact⟨JP,_,by omega,rfl,aj,F6,_,_,FY,ah s (ah s2 s6),K7,L7,ME,HK,r6,p6⟩
  cases b with
  |false=>
   refine BW ?_;obtain⟨Pz,m',h1,h2,h3,F',dO,DU,fp,q1,q2,q3,q4⟩:=again (ys':=ys) s5 K5 p5 ((ry.mono s2).mono s5);have e:upd H5 l (.dK ys)=H5:=by
    funext a;by_cases z:a=l
    .subst z;rw[aj,Pz]
    .rw[ae z]
   rw[e]at h3 q2 q3;exact⟨m',h1,h2,h3,F',dO,DU,fp,q1,q2,q3,q4⟩
  |true=>
   refine Cq ⟨_,F5,b2,_,K5,p5,λkx b3 v6 F6 H6 p6 s6 K6 r6=>⟨_,F6,b3,_,K6,p6,λy b4 v7 F7 H7 p7 s7 K7 r7=>?_⟩⟩;obtain⟨p7,key,GJ,p8⟩:=p7;have QK:=ah s5 (ah s6 s7);obtain⟨JP,q⟩:=again (ys':=putK ys key v7) QK K7 p8 (((ry.mono s2).mono QK).put r7);refine⟨key,fN GJ r6,JP,?_,q⟩;rw[ry.len,aaB];omega
 .rw[adf (by omega)]at hg;refine .inl ⟨I1.stop Z i σ dO F' H2 s K' (by omega),kk _ dO _ F' H2 hg s (λ_=>by simp) ?_⟩;refine K'.slots (by simp[K'.len]) (L'.push (l:=[l]) (by simp) K'.len (.inr (.inl ⟨rfl,l,rfl,rfl,h0,ys,FW,ry⟩)) (λa ha=>?_) λj a ha=>?_)
  .simp at ha;subst ha;exact⟨by rw[FW];simp,MH⟩
  .simp at ha;subst ha;exact hn j
def uG(hi:G3 ob X tg iter fi)(hg:∀C s₀ H₀ ex pn,PG (yw X scope N C s₀ H₀ ex pn) tg (FT X.K T))(ht:∀C s₀ H₀ ex pn,KU ob (yw X scope N C s₀ H₀ ex pn) ifs c)(hk:∀C s₀ H₀ ex pn,yW ob (yw X scope N C s₀ H₀ ex pn) kx fk)(he:∀C s₀ H₀ ex pn,yW ob (yw X scope N C s₀ H₀ ex pn) vx f)
  (hj:D8 js=true:=by rfl) (hT:Bn js T=true:=by rfl)
  (hc:X.calm=true:=by rfl) (hx:X.xe=(λ_ _=>False):=by rfl) (BI:BQ X.env scope=true:=by rfl) (zD:Ay X.N scope N js=true:=by rfl) (yY:scope.kind=.function:=by rfl) (hs:∀x,aaT iter X.env x=pure x:=by intro _;rfl) :
  Ie ob X (.DictComp kx vx [⟨tg,iter,ifs,0⟩] scope pos) (HY fi T c fk f js):=by
 obtain⟨wi,GF,k⟩:=hi.ex;refine⟨_,yc (tc:=Jp (md ob X) c) (tk:=G7 (md ob X) fk) (te:=G7 (md ob X) f) GF hg (λC s₀ H₀ ex pn=>(ht C s₀ H₀ ex pn).ex) (λC s₀ H₀ ex pn=>(hk C s₀ H₀ ex pn).pe) (λC s₀ H₀ ex pn=>(he C s₀ H₀ ex pn).pe) (cW hT) hc hx BI zD yY hs,λZ F σ H env P Q K hf kk=>?_⟩;exact k Z F σ H env _ _ K hf λxs e1 J F1 H1 p s1 K1 I1 l hl=>pU hj hT K1 I1 p (λx e2 v F2 H2 p2 s2 Kv K2=>kk x e2 v F2 H2 p2 (ah s1 s2) Kv K2) l hl
variable{zK:Pos}
def uF(i:Nat){y:Str}(hN:X.N.Nodup)(hy:X.N[i]?=some y)(hl:X.env.scope.names.lookup y=some .local)(hi:G3 ob X tg iter fi)(hg:∀C s₀ H₀ ex pn,PG (yw X scope N C s₀ H₀ ex pn) tg (FT X.K T))(ht:∀C s₀ H₀ ex pn,KU ob (yw X scope N C s₀ H₀ ex pn) ifs c)(hk:∀C s₀ H₀ ex pn,yW ob (yw X scope N C s₀ H₀ ex pn) kx fk)(he:∀C s₀ H₀ ex pn,yW ob (yw X scope N C s₀ H₀ ex pn) vx f)
  (hj:D8 js=true:=by rfl) (hT:Bn js T=true:=by rfl)
  (GG:abK (.DictComp kx vx [⟨tg,iter,ifs,0⟩] scope pos) (some (.Name y py)) zK.line X.env=pure true:=by rfl)
  (hc:X.calm=true:=by rfl) (hx:X.xe=(λ_ _=>False):=by rfl) (BI:BQ X.env scope=true:=by rfl) (zD:Ay X.N scope N js=true:=by rfl) (yY:scope.kind=.function:=by rfl) (hs:∀x,aaT iter X.env x=pure x:=by intro _;rfl) :
  C1 ob X (.Assign [.Name y py] (.DictComp kx vx [⟨tg,iter,ifs,0⟩] scope pos) zK) (A0 i (HY fi T c fk f js)):=by
 obtain⟨wi,GF,k⟩:=hi.ex;refine⟨_,uA (tc:=Jp (md ob X) c) (tk:=G7 (md ob X) fk) (te:=G7 (md ob X) f) hN hy hl GF hg (λC s₀ H₀ ex pn=>(ht C s₀ H₀ ex pn).ex) (λC s₀ H₀ ex pn=>(hk C s₀ H₀ ex pn).pe) (λC s₀ H₀ ex pn=>(he C s₀ H₀ ex pn).pe) (cW hT) GG hc hx BI zD yY hs,λZ F σ H env P D K hf L=>?_⟩;refine k Z F σ H env _ _ K hf λxs e1 J F1 H1 p s1 K1 I1 l hl=>?_;exact pU hj hT K1 I1 p (λx e2 v F2 H2 p2 s2 Kv K2=>L.nx _ _ F2 H2 p2 (ah s1 s2) K2.take) l hl
abbrev LM:=List PV->List PV->Option (PV×List PV)
def GW(m:LM)(i:Nat)(fa:WA):WE:=λenv P=>(match env[i]? with|some (some ⟨1,.lst _⟩)=>True|some (some ⟨3,.lst _⟩)=>True|_=>False)/\fa env λxs e=>match e[i]? with
 |some (some ⟨1,.lst ys⟩)=>opt (m ys xs) λr=>P r.1 (e.set i (some ⟨1,.lst r.2⟩))
 |some (some ⟨3,.lst ys⟩)=>opt (m ys xs) λr=>P r.1 (e.set i (some ⟨3,.lst r.2⟩))
 |_=>False
def M8(K:aaf)(r:V->List V->Hp->VK->Prop)(m:LM):Prop :=
 ∀(F H:Hp) (l:Addr) (ys vs:List V) (ps xs:List PV) (z:PV) (Ir:List PV) (Q:VK),eQ F H->H l=some (.lst ys)->yA K F ys ps->yA K F vs xs->m ps xs=some (z,Ir) ->
  (∀v ys',Rep K F v z->yA K F ys' Ir->Q v (upd H l (.lst ys')))->r (.ref l) vs H Q
variable{c:Expr}{apos zE:Pos}{name:Str}{r:V->List V->Hp->VK->Prop}{m:LM}
theorem rR{t:TA}{i:Nat}(hq:M8 X.K r m)(k:∀(Z:Zn) (F:Hp) (σ:L2.St) (H:Hp) (env:En) (P:List PV->En->Prop) (Q:List V->Hp->Prop),yx (md ob X) Z F σ H env->fa env P->(∀xs dO vs F' H',P xs dO->xs.length=es.length->eQ F F'->yx (md ob X) Z F' σ H' dO->yA X.K F' vs xs->Q vs H')->t σ H Q):
  ∀(Z:Zn) (F:Hp) (σ:L2.St) (H:Hp) (env:En) (P:PV->En->Prop) (Q:VK),yx (md ob X) Z F σ H env->GW m i fa env P->(∀x dO v F' H',P x dO->eQ F F'->yx (md ob X) Z F' σ H' dO->Rep X.K F' v x->Q v H')->QF X.K "list" r (zt i) t σ H Q:=by
 intro Z F σ H env P Q K hf kk;obtain⟨h0,hf⟩:=hf;obtain⟨a,hσ,La,ha⟩:∃a,σ[i]?=some _/\∃vs,H a=some _:=by
  split at h0
  .rename_i e;obtain⟨a,h1,vs,h2,_⟩:=K.ownAt (.inl rfl) e;exact⟨a,h1,vs,h2⟩
  .rename_i e;obtain⟨a,h1,vs,h2,_⟩:=K.ownAt (.inr rfl) e;exact⟨a,h1,vs,h2⟩
  .exact h0.elim
 refine⟨_,hσ,.inl ⟨rfl,La,.inl (.inl ha)⟩,?_⟩;refine k Z F σ H env _ _ K hf λxs e1 vs F1 H1 p _ s1 K1 r1=>?_;have fin:∀(kd:Nat) (ys:List PV),kd=1\/kd=3->e1[i]?=some (some ⟨kd,.lst ys⟩)->opt (m ys xs) (λr=>P r.1 (e1.set i (some ⟨kd,.lst r.2⟩)))->r _ vs H1 Q:=λkd ys hk ei ⟨⟨z,ys'⟩,hm,p⟩=>by
  obtain⟨a',h1,ws,h2,h3⟩:=K1.ownAt hk ei;rw[hσ]at h1;cases h1;refine hq F1 H1 a ws vs ys xs z ys' Q K1.sF h2 h3 r1 hm λv us rv ru=>?_;exact kk z _ v F1 _ p s1 (K1.write hk ei hσ ⟨us,aj,ru⟩) rv
 split at p
 .rename_i ei;exact fin _ _ (.inl rfl) ei p
 .rename_i ei;exact fin _ _ (.inr rfl) ei p
 .exact p.elim
def iR(i:Nat)(slot:Slot "list" name IA)(JF:typeOf (.builtin IA)=pure (.type "method_descriptor"))(hm:NV X IA r)(hq:M8 X.K r m)(ho:PE X (.Name x p) (zt i))(ha:Ex ob X (e::es) fa)
  (Ao:ab8 (.Name x p) name X.env (eval (.Name x p) X.env)=eval (.Name x p) X.env:=by rfl)
  (ES:((backTo zE (aag (e::es) X.env)).all (λx=>!x.1) && (backToKw zE (adA [] X.env)).all (λx=>x.1.isSome)
   && decide ((e::es).length+([]:List adr).length+(if ([]:List adr).isEmpty then 0 else 1)<30))=true:=by rfl)
  (Am:(apos.endLine==zE.line)=true:=by rfl) (hs:aag (e::es) X.env=(false,eval e X.env)::aag es X.env:=by rfl) (BX:(backTo zE (aag es X.env)).any (·.1)=false:=by rfl) :
  yW ob X (.Call (.Attribute (.Name x p) name apos) (e::es) [] zE) (GW m i fa):=by
 obtain⟨t,ht,k⟩:=ha.ex;exact⟨_,qm aco slot JF hm ho ht Ao ES Am hs BX,rR hq k⟩
def xT(i:Nat)(slot:Slot "list" name IA)(JF:typeOf (.builtin IA)=pure (.type "method_descriptor"))(hm:NV X IA r)(hq:M8 X.K r m)(ho:PE X (.Name x p) (zt i))
  (Ao:ab8 (.Name x p) name X.env (eval (.Name x p) X.env)=eval (.Name x p) X.env:=by rfl) (Am:(apos.endLine==zE.line)=true:=by rfl):yW ob X (.Call (.Attribute (.Name x p) name apos) [] [] zE) (GW m i iD):=by
 refine⟨_,w4 aco slot JF hm ho Ao Am,λZ F σ H env P Q K hf kk=>?_⟩;obtain⟨v,h1,h2,h3⟩:=rR (es:=[]) hq (λZ F σ H env P Q K hf k=>k [] env [] F H hf rfl ak K .nil) Z F σ H env P Q K hf kk;exact⟨v,h1,h2,h3⟩
def bL:LM:=λys xs=>match xs with
 |[x]=>if ys.length<=100000 then some (.yB,ys++[x])else none
 |_=>none
def cA:M8 X.K pC bL:=by
 intro F H l ys vs ps xs z Ir Q sF hl ry rx hm k;unfold bL at hm;split at hm
 .split at hm
  .cases hm;cases rx with
   |cons r1 r2=>
    cases r2;refine⟨l,ys,_,rfl,rfl,hl,?_,k _ _ .yB (ry.app (.cons r1 .nil))⟩;rw[ry.len,aaB];omega
  .cases hm
 .cases hm
def HG:LM:=λys xs=>match xs with
 |[]=>(ys[ys.length - 1]?).map λy=>(y,ys.dropLast)
 |_=>none
def yA.dl{vs:List V}{xs:List PV}(h:yA K F vs xs):yA K F vs.dropLast xs.dropLast:=by
 rw[List.dropLast_eq_take,List.dropLast_eq_take,h.len];exact h.take _
def xp:M8 X.K Lx HG:=by
 intro F H l ys vs ps xs z Ir Q sF hl ry rx hm k;unfold HG at hm;split at hm
 .rw[aau]at hm;obtain⟨y,hy,e⟩:=hm;cases e;cases rx;obtain⟨v,hv,rv⟩:=ry.get hy;exact⟨l,ys,v,rfl,rfl,hl,by rw[ry.len];exact hv,k _ _ rv ry.dl⟩
 .cases hm
def Dg:PV->PV->PV->Option PV
 |.lst xs,.int i,v=>(G9 xs.length i).map λj=>.lst (xs.set j v)
 |.zh gE,y,v=>if gE.length<=100000 then (BV y).map λk=>.zh (C5 gE k v)else none
 |_,_,_=>none
def Jl(i:Nat)(fv fk:WE):WS:=λP env=>fv env λv e1=>(e1[i]?).join.isSome=true/\fk e1 λy e2=>match e2[i]? with
 |some (some ⟨1,x⟩)=>opt (Dg x y v) λz=>P.nx (e2.set i (some ⟨1,z⟩))
 |some (some ⟨3,x⟩)=>opt (Dg x y v) λz=>P.nx (e2.set i (some ⟨3,z⟩))
 |_=>False
variable{ke:Expr}
def Im:G1:=λo i v H Q=>∃a H',o=.ref a/\Km H a i v H'/\Q H'
def sX(hu:X.A.units+1<cLine):Eh X Im:=by
 intro pins s σ H o i v ov iv u Q I ro ri rv h;obtain⟨a,H',rfl,g,q⟩:=h;cases ro;exact sB hu I g ri rv λs4 I4=>⟨H',I4,q⟩
def Eh.or{t u:G1}(h:Eh X t)(h':Eh X u):Eh X (λo i v H Q=>t o i v H Q\/u o i v H Q):=by
 intro pins s σ H o i v ov iv w Q I ro ri rv q;rcases q with q|q
 .exact h pins s σ H o i v ov iv w Q I ro ri rv q
 .exact h' pins s σ H o i v ov iv w Q I ro ri rv q
theorem xQ(i:Nat)(hu:X.A.units+1<cLine)(hv:yW ob X e f)(ho:PE X (.Name x p) (zt i))(hk:yW ob X ke fk)
  (hs:ac6 [.Subscript (.Name x p) ke pos] e zK.line X.env=pure false:=by rfl) (hw:ac7 [.Subscript (.Name x p) ke pos] e X.env=pure none:=by rfl)
  (h1:(abX [.Subscript (.Name x p) ke pos] X.env).map (·.2)=[assign (.Subscript (.Name x p) ke pos) X.env]:=by rfl)
  (ha:∀v,assign (.Subscript (.Name x p) ke pos) X.env v=(do
   let ov <- acn [v] (eval (.Name x p) X.env);let iv <- acn [v,ov] (eval ke X.env)
   standAt pos
   acn [v,ov,iv] (setItem ov iv v)
   release [v,ov,iv] []):=by intro _;rfl):C1 ob X (.Assign [.Subscript (.Name x p) ke pos] e zK) (Jl i f fk):=by
 obtain⟨t,ht,k⟩:=hv.ex;obtain⟨t2,JG,k2⟩:=hk.ex;refine⟨_,j6 ht (nC ho JG (Eh.or jB (sX hu)) ha) hs hw h1,λZ F σ H env P D K hf L=>k Z F σ H env _ _ K hf λv e1 v' F1 H1 p s1 K1 r1=>?_⟩;obtain⟨h0,p⟩:=p;obtain⟨w,hw⟩:∃v,σ[i]?=some _:=by
  cases e:e1[i]? with
  |none=>rw[e]at h0;cases h0
  |some w=>
   cases w with
   |none=>rw[e]at h0;cases h0
   |some s=>
    obtain⟨fp,L⟩:=K1.sl;obtain⟨v,hv,_⟩:=L.at' i s e;exact⟨v,hv⟩
 refine⟨w,hw,k2 Z F1 σ H1 e1 _ _ K1 p λy e2 y' F2 H2 p2 s2 K2 r2=>?_⟩;have fin:∀(kd:Nat) (x:PV),kd=1\/kd=3->e2[i]?=some (some ⟨kd,x⟩)->opt (Dg x y v) (λz=>P.nx (e2.set i (some ⟨kd,z⟩)))->(Fe w y' v' H2 _)\/Im w y' v' H2 _:=λkd x hk ei ⟨z,hz,p⟩=>by
  obtain⟨a,h1,hx⟩:=K2.ownAt hk ei;rw[hw]at h1;cases h1;have QO:=r1.mono s2;unfold Dg at hz;split at hz
  .rw[aau]at hz;obtain⟨j,hj,rfl⟩:=hz;obtain⟨vs,h2,h3⟩:=hx;cases r2;exact .inl ⟨a,vs,_,j,rfl,rfl,h2,by rw[h3.len];exact hj,L.nx _ _ F2 _ p (ah s1 s2) (K2.write hk ei hw ⟨_,aj,h3.OE j QO⟩)⟩
  .split at hz
   .rw[aau]at hz;obtain⟨j,hj,rfl⟩:=hz;obtain⟨vs,h2,h3⟩:=hx;have hy:=fN hj r2;subst hy;exact .inr ⟨a,_,rfl,Sf h2 (by rw[h3.len,aaB];omega),L.nx _ _ F2 _ p (ah s1 s2) (K2.write hk ei hw ⟨_,aj,h3.put QO⟩)⟩
   .cases hz
  .cases hz
 split at p2
 .rename_i ei;exact fin _ _ (.inl rfl) ei p2
 .rename_i ei;exact fin _ _ (.inr rfl) ei p2
 .exact p2.elim
abbrev Fd:=List PV->(PV->Prop)->Prop
def ED(M:Md)(n:Nat)(D:Fd):Sp:=λvs H Q _=>∃(F:Hp) (xs:List PV) (P:PV->Prop),eQ F H/\yA M.K F vs xs/\xs.length=n/\D xs P /\
 ∀r v F' H',P r->eQ H H'->eQ F F'->eQ F' H'->(∀a,F' a≠none->F a≠none\/H a=none)->Rep M.K F' v r->Q v H'
def Aj(n:Nat)(xs:List PV):En:=xs.map (λx=>some ⟨0,x⟩)++aaC (n - xs.length) none
def ML(P:PV->Prop):Wd:={nx:=λ_=>P .yB,rt:=λx _=>P x}
def run(n:Nat)(u:WS):Fd:=λxs P=>u (ML P) (Aj n xs)
abbrev BL:=PV->List PV->(PV->PV->Prop)->Prop
def G5(M:Md)(n:Nat)(D:BL):Sp:=λvs H Q _=>∃(F:Hp) (a:Addr) (l:List Addr) (c:PV) (ws:List V) (xs:List PV) (P:PV->PV->Prop),vs=.ref a::ws/\eQ F H/\yA M.K F ws xs/\xs.length+1=n /\
 M.ob.P F H a l c/\(∀b∈l,H b≠none/\F b=none)/\D c xs P /\
 ∀r c' v F' H' l',P r c'->(∀b o,H b=some o->b∉l->H' b=some o)->(∀b,H b≠none->H' b≠none)->eQ F F'->eQ F' H'->(∀a,F' a≠none->F a≠none\/H a=none)->M.ob.P F' H' a l' c'->(∀b∈l',H' b≠none/\F' b=none)->(∀b∈l',b∈l\/H b=none)->Rep M.K F' v r->Q v H'
def LP(P:PV->Prop)(e:En):Prop:=match e[(0:Nat)]? with
 |some (some ⟨2,c⟩)=>P c
 |_=>False
def Ka(P:PV->PV->Prop):Wd:={nx:=λe=>LP (P .yB) e,rt:=λx e=>LP (P x) e}
def Fv(n:Nat)(u:WS):BL:=λc xs P=>u (Ka P) (some ⟨2,c⟩::Aj (n - 1) xs)
def gW{vs:List V}(h:vs.length<=N.length):(start N vs).length=N.length:=by
 unfold L2.start;rw[aa3,aae,abL];omega
def gu{xs:List PV}(h:xs.length<=n):(Aj n xs).length=n:=by
 unfold Aj;rw[aa3,aae,abL];omega
def gv{xs:List PV}{i:Nat}{s:Sl}(h:(Aj n xs)[i]?=some (some s)):∃x,xs[i]?=some x/\s=⟨0,x⟩:=by
 unfold Aj at h;rcases aaX i xs.length with q|q
 .rw[aat (by simp_all),aah,aaa q]at h;exact⟨_,by simp[q],(aaq (aaq h)).symm⟩
 .rw[acP (by simp_all),List.getElem?_replicate]at h;split at h<;>cases h
def dm{vs:List V}{i:Nat}{v:V}(h:vs[i]?=some v):(start N vs)[i]?=some (some v):=by
 unfold L2.start;have q:i<vs.length:=by
  rcases aaX i vs.length with q|q
  .exact q
  .rw[aap q]at h;cases h
 rw[aat (by simp_all),aah,h];rfl
theorem mh{vs:List V}{xs:List PV}(sF:eQ F H)(r:yA M.K F vs xs)(hl:xs.length<=N.length):yx M ⟨H,F,[],λ_=>none,λ_ h=>by simp at h⟩ F (start N vs) H (Aj N.length xs):=by
 have FX:vs.length<=N.length:=by rw[r.len];exact hl
 refine⟨sF,λb o h _=>h,λb h=>h,ak,λa h=>.inl h,by rw[gu hl,gW FX],λ_=>[],λi s h=>?_,λi a h=>by simp at h,λi j a _ h=>by simp at h,λi a s h=>by cases h⟩;obtain⟨x,hx,rfl⟩:=gv h;obtain⟨v,hv,rv⟩:=r.get hx;exact⟨v,dm hv,.inl ⟨rfl,rfl,rv⟩⟩
variable{l:List Addr}
theorem qj{xs:List PV}{a:Addr}{c:PV}(sF:eQ F H)(r:yA M.K F ws xs)(hl:xs.length+1<=N.length)(ho:M.ob.P F H a l c)(hb:∀b∈l,H b≠none/\F b=none):
  yx M ⟨H,F,l,λi=>if i=0 then some a else none,λb h=>(hb b h).1⟩ F (start N (.ref a::ws)) H (some ⟨2,c⟩::Aj (N.length - 1) xs):=by
 have FX:ws.length+1<=N.length:=by rw[r.len];exact hl
 refine⟨sF,λb o h _=>h,λb h=>h,ak,λa h=>.inl h,?_,λi=>if i=0 then l else [],λi s h=>?_,λi b h=>?_,λi j b Cc h z=>?_,λi b s h _ _=>?_⟩
 .rw[aaI,gu (by omega),gW (by omega)];omega
 .cases i with
  |zero=>
   have h  :=by simpa using h.symm
   subst h;exact⟨.ref a,dm rfl,.inr (.inr (.inl ⟨.inl rfl,a,rfl,λc hc=>.inl hc,ho⟩))⟩
  |succ i=>
   obtain⟨x,hx,rfl⟩:=gv h;obtain⟨v,hv,rv⟩:=r.get hx;exact⟨v,dm (by simp_all),.inl ⟨rfl,rfl,rv⟩⟩
 .split at h
  .exact hb b h
  .simp at h
 .split at h
  .split at z
   .rename_i h1 h2;exact Cc (h1.trans h2.symm)
   .simp at z
  .simp at h
 .dsimp only at h;split at h
  .rename_i e;subst e;cases h;exact dm rfl
  .cases h
variable{P:aaA}{w:World}{mg:Str->Option Value}{base:Heap}
variable{qual:Str}{fd:abl}{ps:List Str}
def bn{f:Addr}{k:Nat}(F:Fp K x qual st f fd)(S:av N ps (ap st))(hn:ps.length<=N.length)
  (hb:∀(y6:Value) (A:Around) (outer:List Env) (s:Shared) (H:Hp) (E:XK),y9 k (A.deeper (envOfC qual (ap st) s.heap.objs.size f y6))->B6 ob (CS zB P w K mg base N qual (ap st) f y6 A outer s H E).G8 (bp st) u) :
  yG P w K mg base zB (k+1) f fd ps (ED ⟨P,w,K,ob⟩ ps.length (run N.length u)):=by
 refine F.ok S (λvs H Q E h=>?_) (λy6 A outer s H vs Q E hr h=>?_)
 .obtain⟨F,xs,P,_,r,hl,_⟩:=h;rw[r.len];exact hl
 .obtain⟨F,xs,P',sF,r,hl,hD,kk⟩:=h;obtain⟨t,ht,kt⟩:=(hb y6 A outer s H E hr).ex;refine⟨t,ht,kt _ F _ H _ _ _ (mh sF r (by omega)) hD ⟨λenv σ F' H' p s1 K1=>?_,λx env v σ F' H' p s1 K1 rv=>?_,λ_ _ _ _ p=>p.elim,λ_ _ _ _ p=>p.elim,λ_ _ _ _ _ _ p=>p.elim,λ_ _ _ _ _ _ _ p=>p.elim⟩⟩
  .exact kk .yB .yB F' H' p (λb o h=>K1.sG b o h (by simp)) s1 K1.sF K1.nw .yB
  .exact kk x v F' H' p (λb o h=>K1.sG b o h (by simp)) s1 K1.sF K1.nw rv
def kD{f:Addr}{k:Nat}(F:Fp K x qual st f fd)(S:av N ps (ap st))(hn:ps.length<=N.length)
  (hb:∀(y6:Value) (A:Around) (outer:List Env) (s:Shared) (H:Hp) (E:XK),y9 k (A.deeper (envOfC qual (ap st) s.heap.objs.size f y6))->B6 ob (CS zB P w K mg base N qual (ap st) f y6 A outer s H E).G8 (bp st) u) :
  yG P w K mg base zB (k+1) f fd ps (G5 ⟨P,w,K,ob⟩ ps.length (Fv N.length u)):=by
 refine F.ok S (λvs H Q E h=>?_) (λy6 A outer s H vs Q E hr h=>?_)
 .obtain⟨F,a,l,c,ws,xs,P,rfl,_,r,hl,_⟩:=h;rw[aaI,r.len];exact hl
 .obtain⟨F,a,l,c,ws,xs,P',rfl,sF,r,hl,ho,Hf,hD,kk⟩:=h;obtain⟨t,ht,kt⟩:=(hb y6 A outer s H E hr).ex;have fin:∀(x:PV) (env:En) (v:V) (σ:L2.St) (F' H':Hp),LP _ env->eQ F F'->yx _ ⟨H,F,l,λi=>if i=0 then some a else none,λb h=>(Hf b h).1⟩ F' σ H' env->Rep K F' v x->Q v H':=λx env v σ F' H' p s1 K1 rv=>by
   unfold LP at p;split at p
   .rename_i c' e;obtain⟨fp,L⟩:=K1.sl;obtain⟨v0,DR,ok⟩:=L.at' 0 _ e;have hσ:=L.oa 0 a _ rfl e rfl;rw[hσ]at DR;cases DR;rcases ok with ⟨k0,_⟩|⟨k0,_⟩|⟨_,a',e',h1,h2⟩|⟨k0,_⟩
    .cases k0
    .cases k0
    .cases e';exact kk x _ v F' H' _ p (λb o h1 h2=>K1.sG b o h1 h2) (λb h=>K1.pr b h) s1 K1.sF K1.nw h2 (λb hb=>L.al 0 b hb) (λb hb=>h1 b hb) rv
    .cases k0
   .exact p.elim
  refine⟨t,ht,kt _ F _ H _ _ _ (qj sF r (by omega) ho Hf) hD ⟨λenv σ F' H' p s1 K1=>?_,λx env v σ F' H' p s1 K1 rv=>?_,λ_ _ _ _ p=>p.elim,λ_ _ _ _ p=>p.elim,λ_ _ _ _ _ _ p=>p.elim,λ_ _ _ _ _ _ _ p=>p.elim⟩⟩
  .exact fin .yB env .yB σ F' H' p s1 K1 .yB
  .exact fin x env v σ F' H' p s1 K1 rv
def yP(D:Fd)(fa:WA):WE:=λenv P=>fa env λxs e=>D xs λr=>P r e
def yO(D:BL)(i:Nat)(fa:WA):WE:=λenv P=>(env[i]?).join.isSome=true/\fa env λxs e=>match e[i]? with
 |some (some ⟨2,c⟩)=>D c xs λr c'=>P r (e.set i (some ⟨2,c'⟩))
 |some (some ⟨4,c⟩)=>D c xs λr c'=>P r (e.set i (some ⟨4,c'⟩))
 |_=>False
variable{k:Nat}{Bg:Addr}{D:Fd}{DO:BL}{p1:Pos}
def wc(F:yG X.prog X.w X.K X.mg X.base zB k Bg fd ps (ED (md ob X) n D))(hr:y9 k X.A)(hm:X.mg x=some (.ref Bg))(hk:abx X.K (.ref Bg)=true)(hb:Binds X.K fd ps [])(ha:Ex ob X (e::es) fa)(hn:es.length+1=n:=by rfl)(hg:Gl X x:=by rfl)
  (BY:(x==("__debug__" : Str))=false:=by decide) (he:aag (e::es) X.env=(false,eval e X.env)::aag es X.env:=by rfl) (AQ:(backTo pos (aag es X.env)).any (·.1)=false:=by rfl) :
  yW ob X (.Call (.Name x p) (e::es) [] pos) (yP D fa):=by
 obtain⟨t,ht,kt⟩:=ha.ex;refine⟨_,iG F hr hg hm hk hb .nil D3 ht BY he AQ,λZ F σ H env P Q K hf kk=>kt Z F σ H env _ _ K hf λxs e1 vs F1 H1 p hl s1 K1 r1=>?_⟩;rw[abO];refine⟨F1,xs,_,K1.sF,r1,by simp_all,p,λr v F' H' pr sH sF Hy nw rv=>?_⟩;exact kk r e1 v F' H' pr (ah s1 sF) (K1.move sF Hy sH nw) rv
theorem yx.HE{i kd:Nat}{a:Addr}{c c':PV}{l':List Addr}(hk:kd=2\/kd=4)(K:yx M Z F σ H env)(L:Slots M Z F σ H env fp)(hi:env[i]?=some (some ⟨kd,c⟩))(hv:σ[i]?=some (some (.ref a)))
  (kp:∀b o,H b=some o->b∉fp i->H' b=some o) (pr:∀b,H b≠none->H' b≠none) (sF:eQ F F') (Hy:eQ F' H') (nw:∀a,F' a≠none->F a≠none\/H a=none) (ho:M.ob.P F' H' a l' c') (hl:∀b∈l',H' b≠none/\F' b=none) (hn:∀b∈l',b∈fp i\/H b=none) :
  yx M Z F' σ H' (env.set i (some ⟨kd,c'⟩))/\Slots M Z F' σ H' (env.set i (some ⟨kd,c'⟩)) (λj=>if j=i then l' else fp j):=by
 obtain⟨v0,DR,OS⟩:=L.at' i _ hi;have wr:=OS.wr;have RK:∀b∈l',b∈Z.S\/Z.H₀ b=none:=λb hb=>by
  rcases hn b hb with q|q
  .exact wr b q
  .exact .inr (K.h0 q)
 have zR:i<env.length:=by
  rcases aaX i env.length with q|q
  .exact q
  .rw[aap q]at hi;cases hi
 suffices S:Slots M Z F' σ H' _ _ from ⟨⟨Hy,λb o h1 h2=>kp b o (K.sG b o h1 h2) λz=>(wr b z).elim h2 λq=>(by simp_all),λb h=>pr b (K.pr b h),ah K.gr sF,λa h=>(nw a h).elim (K.nw a) λq=>.inr (K.h0 q),by simp[K.len],_,S⟩,S⟩
 refine⟨λj s e=>?_,λj b h=>?_,λj j2 b KD h z=>?_,λj b s e1 e2 e3=>?_⟩
 .by_cases q:j=i
  .subst q;rw[abv]at e;simp only[zR]at e;cases e;exact⟨_,hv,by rw[if_pos rfl];exact .inr (.inr (.inl ⟨hk,a,rfl,RK,ho⟩))⟩
  .rw[aav (abm q)]at e;obtain⟨v,h1,h2⟩:=L.at' j s e;have h3:=h2.mono sF λc hc=>by
    obtain⟨o,ho⟩:=cg (L.al j c hc).1;rw[ho];exact kp c o ho (L.dj j i c q hc)
   exact⟨v,h1,by simp_all⟩
 .by_cases q:j=i
  .rw[if_pos q]at h;exact hl b h
  .rw[if_neg q]at h;have:=L.al j b h;refine⟨pr b this.1,?_⟩;cases e:F' b with
   |none=>rfl
   |some o=>
    rcases nw b (by simp_all)with y|y
    .exact absurd this.2 y
    .exact absurd y this.1
 .have LY:∀j,j≠i->b∈l'->b∈fp j->False:=λj hj m1 m2=>by
   rcases hn b m1 with y|y
   .exact L.dj j i b hj m2 y
   .exact(L.al j b m2).1 y
  by_cases q:j=i
  .rw[if_pos q]at h;rw[if_neg (λy=>KD (q.trans y.symm))]at z;exact LY j2 (λy=>KD (q.trans y.symm)) h z
  .rw[if_neg q]at h;by_cases q2:j2=i
   .rw[if_pos q2]at z;exact LY j q z h
   .rw[if_neg q2]at z;exact L.dj j j2 b KD h z
 .by_cases q:j=i
  .subst q;rw[abv]at e2;simp only[zR]at e2;cases e2;exact L.oa j b _ e1 hi e3
  .rw[aav (abm q)]at e2;exact L.oa j b s e1 e2 e3
theorem uh(i:Nat){y:Str}(F:yG X.prog X.w X.K X.mg X.base zB k Bg fd ps (G5 (md ob X) n DO))(hr:y9 k X.A)(hm:X.mg x=some (.ref Bg))(hk:abx X.K (.ref Bg)=true)(hb:Binds X.K fd ps [])(ho:PE X (.Name y p1) (zt i))(ha:Ex ob X es fa)(hn:es.length+1=n:=by rfl)(hg:Gl X x:=by rfl)
  (BY:(x==("__debug__" : Str))=false:=by decide) (he:aag (.Name y p1::es) X.env=(false,eval (.Name y p1) X.env)::aag es X.env:=by rfl) (AQ:(backTo pos (aag es X.env)).any (·.1)=false:=by rfl) :
  yW ob X (.Call (.Name x p) (.Name y p1::es) [] pos) (yO DO i fa):=by
 obtain⟨t,ht,kt⟩:=ha.ex;refine⟨_,iG F hr hg hm hk hb .nil D3 (aY ho ht he) BY he AQ,λZ F σ H env P Q K hf kk=>?_⟩;obtain⟨h0,hf⟩:=hf;obtain⟨w,hw⟩:∃v,σ[i]?=some _:=by
  cases e:env[i]? with
  |none=>rw[e]at h0;cases h0
  |some w=>
   cases w with
   |none=>rw[e]at h0;cases h0
   |some s=>
    obtain⟨fp,L⟩:=K.sl;obtain⟨v,hv,_⟩:=L.at' i s e;exact⟨v,hv⟩
 refine⟨w,hw,kt Z F σ H env _ _ K hf λxs e1 vs F1 H1 p hl s1 K1 r1=>?_⟩;show G5 _ n DO _ H1 Q E0;rw[abO];have fin:∀(kd:Nat) (c:PV),kd=2\/kd=4->e1[i]?=some (some ⟨kd,c⟩)->DO c xs (λr c'=>P r (e1.set i (some ⟨kd,c'⟩)))->G5 _ n DO (w::vs) H1 Q E0:=λkd c HP ei p=>by
  obtain⟨fp,L⟩:=K1.sl;obtain⟨v0,DR,ok⟩:=L.at' i _ ei;rw[hw]at DR;cases DR;rcases ok with ⟨k0,_⟩|⟨k0,_⟩|⟨_,a,rfl,_,ho⟩|⟨k0,_⟩
  .rcases HP with rfl|rfl<;>cases k0
  .rcases HP with rfl|rfl<;>cases k0
  .refine⟨F1,a,fp i,c,vs,xs,_,rfl,K1.sF,r1,by omega,ho,λb hb=>L.al i b hb,p,λr c' v F' H' l' pr kp pre sF Hy nw Cb FX HL rv=>?_⟩;exact kk r _ v F' H' pr (ah s1 sF) (K1.HE HP L ei hw kp pre sF Hy nw Cb FX HL).1 rv
  .rcases HP with rfl|rfl<;>cases k0
 split at p
 .rename_i ei;exact fin _ _ (.inl rfl) ei p
 .rename_i ei;exact fin _ _ (.inr rfl) ei p
 .exact p.elim
def aW{D':Fd}(F:yG P w K mg base zB k Bg fd ps (ED ⟨P,w,K,ob⟩ n D))(h:∀xs P,D' xs P->D xs P):yG P w K mg base zB k Bg fd ps (ED ⟨P,w,K,ob⟩ n D') :=
 F.imp λvs H Q E ⟨F,xs,P,a,b,c,d,e⟩=>⟨F,xs,P,a,b,c,h _ _ d,e⟩
def iP{D D':BL}(F:yG P w K mg base zB k Bg fd ps (G5 ⟨P,w,K,ob⟩ n D))(h:∀c xs P,D' c xs P->D c xs P):yG P w K mg base zB k Bg fd ps (G5 ⟨P,w,K,ob⟩ n D') :=
 F.imp λvs H Q E q=>by
  obtain⟨F,a,l,c,ws,xs,P,a1,a2,a3,a4,a5,a6,a7,a8⟩:=q;exact⟨F,a,l,c,ws,xs,P,a1,a2,a3,a4,a5,a6,h _ _ _ a7,a8⟩
def Ml(r:y9 k A):A.units+1<cLine:=by have:=r.un;omega
def Al(r:y9 k A):A.units<cLine:=by have:=r.un;omega
def AB(r:y9 k A):A.units+60<cLine:=by have:=r.un;omega
def BA(r:y9 k A):A.units+62<cLine:=by have:=r.un;omega
def IX:PV->Option String
 |.yB=>some "NoneType"
 |.bl _=>some "bool"
 |.int _=>some "int"
 |.str _=>some "str"
 |.tup _=>some "tuple"
 |.lst _=>some "list"
 |.zh _=>some "dict"
 |_=>none
def GB(T c:String):Bool:=T==c || (T == "bool" && c == "int")
def GA(c:String)(x:PV):Option PV:=(IX x).map λT=>.bl (GB T c)
def FJ(c:String)(a:WE):WE:=Rw (GA c) a
def xz{x:PV}{T:String}(h:IX x=some T)(c:String)(hc:c = "str" \/ c = "tuple" \/ c = "int" \/ c = "bool" \/ c = "list" \/ c = "dict"):ady K (.type T) (.type c)=some (GB T c):=by
 cases x<;>cases h<;>rcases hc with rfl|rfl|rfl|rfl|rfl|rfl<;>rfl
def LF(K:aaf)(cl:String):List V->Hp->VK->Prop:=λxs H Q=>LG K xs H Q\/∃p vs,xs=[.ref p,.ty cl]/\AF K H p vs/\ady K (.type "tuple") (.type cl)=some (GB "tuple" cl)/\Q (.bl (GB "tuple" cl)) H
def xZ{cl:String}:za X (.builtin "isinstance") (LF X.K cl):=by
 refine za.or um ?_;intro pins s σ H xs us Q I r h;obtain⟨p,vs,rfl,hp,hk,q⟩:=h;cases r with
 |cons r1 r2=>
  cases r2 with
  |cons r2 r3=>
   cases r3;cases r2;cases r1;obtain⟨nE,_,⟨o,h1,h2,_⟩,_⟩:=I.tuple hp;exact abi PySem.W.kitx_tuple I.C6 ⟨o,h1,h2⟩ hk (λz=>nomatch z) λtk=>⟨.bl _,H,I.tok tk,rfl,q⟩
def kH(cl:String){T:Str}(hc:cl = "str" \/ cl = "tuple" \/ cl = "int" \/ cl = "bool" \/ cl = "list" \/ cl = "dict")(hm:X.mg "isinstance" = none)(hT:X.mg T=none)(hb:ab2 T=some (.type cl))(ha:CZ ob X a f)(hg:Gl X "isinstance" :=by rfl)(S4:Gl X T:=by rfl)(hn:T ≠ "__name__" :=by decide)(BY:(T==("__debug__" : Str))=false:=by decide)
  (he:aag [a,.Name T p1] X.env=(false,eval a X.env)::aag [.Name T p1] X.env:=by rfl) (S8:aag [.Name T p1] X.env=(false,eval (.Name T p1) X.env)::aag [] X.env:=by rfl) (AQ:(backTo pos (aag [.Name T p1] X.env)).any (·.1)=false:=by rfl) :
  yW ob X (.Call (.Name "isinstance" p) [a,.Name T p1] [] pos) (FJ cl f):=by
 obtain⟨t,ht,k⟩:=ha.ex;refine⟨_,cw (xZ (cl:=cl)) hg hm boot_isinstance (aY ht (aY (u6 (v:=.ty cl) S4 hT hb rfl hn BY) be S8) he) (by decide) (rfl) he AQ,λZ F σ H env P Q K hf kk=>k Z F σ H env _ _ K hf λx e1 v F1 H1 p s1 K1 r1=>?_⟩;obtain⟨z,hz,p⟩:=p;unfold GA at hz;rw[aau]at hz;obtain⟨T',NM,rfl⟩:=hz;have fin:∀w,Rep X.K F1 w _->Q w H1:=λw r=>kk _ e1 _ F1 H1 p s1 K1 r;have q:=fin _ (.bl _);have kt:=xz (K:=X.K) NM cl hc;cases x<;>cases NM
 .rw[r1.yB];exact .inl ⟨_,_,_,_,rfl,.yB,kt,q⟩
 .rw[r1.bl];exact .inl ⟨_,_,_,_,rfl,.bl _,kt,q⟩
 .rw[r1.int];exact .inl ⟨_,_,_,_,rfl,.int _,kt,q⟩
 .rw[r1.str];exact .inl ⟨_,_,_,_,rfl,.str _,kt,q⟩
 .obtain⟨q',vs,rfl,h1,h2⟩:=r1.tup K1.sF;exact .inr ⟨q',vs,rfl,h1,kt,q⟩
 .obtain⟨q',vs,rfl,h1,h2⟩:=r1.lst K1.sF;exact .inl ⟨_,_,_,_,rfl,.lst h1,kt,q⟩
 .obtain⟨q',vs,rfl,h1,h2⟩:=r1.zh K1.sF;exact .inl ⟨_,_,_,_,rfl,.dK h1,kt,q⟩
def B4(o o':PV->PV->Option PV)(fa fb fc:WE):WE:=λenv P=>fa env λx e1=>fb e1 λy e2=>opt (o x y) λz=>opt (Dc z) λk=>if k=true then fc e2 λw e3=>opt (o' y w) λz'=>P z' e3 else P (.bl false) e2
def wa(hm:∃t,X.mg x=some (.int i t))(hg:Gl X x:=by rfl)(hd:(x==("__debug__" : Str))=false:=by decide):yW ob X (.Name x pos) (eC (.int i)):=by
 obtain⟨t,hm⟩:=hm;exact eI (uZ (v:=.int i) hg hm ⟨t,rfl⟩ hd) λ_=>.int i
variable{o':PV->PV->Option PV}{tb:TE}
def mI{o:PV->PV->Option PV}{r:R2}{ta tc:TE}(hq:BK ob X r o)(JK:BK ob X r' o')
  (ka:∀(Z:Zn) (F:Hp) (σ:L2.St) (H:Hp) (env:En) (P:PV->En->Prop) (Q:VK),yx (md ob X) Z F σ H env->f env P->(∀x dO v F' H',P x dO->eQ F F'->yx (md ob X) Z F' σ H' dO->Rep X.K F' v x->Q v H')->ta σ H Q)
  (kb:∀(Z:Zn) (F:Hp) (σ:L2.St) (H:Hp) (env:En) (P:PV->En->Prop) (Q:VK),yx (md ob X) Z F σ H env->g env P->(∀x dO v F' H',P x dO->eQ F F'->yx (md ob X) Z F' σ H' dO->Rep X.K F' v x->Q v H')->tb σ H Q)
  (kc:∀(Z:Zn) (F:Hp) (σ:L2.St) (H:Hp) (env:En) (P:PV->En->Prop) (Q:VK),yx (md ob X) Z F σ H env->h env P->(∀x dO v F' H',P x dO->eQ F F'->yx (md ob X) Z F' σ H' dO->Rep X.K F' v x->Q v H')->tc σ H Q) :
  ∀(Z:Zn) (F:Hp) (σ:L2.St) (H:Hp) (env:En) (P:PV->En->Prop) (Q:VK),yx (md ob X) Z F σ H env->B4 o o' f g h env P->(∀x dO v F' H',P x dO->eQ F F'->yx (md ob X) Z F' σ H' dO->Rep X.K F' v x->Q v H')->Ez r r' ta tb tc σ H Q:=by
 intro Z F σ H env P Q K hf kk;refine ka Z F σ H env _ _ K hf λx e1 v F1 H1 p s1 K1 r1=>kb Z F1 σ H1 e1 _ _ K1 p λy e2 u F2 H2 p2 s2 K2 r2=>?_;obtain⟨z,hz,k,hk,p2⟩:=p2;refine hq Z F2 σ H2 e2 v u x y z _ K2 (.inl (r1.mono s2)) (.inl r2) hz λv' F3 H3 s3 K3 r3=>?_;obtain⟨rfl,rfl⟩:=iX r3 hk;refine⟨k,rfl,?_⟩;cases k with
 |true=>
  refine Cq (kc Z F3 σ H3 e2 _ _ K3 p2 λw e4 w' F4 H4 p4 s4 K4 r4=>?_);obtain⟨z',Sm,p4⟩:=p4;exact JK Z F4 σ H4 e4 u w' y w z' Q K4 (.inl ((r2.mono s3).mono s4)) (.inl r4) Sm λv5 F5 H5 s5 K5 r5=>kk z' e4 v5 F5 H5 p4 (ah s1 (ah s2 (ah s3 (ah s4 s5)))) K5 r5
 |false=>exact BW (kk _ e2 _ F3 H3 p2 (ah s1 (ah s2 s3)) K3 (.bl _))
def uf{EL:CmpOp}{o:PV->PV->Option PV}{r:R2}(ho:zC X (aaL op) r)(hq:BK ob X r o)(Cb:zC X (aaL EL) r')(JK:BK ob X r' o')(ha:yW ob X a f)(hb:yW ob X b g)(hc:yW ob X c h)
  (hm:lastMarks [op,EL] [b,c]=false:=by with_unfolding_all rfl):yW ob X (.Compare a [op,EL] [b,c] pos) (B4 o o' f g h):=by
 obtain⟨ta,ha,ka⟩:=ha.ex;obtain⟨tb,hb,kb⟩:=hb.ex;obtain⟨tc,hc,kc⟩:=hc.ex;exact⟨_,tD ho Cb ha hb hc hm,mI hq JK ka kb kc⟩
def ui{EL:CmpOp}{o:PV->PV->Option PV}{r:R2}(ho:zC X (aaL op) r)(hq:BK ob X r o)(Cb:zC X (aaL EL) r')(JK:BK ob X r' o')(ha:yW ob X a f)(hb:yW ob X b g)(hc:yW ob X c h)
  (hm:lastMarks [op,EL] [b,c]=false:=by with_unfolding_all rfl):Ew ob X (.Compare a [op,EL] [b,c] pos) (yM (B4 o o' f g h)):=by
 obtain⟨ta,ha,ka⟩:=ha.ex;obtain⟨tb,hb,kb⟩:=hb.ex;obtain⟨tc,hc,kc⟩:=hc.ex;refine⟨_,tf ho Cb ha hb hc hm,λZ F σ H env P Q K hf k=>mI hq JK ka kb kc Z F σ H env _ _ K hf λx e1 v F1 H1 p s1 K1 r1=>?_⟩;obtain⟨z,hz,p⟩:=p;cases x<;>try (cases hz)
 cases r1;exact⟨_,rfl,k _ e1 F1 H1 p s1 K1⟩
variable{c:WT}
def yx.Le{v:V}{x:PV}{i:Nat}(K:yx M Z F (σ++[some v]) H (env++[some ⟨1,x⟩]))(hx:∀xs,x≠.set xs):∃F',eQ F F'/\yx M Z F' (σ.set i (some v)) H (env.set i (some ⟨0,x⟩)):=by
 obtain⟨F',s,K',r⟩:=K.Fk hx;exact⟨F',s,K'.put r⟩
def sk(i:Nat){y:Str}(hN:X.N.Nodup)(hy:X.N[i]?=some y)(hk:X.env.scope.names.lookup y=some .local)(hi:G3 ob X tg iter fi)(hg:∀C s₀ H₀ ex pn,PG (yw X scope N C s₀ H₀ ex pn) tg (FT X.K T))(ht:∀C s₀ H₀ ex pn,KU ob (yw X scope N C s₀ H₀ ex pn) ifs c)(he:∀C s₀ H₀ ex pn,yW ob (yw X scope N C s₀ H₀ ex pn) elt f)
  (hj:D8 js=true:=by rfl) (hT:Bn js T=true:=by rfl)
  (GG:abK (.ListComp elt [⟨tg,iter,ifs,0⟩] scope pos) (some (.Name y py)) zK.line X.env=pure true:=by rfl)
  (hc:X.calm=true:=by rfl) (hx:X.xe=(λ_ _=>False):=by rfl) (BI:BQ X.env scope=true:=by rfl) (zD:Ay X.N scope N js=true:=by rfl) (yY:scope.kind=.function:=by rfl) (hs:∀x,aaT iter X.env x=pure x:=by intro _;rfl) :
  C1 ob X (.Assign [.Name y py] (.ListComp elt [⟨tg,iter,ifs,0⟩] scope pos) zK) (y8 i (FZ fi T c f js)):=by
 obtain⟨wi,GF,k⟩:=hi.ex;refine⟨_,ya (tc:=Jp (md ob X) c) (te:=G7 (md ob X) f) hN hy hk GF hg (λC s₀ H₀ ex pn=>(ht C s₀ H₀ ex pn).ex) (λC s₀ H₀ ex pn=>(he C s₀ H₀ ex pn).pe) (cW hT) GG hc hx BI zD yY hs,λZ F σ H env P D K hf L=>?_⟩;refine k Z F σ H env _ _ K hf λxs e1 J F1 H1 p s1 K1 I1 l hl=>?_;refine pJ (Q:=λv H'=>D.nx (σ.set i (some v)) H') hj hT K1 I1 p (λx e2 v F2 H2 p2 s2 Kv K2=>?_) l hl;obtain⟨F3,s3,K3⟩:=K2.Le Kv;exact L.nx _ _ F3 H2 p2 (ah s1 (ah s2 s3)) K3
variable{c:Expr}
end Q
namespace L2
open PySem PySem.Spec PyProof.Rows PySem.W
def Ai(P:Addr)(ps:Array Value):HO:=.ext λh=>h.get? P=some (tabObj ps)
def zZ(c:Addr)(lq:Str):HO:=.ext λh=>h.CodeRec (.ref c) lq
variable{P:aaA}{w:World}{H:Hp}{h:Heap}{a:Addr}{ps:Array Value}
def m4(e:h.get? a=some (tabObj ps)):zr P w H h a (Ai a ps):=⟨e,⟨_,e⟩,λh1 h2 x k=>k _ x⟩
end L2
namespace Pre
open PySem L2
structure DM(H:Hp)(a b:Addr):Prop where
 st:∃(ns:List Int) (z:Int),H a=some (.lst [.ref b,.int z])/\H b=some (.lst (ns.map V.int))/\(∀n∈ns,0<=n)/\0<=z/\z<2305843009213693951
def Eo(a b:Addr)(H H':Hp):Prop:=∀c o,H c=some o->c≠a->c≠b->H' c=some o
def Eo.refl(a b:Addr)(H:Hp):Eo a b H H:=λ_ _ h _ _=>h
variable{H:Hp}{a b:Addr}
def DM.ne(s:DM H a b):a≠b:=by
 obtain⟨ns,z,h1,h2,_⟩:=s.st;refine qu h1 h2 λe=>?_;injection e with e;cases ns with
 |nil=>cases e
 |cons n r=>injection e with e _;cases e
variable{o:HO}
def DM.grow{p:Addr}(s:DM H a b)(hp:H p=none):DM (upd H p o) a b:=by
 obtain⟨ns,z,h1,h2,h3⟩:=s.st;exact⟨ns,z,by rw[ae (au h1 hp)];exact h1,by rw[ae (au h2 hp)];exact h2,h3⟩
variable{H':Hp}
def Eo.grow{p:Addr}(x:Eo a b H H')(hp:H' p=none):Eo a b H (upd H' p o):=λc u h h1 h2=>by
 have q:=x c u h h1 h2;rw[ae (au q hp)];exact q
def Eo.Ji(x:Eo a b H H'):Eo a b H (upd H' a o):=λc u h h1 h2=>by rw[ae h1];exact x c u h h1 h2
def Eo.Hw(x:Eo a b H H'):Eo a b H (upd H' b o):=λc u h h1 h2=>by rw[ae h2];exact x c u h h1 h2
def DM.Hw{ns:List Int}(s:DM H a b)(hn:∀n∈ns,0<=n):DM (upd H b (.lst (ns.map V.int))) a b:=by
 have hne:=s.ne;obtain⟨_,z,h1,h2,_,h3⟩:=s.st;exact⟨ns,z,by rw[ae hne];exact h1,aj,hn,h3⟩
def DM.Ji{z:Int}(s:DM H a b)(h0:0<=z)(h1:z<2305843009213693951):DM (upd H a (.lst [.ref b,.int z])) a b:=by
 have hne:=s.ne;obtain⟨ns,_,_,h2,h3,_⟩:=s.st;exact⟨ns,z,aj,by rw[ae hne.symm];exact h2,h3,h0,h1⟩
def stK(b:Addr)(left seed many:Int):List (Key×V):=[(.inr (aaG "cells"),.ref b),(.inr (aaG "left"),.int left),(.inr (aaG "seed"),.int seed),(.inr (aaG "many"),.int many)]
structure Ut(H:Hp)(a b:Addr)(f:Nat):Prop where
 st:∃(ns:List Int) (left seed many:Int),H a=some (.dK (stK b left seed many))/\H b=some (.lst (ns.map V.int))/\0<=left/\0<=seed/\seed<2305843009213693951/\0<=many/\many+f<=1152921504606846976
def iC(K:aaf):Sp:=λvs H Q _=>∃(s:Addr) (ns:List Int),vs=[.ref s]/\Ar K H s (ns.map V.int)/\ns.length<=63/\∀(a b:Addr) (H':Hp),H a=none->H b=none->DM H' a b->eQ H H'->Q (.ref a) H'
def Gj:Sp:=λvs H Q _=>∃(a b:Addr) (m:Int),vs=[.ref a,.int m]/\DM H a b/\0<m/\m<1073741824/\∀(r:Int) (H':Hp),0<=r->r<m->DM H' a b->Eo a b H H'->Q (.int r) H'
end Pre
namespace Q
open PySem L2 PyProof.Rows
def IT(K:aaf)(F H:Hp)(a:Addr)(l:List Addr)(x:PV):Prop:=∃ks:List (Key×Addr×List PV),x=.zh (ks.map λt=>(t.1,.lst t.2.2))/\l=a::ks.map (·.2.1)/\H a=some (.dK (ks.map λt=>(t.1,.ref t.2.1))) /\
 (ks.map (·.2.1)).Nodup/\∀t∈ks,∃vs,H t.2.1=some (.lst vs)/\yA K F vs t.2.2
def zm(lq:Str)(ln co:Nat)(P:Addr):PV:=.tup [.str lq,.int ln,.int co,.int (P:Nat)]
def TabAt(H:Hp)(a:Addr)(l:List Addr)(x:PV):Prop:=∃(lq:Str) (ln co:Nat) (ps:Array Value),x=zm lq ln co a/\H a=some (Ai a ps)/\PySem.TriplesOk ps.toList /\
 ((l=[a]/\ace ⟨ln,co,0,0⟩ ps.toList=none)\/∃c',c'≠a/\l=[a,c']/\ace ⟨ln,co,0,0⟩ ps.toList=some (.ref c')/\H c'=some (zZ c' lq))
variable{H H':Hp}{a:Addr}{l:List Addr}{x:PV}
def TabAt.mono(h:TabAt H a l x)(e:∀b∈l,H' b=H b):TabAt H' a l x:=by
 obtain⟨lq,ln,co,ps,rfl,h1,h2,h3⟩:=h;refine⟨lq,ln,co,ps,rfl,?_,h2,?_⟩
 .rcases h3 with ⟨rfl,_⟩|⟨c',_,rfl,_⟩
  .exact(e a (by simp)).trans h1
  .exact(e a (by simp)).trans h1
 .rcases h3 with ⟨rfl,h4⟩|⟨c',h4,rfl,h5,h6⟩
  .exact .inl ⟨rfl,h4⟩
  .exact .inr ⟨c',h4,rfl,h5,(e c' (by simp)).trans h6⟩
inductive TabsAt (H:Hp):Addr->List Addr->PV->Prop
 |one {a:Addr} {l:List Addr} {x:PV} (h:TabAt H a l x):TabsAt H a l x
 |two {a T:Addr} {l1 l2:List Addr} {x1 x2:PV} (h1:TabAt H a l1 x1) (h2:TabAt H T l2 x2) (h3:∀b∈l1,b∉l2):TabsAt H a (l1++l2) (.tup [x1,x2])
def TabsAt.mono(h:TabsAt H a l x)(e:∀b∈l,H' b=H b):TabsAt H' a l x:=by
 cases h with
 |one h=>exact .one (h.mono e)
 |two h1 h2 h3=>exact .two (h1.mono λb hb=>e b (aaD _ hb)) (h2.mono λb hb=>e b (aao _ hb)) h3
def Ki(H:Hp)(a:Addr)(l:List Addr)(x:PV):Prop:=∃(x1 x2:PV) (T2:Addr) (l1 l2:List Addr),x=.tup [x1,x2]/\l=l1++l2/\TabAt H a l1 x1/\TabsAt H T2 l2 x2/\∀b∈l1,b∉l2
def MZ(H:Hp)(a:Addr)(l:List Addr)(x:PV):Prop:=(x=.yB/\∃b,l=[a,b]/\Pre.DM H a b)\/∃(f:Nat) (b:Addr),x=.int f/\l=[a,b]/\Pre.Ut H a b f
def zT(K:aaf):zP where
 P:=λF H a l x=>MZ H a l x\/IT K F H a l x\/TabAt H a l x\/Ki H a l x
 mono:=λF F' H H' a l x h s e=>by
  rcases h with (⟨h0,b,rfl,ns,z,h1,h2,h3⟩|⟨f,b,h0,rfl,ns,q1,q2,q3,h1,h2,h3⟩)|⟨ks,rfl,rfl,h1,h2,h3⟩|ht|⟨x1,x2,T2,l1,l2,rfl,rfl,h1,h2,h3⟩
  .exact .inl (.inl ⟨h0,b,rfl,ns,z,(e a (by simp)).trans h1,(e b (by simp)).trans h2,h3⟩)
  .exact .inl (.inr ⟨f,b,h0,rfl,ns,q1,q2,q3,(e a (by simp)).trans h1,(e b (by simp)).trans h2,h3⟩)
  .refine .inr (.inl ⟨ks,rfl,rfl,(e a (by simp)).trans h1,h2,λt ht=>?_⟩);obtain⟨vs,q1,q2⟩:=h3 t ht;exact⟨vs,(e _ (aaj _ (aaO (f:=λt=>t.2.1) ht))).trans q1,q2.mono s⟩
  .exact .inr (.inr (.inl (ht.mono e)))
  .exact .inr (.inr (.inr ⟨x1,x2,T2,l1,l2,rfl,rfl,h1.mono λb hb=>e b (aaD _ hb),h2.mono λb hb=>e b (aao _ hb),h3⟩))
def aE:BL:=λc xs P=>c=.yB/\∃m:Int,xs=[.int m]/\0<m/\m<1073741824/\∀r:Int,0<=r->r<m->P (.int r) .yB
def pk{b:Addr}(s:Pre.DM H a b):H a≠none/\H b≠none:=by
 obtain⟨ns,z,h1,h2,_⟩:=s.st;exact⟨by rw[h1];simp,by rw[h2];simp⟩
variable{P:aaA}{w:World}{K:aaf}{mg:Str->Option Value}{base:Heap}{k:Nat}{Bg:Addr}{fd:abl}{ps:List Str}
def tR(F:yG P w K mg base zB k Bg fd ps Pre.Gj):yG P w K mg base zB k Bg fd ps (G5 ⟨P,w,K,zT K⟩ 2 aE):=by
 refine F.imp λvs H Q E h=>?_;obtain⟨F,a,l,c,ws,xs,P',rfl,sF,r,hl,ho,hb,⟨rfl,m,rfl,m0,m1,hP⟩,kk⟩:=h;obtain⟨b,rfl,S⟩:∃b,l=[a,b]/\Pre.DM H a b:=by
  rcases ho with (⟨_,h⟩|⟨_,_,h,_⟩)|⟨ks,h,_⟩|⟨_,_,_,_,h,_⟩|⟨_,_,_,_,_,h,_⟩
  .exact h
  .cases h
  .cases h
  .cases h
  .cases h
 cases r with
 |cons r1 r2=>
  cases r2;cases r1;refine⟨a,b,m,rfl,S,m0,m1,λr H' r0 r1 S' hB=>?_⟩;have two:=pk S';have keep:∀c o,H c=some o->c∉[a,b]->H' c=some o:=λc o h hn=>by
   simp at hn;exact hB c o h hn.1 hn.2
  refine kk (.int r) .yB (.int r) F H' [a,b] (hP r r0 r1) keep (λc h=>?_) ak (λc o h=>?_) (λc h=>.inl h) (.inl (.inl ⟨rfl,b,rfl,S'⟩)) (λc hc=>?_) (λc hc=>.inl hc) (.int r)
  .by_cases q:c∈[a,b]
   .simp at q;rcases q with rfl|rfl
    .exact two.1
    .exact two.2
   .obtain⟨o,ho⟩:=cg h;rw[keep c o ho q];simp
  .refine keep c o (sF c o h) λq=>?_;have:=(hb c q).2;rw[h]at this;cases this
  .refine⟨?_,(hb c hc).2⟩;simp at hc;rcases hc with rfl|rfl
   .exact two.1
   .exact two.2
def AA(i j:Nat):WS:=λP env=>match env[j]? with
 |some (some ⟨0,x⟩)=>(∃ns:List Int,(x=.Ba ns\/x=.lst (ns.map .int))/\ns.length<=63)/\P.nx (env.set i (some ⟨4,.yB⟩))
 |_=>False
variable{F:Hp}{ns:List Int}{vs:List V}
def nj(h:yA K F vs (ns.map PV.int)):vs=ns.map V.int:=by
 induction ns generalizing vs with
 |nil=>cases h;rfl
 |cons n ns ih=>cases h with
  |cons a r=>cases a;exact congrArg (List.cons _) (ih r)
variable{X:Cx}{x y:Str}{p p1 pos pos':Pos}
theorem ua(i j:Nat)(hN:X.N.Nodup)(hi:X.N[i]?=some y)(hx:Loc X.env.scope y)(F:yG X.prog X.w X.K X.mg X.base zB k Bg fd ps (Pre.iC X.K))(hr:y9 k X.A)(hm:X.mg "_law_begin" = some (.ref Bg))(hk:abx X.K (.ref Bg)=true)(hb:Binds X.K fd ps [])(ho:PE X (.Name x p1) (zt j))
  (hg:Gl X "_law_begin" :=by rfl) (he:aag [.Name x p1] X.env=(false,eval (.Name x p1) X.env)::aag [] X.env:=by rfl) (AQ:(backTo pos (aag [] X.env)).any (·.1)=false:=by rfl)
  {zK:Pos} (hs:abK (.Call (.Name "_law_begin" p) [.Name x p1] [] pos) (some (.Name y pos')) zK.line X.env=pure false:=by rfl) (hf:X.fn y=true\/X.env.scope.names.lookup y=some .local:=by first|exact .inl rfl|exact .inr rfl|assumption) :
  C1 (zT X.K) X (.Assign [.Name y pos'] (.Call (.Name "_law_begin" p) [.Name x p1] [] pos) zK) (AA i j):=by
 refine⟨_,d0 hN hi hx (iG (E:=E0) F hr hg hm hk hb .nil D3 (aY ho be he) (by decide) he AQ) hs hf,λZ F σ H env P D K hf L=>?_⟩;unfold AA at hf;split at hf
 .rename_i v ej;obtain⟨⟨ns,hv,hn⟩,hp⟩:=hf;obtain⟨w,hw,r⟩:=K.val ej;obtain⟨s,rfl,hs⟩:∃s,w=.ref s/\Ar X.K H s (ns.map V.int):=by
   rcases hv with rfl|rfl
   .cases r with
    |Ba h=>exact⟨_,rfl,dN K.sF h.sq⟩
   .cases r with
    |lst h1 h2=>
     have:=nj h2;subst this;exact⟨_,rfl,.inl (.inl (K.sF _ _ h1))⟩
  refine⟨_,hw,s,ns,rfl,hs,hn,λa b H' ha hb S sH=>?_⟩;have To:F a=none:=eQ.none_of K.sF ha;have Tn:F b=none:=eQ.none_of K.sF hb;have K1:yx (md (zT X.K) X) Z F σ H' env:=K.move ak (ah K.sF sH) sH λ_ h=>.inl h;obtain⟨fp,L0⟩:=K.sl;have L1:Slots (md (zT X.K) X) Z F σ H' env fp:=L0.move ak (λ_ c o _ e=>sH c o e) λ_ h=>.inl h;have two:=pk S;refine L.nx _ _ F H' hp ak ?_;rcases aaX i env.length with zR|HQ;case inr=>
   rw[aa8 HQ,aa8 (by have:=K.len;omega)];exact K1
  refine K1.slots (by simp[K.len]) (L1.put (l:=[a,b]) (by simp) (by have:=K.len;omega) (.inr (.inr (.inl ⟨.inr rfl,a,rfl,λc hc=>.inr ?_,   .inl (.inl ⟨rfl,b,rfl,S⟩)⟩))) (λc hc=>?_) λj c _ hc hj=>?_)
  .simp at hc;rcases hc with rfl|rfl
   .exact K.h0 ha
   .exact K.h0 hb
  .simp at hc;rcases hc with rfl|rfl
   .exact⟨two.1,To⟩
   .exact⟨two.2,Tn⟩
  .have:=(L0.al j c hj).1;simp at hc;rcases hc with rfl|rfl
   .exact this ha
   .exact this hb
 .exact hf.elim
variable{M:Md}{Z:Zn}{σ:L2.St}{env:En}{p:Addr}{o:HO}
def wC:∀b∈Z.S,upd Z.H₀ p o b≠none:=λb hb=>by
 by_cases e:b=p
 .subst e;rw[aj];simp
 .rw[ae e];exact Z.sS b hb
def Zn.add(Z:Zn)(p:Addr)(o:HO):Zn:={Z with H₀:=upd Z.H₀ p o,sS:=wC}
def yx.guard(K:yx M Z F σ H env)(hp:H p=none):yx M (Z.add p o) F σ (upd H p o) env:=by
 have hF  := eQ.none_of K.sF hp;have h0  := K.h0 hp;obtain⟨fp,L⟩:=K.sl;have hn  := λi h=>(L.al i p h).1 hp;obtain⟨K1,L1⟩:=K.Bs L hF h0 hn;have ne  := λ{c} h q=>by show upd Z.H₀ p o c=none;rw[ae q];exact h
 refine⟨K1.sF,λb u h1 h2=>?_,λb h=>?_,K1.gr,λa h=>?_,K1.len,fp,λi s e=>?_,L1.al,L1.dj,L1.oa⟩
 .by_cases q:b=p
  .subst q;have h1:upd Z.H₀ b o b=some u:=h1;rw[aj]at h1 ⊢;exact h1
  .have h1:upd Z.H₀ p o b=some u:=h1;rw[ae q]at h1;exact K1.sG b u h1 h2
 .by_cases q:b=p
  .subst q;rw[aj];simp
  .have h:upd Z.H₀ p o b≠none:=h;rw[ae q]at h;exact K1.pr b h
 .rcases K1.nw a h with q|q
  .exact .inl q
  .refine .inr (ne q λz=>?_);subst z;exact h hF
 .obtain⟨v,hv,ok⟩:=L1.at' i s e;refine⟨v,hv,?_⟩;rcases ok with k|⟨k,a,e1,e2,h1,h2⟩|⟨k,a,e1,h1,h2⟩|k
  .exact .inl k
  .exact .inr (.inl ⟨k,a,e1,e2,ne h1 λz=>hn i (by simp_all),h2⟩)
  .exact .inr (.inr (.inl ⟨k,a,e1,λc hc=>(h1 c hc).elim .inl λq=>.inr (ne q λz=>hn i (by simp_all)),h2⟩))
  .exact .inr (.inr (.inr k))
def yx.E6(K:yx M (Z.add p o) F σ H env)(h0:Z.H₀ p=none)(KI:Z.F₀ p=none):yx M Z F σ H env/\H p=some o/\F p=none/\∃fp,Slots M Z F σ H env fp/\∀i s,env[i]?=some (some s)->p∉fp i:=by
 have hS  := λh=>Z.sS p h h0;have SG:(Z.add p o).H₀ p=some o:=aj;have back:∀{c:Addr},(Z.add p o).H₀ c=none->Z.H₀ c=none/\c≠p:=λ{c} h=>by
  have h:upd Z.H₀ p o c=none:=h;by_cases q:c=p
  .subst q;rw[aj]at h;cases h
  .rw[ae q]at h;exact⟨h,q⟩
 have hF:F p=none:=by
  cases e:F p with
  |none=>rfl
  |some u=>
   rcases K.nw p (by simp_all)with q|q
   .exact absurd KI q
   .exact absurd rfl (back q).2
 obtain⟨fp,L⟩:=K.sl;have S:Slots M Z F σ H env fp:=by
  refine⟨λi s e=>?_,L.al,L.dj,L.oa⟩;obtain⟨v,hv,ok⟩:=L.at' i s e;refine⟨v,hv,?_⟩;rcases ok with k|⟨k,a,e1,e2,h1,h2⟩|⟨k,a,e1,h1,h2⟩|k
  .exact .inl k
  .exact .inr (.inl ⟨k,a,e1,e2,(back h1).1,h2⟩)
  .exact .inr (.inr (.inl ⟨k,a,e1,λc hc=>(h1 c hc).elim .inl λq=>.inr (back q).1,h2⟩))
  .exact .inr (.inr (.inr k))
 have up:∀{b:Addr} {u:HO},Z.H₀ b=some u->(Z.add p o).H₀ b=some u:=λ{b u} h=>by
  show upd Z.H₀ p o b=some u;rw[ae (au h h0)];exact h
 refine⟨⟨K.sF,λb u h1 h2=>K.sG b u (up h1) h2,λb h=>?_,K.gr,λa h=>?_,K.len,fp,S⟩,K.sG p o SG hS,hF,fp,S,λi s e hi=>?_⟩
 .obtain⟨u,hu⟩:=cg h;exact K.pr b (by simp_all)
 .rcases K.nw a h with q|q
  .exact .inl q
  .exact .inr (back q).1
 .obtain⟨v,hv,ok⟩:=L.at' i s e;rcases ok.wr p hi with q|q
  .exact hS q
  .exact(back q).2 rfl
def tidy(env:En)(fp:Nat->List Addr)(i:Nat):List Addr:=match env[i]? with
 |some (some _)=>fp i
 |_=>[]
variable{fp:Nat->List Addr}
theorem Slots.tidy(L:Slots M Z F σ H env fp):Slots M Z F σ H env (Q.tidy env fp):=by
 have sub:∀i a,a∈Q.tidy env fp i->a∈fp i:=λi a h=>by
  unfold Q.tidy at h;split at h
  .exact h
  .simp at h
 refine⟨λi s e=>?_,λi a h=>L.al i a (sub i a h),λi j a Cc h z=>L.dj i j a Cc (sub i a h) (sub j a z),L.oa⟩;obtain⟨v,hv,ok⟩:=L.at' i s e;exact⟨v,hv,by unfold Q.tidy;rw[e];exact ok⟩
theorem yx.Ge{o':HO}{x:PV}(K:yx M (Z.add p o) F σ H env)(h0:Z.H₀ p=none)(KI:Z.F₀ p=none)(hx:AV M F (upd H p o') p x):yx M Z F (σ++[some (.ref p)]) (upd H p o') (env++[some ⟨1,x⟩]):=by
 obtain⟨K1,hp,hF,fp,L,hn⟩:=K.E6 h0 KI;have L1:=L.tidy;have Q7:∀i,p∉Q.tidy env fp i:=λi h=>by
  unfold Q.tidy at h;split at h
  .rename_i s e;exact hn i s e h
  .simp at h
 obtain⟨K2,L2⟩:=K1.Bs L1 hF h0 Q7;refine K2.slots (by simp[K2.len]) (L2.push (by simp) K2.len (.inr (.inl ⟨rfl,p,rfl,rfl,h0,hx⟩)) (λa ha=>?_) λj a ha=>?_)
 .simp at ha;subst ha;exact⟨by rw[aj];simp,hF⟩
 .simp at ha;subst ha;exact Q7 j
def II:List (Key×PV)->List (Key×PV):=λgE=>gE.foldl (λacc kv=>C5 acc kv.1 kv.2) []
def Qi:List (WE×WE)->List (Key×PV)->WE
 |[],acc=>λenv P=>P (.zh (II acc)) env
 |(fk,fv)::r,acc=>λenv P=>fk env λy e1=>fv e1 λv e2=>opt (BV y) λk=>Qi r (acc++[(k,v)]) e2 P
def IH(l:List (WE×WE)):WE:=Qi l []
inductive De (ob:zP) (X:Cx):List (Option Expr)->List Expr->List (WE×WE)->Prop where
 |nil:De ob X [] [] []
 |cons {k v:Expr} {ks:List (Option Expr)} {vs:List Expr} {fk fv:WE} {l:List (WE×WE)}:yW ob X k fk->yW ob X v fv->De ob X ks vs l->De ob X (some k::ks) (v::vs) ((fk,fv)::l)
def rN{more:List (Key×V)}{mx:List (Key×PV)}{acc:List (Key×V)}{ax:List (Key×PV)}(h:yC K F more mx)(h2:yC K F acc ax):yC K F (BU acc more) (mx.foldl (λacc kv=>C5 acc kv.1 kv.2) ax):=by
 induction h using yC.ind generalizing acc ax with
 |nil=>exact h2
 |cons a _ ih=>exact ih (h2.put a)
variable{ob:zP}
variable{values:List Expr}
def De.facts{keys:List (Option Expr)}{l:List (WE×WE)}(h:De ob X keys values l):keys.all (·.isSome)=true/\keys.length=values.length:=by
 induction h with
 |nil=>exact⟨rfl,rfl⟩
 |cons _ _ _ ih=>exact⟨by simp_all,by simp_all⟩
def De.run{keys:List (Option Expr)}{l:List (WE×WE)}(h:De ob X keys values l):∃E8,M4 X pos keys values E8/\∀(Z:Zn) (F:Hp) (σ:L2.St) (H:Hp) (env:En) (P:PV->En->Prop) (acc:List (Key×PV)) (va:List (Key×V)) (Q:List (V×V)->Hp->Prop),yx (md ob X) Z F σ H env->yC X.K F va acc->Qi l acc env P ->
  (∀gE vs dO F' H',P (.zh (II gE)) dO->eQ F F'->yx (md ob X) Z F' σ H' dO->yC X.K F' (va++vs) gE->vs.length=keys.length->Q (vs.map λkv=>(kV kv.1,kv.2)) H')->Ds E8 σ H Q:=by
 induction h with
 |nil=>exact⟨[],uW,λZ F σ H env P acc va Q K ra hf kk=>kk acc [] env F H hf ak K (by simp_all) rfl⟩
 |cons hk hv _ ih=>
  obtain⟨tk,Kx,kk⟩:=hk.ex;obtain⟨tv,Pj,kv⟩:=hv.ex;obtain⟨E8,Pk,kr⟩:=ih;refine⟨_,tj Kx Pj Pk,λZ F σ H env P acc va Q K ra hf fin=>?_⟩;refine kk Z F σ H env _ _ K hf λy e1 y' F1 H1 p1 s1 K1 r1=>kv Z F1 σ H1 e1 _ _ K1 p1 λv e2 v' F2 H2 p2 s2 K2 r2=>?_;obtain⟨k,hk,p2⟩:=p2;have hy:=fN hk (r1.mono s2);subst hy;refine kr Z F2 σ H2 e2 P _ _ _ K2 ((ra.mono (ah s1 s2)).app (.cons r2 .nil)) p2 λgE vs e3 F3 H3 p3 s3 K3 r3 hl=>?_;exact fin gE _ e3 F3 H3 p3 (ah s1 (ah s2 s3)) K3 (by simpa using r3) (by simp_all)
def wb{keys:List (Option Expr)}{l:List (WE×WE)}(h:De ob X keys values l)(h0:keys≠[]:=by simp)(P8:keys.length<=15:=by decide):Ie ob X (.Dict keys values pos) (IH l):=by
 obtain⟨E8,Pk,kr⟩:=h.run;obtain⟨ha,hl⟩:=h.facts;refine⟨_,u4 Pk ha hl h0 P8,λZ F σ H env P Q K hf kk p hp=>?_⟩;refine kr _ F σ _ env P [] [] _ (K.guard hp) .nil hf λgE vs e1 F1 H1 p1 s1 K1 r1 UJ=>?_;have h0  := K.h0 hp;have KI  := eQ.none_of K.gr (eQ.none_of K.sF hp);have hS:=(K1.E6 h0 KI).2.1;refine⟨hS,vs,rfl,by omega,kk _ e1 _ F1 _ p1 s1 (λ_=>by simp) (K1.Ge h0 KI ⟨_,aj,rN (by simp_all) .nil⟩)⟩
variable{e:Expr}{f:WE}{p apos zE zK:Pos}
def CG(env:En):En:=env.map λo=>match o with
 |some ⟨0,x⟩=>some ⟨0,x⟩
 |_=>none
def DT(F H:Hp):Zn:=⟨H,F,[],λ_=>none,λ_ h=>by simp at h⟩
variable{F':Hp}{dO:En}
theorem yx.pure(K:yx M Z F σ H env):yx M (DT F H) F σ H (CG env):=by
 refine⟨K.sF,λb o h _=>h,λb h=>h,ak,λa h=>.inl h,by simp[CG,K.len],λ_=>[],λi s e=>?_,λi a h=>by simp at h,λi j a _ h=>by simp at h,λi a s h=>by cases h⟩;unfold CG at e;rw[aah]at e;cases ei:env[i]? with
 |none=>rw[ei]at e;cases e
 |some o=>
  rw[ei]at e;have e:=aaq e;dsimp only at e;split at e
  .cases e;obtain⟨v,hv,r⟩:=K.val ei;exact⟨v,hv,.inl ⟨rfl,rfl,r⟩⟩
  .cases e
def yx.Gd(K:yx M Z F σ H env)(K':yx M (DT F H) F' σ H' dO):yx M Z F' σ H' env/\eQ H H'/\∀fp,Slots M Z F σ H env fp->Slots M Z F' σ H' env fp:=by
 have sH  := λb o h=>K'.sG b o h (by simp[DT]);have nw  := K'.nw;exact⟨K.move K'.gr K'.sF sH nw,sH,λfp L=>L.move K'.gr (λ_ c o _ e=>sH c o e) nw⟩
def lh(i:Nat)(it:WA):WS:=λP env=>it env λxs e=>∃ks,xs.mapM BV=some ks/\ks.Nodup/\ks.length<=1000/\P.nx (e.set i (some ⟨4,.zh (ks.map λk=>(k,.lst []))⟩))
def Fi(gE:List (Key×PV))(k:Key):Option (List PV):=match Ah gE k with
 |some (.lst xs)=>some xs
 |_=>none
def Dl(gE:List (Key×PV))(k:Key)(xs:List PV):List (Key×PV):=gE.map λkv=>if kv.1=k then (k,.lst xs)else kv
def fD(i:Nat)(fk fv:WE):WS:=λP env=>match env[i]? with
 |some (some ⟨4,.zh gE⟩)=>(gE.map (·.1)).Nodup/\fk (CG env) λy _=>opt (BV y) λk=>opt (Fi gE k) λxs=>fv (CG env) λv _=>xs.length<=100000/\P.nx (env.set i (some ⟨4,.zh (Dl gE k (xs++[v]))⟩))
 |_=>False
def lg(i:Nat):WS:=λP env=>match env[i]? with
 |some (some ⟨4,x⟩)=>P.ro x i env
 |_=>False
variable{α β:Type}
def nU{f:α->Option β}{l:List α}{m:List β}(h:l.mapM f=some m)(i:Nat)(b:β)(hb:m[i]?=some b):∃a,l[i]?=some a/\f a=some b:=by
 obtain⟨hl,h2⟩:=bu h;have hi:i<l.length:=by
  rw[<- hl];rcases aaX i m.length with q|q
  .exact q
  .rw[aap q]at hb;cases hb
 obtain⟨b',e1,e2⟩:=h2 i l[i] (by simp);rw[hb]at e1;cases e1;exact⟨l[i],by simp,e2⟩
variable{v:V}
def sZ{gE:List (Key×V)}{k:Key}(h:k∉gE.map (·.1)):putK gE k v=gE++[(k,v)]:=by
 unfold putK;rw[if_neg];intro z;obtain⟨p,hp,e⟩:=List.any_eq_true.mp z;exact h (List.mem_map.mpr ⟨p,hp,of_decide_eq_true e⟩)
variable{iter:Expr}{scope:Scope}{p2 p3:Pos}{fi:WA}{t:Str}
variable{py:Pos}
theorem so(i:Nat)(hN:X.N.Nodup)(hy:X.N[i]?=some y)(hl:X.env.scope.names.lookup y=some .local)(hi:G3 (zT X.K) X (.Name t p1) iter fi)(hg:∀C s₀ H₀ ex pn,PG (yw X scope [t] C s₀ H₀ ex pn) (.Name t p1) (Ax 0))(hk:∀C s₀ H₀ ex pn,PE (yw X scope [t] C s₀ H₀ ex pn) (.Name t p2) (zt 0))
  (GG:abK (.DictComp (.Name t p2) (.List [] p3) [⟨.Name t p1,iter,[],0⟩] scope pos) (some (.Name y py)) zK.line X.env=pure true:=by rfl)
  (hc:X.calm=true:=by rfl) (hx:X.xe=(λ_ _=>False):=by rfl) (BI:BQ X.env scope=true:=by rfl) (zD:Ay X.N scope [t] [none]=true:=by rfl) (yY:scope.kind=.function:=by rfl) (hs:∀x,aaT iter X.env x=pure x:=by intro _;rfl) :
  C1 (zT X.K) X (.Assign [.Name y py] (.DictComp (.Name t p2) (.List [] p3) [⟨.Name t p1,iter,[],0⟩] scope pos) zK) (lh i fi):=by
 obtain⟨wi,GF,k⟩:=hi.ex;refine⟨_,uA (i:=i) (wi:=wi) (g:=Ax 0) (tc:=IY) (tk:=zt 0) (te:=Jb Ht) (N:=[t]) (js:=[none]) hN hy hl GF hg (λC s₀ H₀ ex pn=>rq) hk (λC s₀ H₀ ex pn=>hU be) iM GG hc hx BI zD yY hs,λZ F σ H env P D K hf L=>?_⟩;refine k Z F σ H env _ _ K hf λxs e1 J F1 H1 pp s1 K1 I1 l hl=>?_;obtain⟨ks,NH,NG,hlen,pp⟩:=pp;obtain⟨UL,_⟩:=bu NH;obtain⟨fp,L1⟩:=K1.sl;have My:Z.H₀ l=none:=K1.h0 hl;refine⟨λj m ys H'=>m=xs.length - j/\j<=xs.length/\∃(as:List Addr) (F':Hp),eQ F1 F'/\as.length=j/\ys=((ks.take j).zip as).map (λt=>(t.1,V.ref t.2))/\H' l=some (.dK ys)/\as.Nodup/\(∀a∈as,H' a=some (.lst [])/\(Z.H₀ a=none/\∀i,a∉fp i)/\F' a=none/\a≠l) /\
   yx (md (zT X.K) X) Z F' σ H' e1/\Slots (md (zT X.K) X) Z F' σ H' e1 fp/\F' l=none,?_,?_⟩
 .have hF:F1 l=none:=eQ.none_of K1.sF hl;have hn:∀i,l∉fp i:=λi h=>(L1.al i l h).1 hl;obtain⟨K2,L2⟩:=K1.Bs (o:=.dK []) L1 hF My hn;exact⟨_,rfl,aaS _,[],F1,ak,rfl,by simp,aj,by simp,λa h=>by simp at h,K2,L2,hF⟩
 rintro j m ys H' ⟨rfl,hj,as,F',sF,MC,rfl,KC,hand,has,K',L',Rn⟩;by_cases zR:j<xs.length
 .have Ra:j<ks.length:=by omega
  obtain⟨h1,h2⟩:=I1.go Z j σ e1 F' H' xs[j] sF K' (by simp[zR]);refine .inr ⟨h1,λv H3 yv=>?_⟩;obtain⟨F3,s3,K3,r3,sH,nw⟩:=h2 v H3 yv;obtain⟨a0,ea,ek⟩:=nU NH j ks[j] (by simp[Ra]);rw[aaa zR]at ea;cases ea;have hv:=fN ek r3;subst hv;have L3:Slots (md (zT X.K) X) Z F3 σ H3 e1 fp:=L'.move s3 (λ_ c o _ e=>sH c o e) nw;unfold Ax IY;dsimp only;rw[if_pos rfl];refine⟨_,rfl,aaS _,λq hq=>⟨ks[j],rfl,?_⟩⟩;have Mw:l≠q:=au (sH _ _ KC) hq;have HN:(upd H3 q (.lst [])) l=some (.dK (((ks.take j).zip as).map λt=>(t.1,V.ref t.2))):=by rw[ae Mw];exact sH _ _ KC
  have Pc:(((ks.take j).zip as).map λt=>((t.1:Key),V.ref t.2)).length=j:=by simp[MC];omega
  have nF:∀{b:Addr},F' b=none->H' b≠none->F3 b=none:=λ{b} q1 q2=>by
   cases e:F3 b with
   |none=>rfl
   |some o=>
    rcases nw b (by rw[e];simp)with z|z
    .exact absurd q1 z
    .exact absurd z q2
  have MG:F3 l=none:=nF Rn (by rw[KC];simp);have MF:F3 q=none:=eQ.none_of K3.sF hq;have Q6:∀i,q∉fp i:=λi h=>(L3.al i q h).1 hq;obtain⟨K4,L4⟩:=K3.Bs (o:=.lst []) L3 MF (K3.h0 hq) Q6;have Px:∀i,l∉fp i:=λi h=>(L1.al i l h).1 hl;have Qf:putK (((ks.take j).zip as).map λt=>((t.1:Key),V.ref t.2)) ks[j] (.ref q)=((ks.take (j+1)).zip (as++[q])).map λt=>(t.1,V.ref t.2):=by
   rw[sZ,acB,aaa Ra]
   .rw[List.zip_append (by simp[MC];omega)];simp
   .intro z;rw[aaH]at z;obtain⟨⟨kk,aa⟩,hm,e⟩:=List.mem_map.mp z;have Py:=(acL hm).1;have e:kk=ks[j]:=e;subst e;obtain⟨n,hn,en⟩:=List.mem_take_iff_getElem.mp Py;have:=(abu NG).mp en;omega
  obtain⟨K5,L5⟩:=K4.Bs L4 MG My Px;refine⟨HN,by rw[Pc,aaB];omega,xs.length - (j+1),by omega,rfl,zR,as++[q],F3,ah sF s3,by simp[MC],Qf,aj,?_,λa ha=>?_,K5,L5,MG⟩
  .rw[ab9];refine⟨hand,by simp,λa ha b hb z=>?_⟩;simp at hb;subst hb;subst z;have:=sH _ _ (has a ha).1;rw[hq]at this;cases this
  .rcases List.mem_append.mp ha with ha|ha
   .obtain⟨q1,q2,q3,q4⟩:=has a ha;have:a≠q:=au (sH _ _ q1) hq;exact⟨by rw[ae q4,ae this];exact sH _ _ q1,q2,nF q3 (by rw[q1];simp),q4⟩
   .simp at ha;subst ha;exact⟨by rw[ae Mw.symm];exact aj,⟨K3.h0 hq,Q6⟩,MF,Mw.symm⟩
 .have e:j=xs.length:=by omega
  subst e;refine .inl ⟨I1.stop Z _ σ e1 F' H' sF K' (aak _),L.nx _ _ F' H' pp (ah s1 sF) ?_⟩;have Px:∀i,l∉fp i:=λi h=>(L1.al i l h).1 hl;rcases aaX i e1.length with SN|HQ;case inr=>
   rw[aa8 HQ,aa8 (by have:=K'.len;omega)];exact K'
  have ht:ks.take xs.length=ks:=acw (by omega);rw[ht]at KC;refine K'.slots (by simp[K'.len]) (L'.put (l:=l::as) (by simp) (by have:=K'.len;omega) (.inr (.inr (.inl ⟨.inr rfl,l,rfl,λc hc=>.inr ?_,.inr (.inl ⟨(ks.zip as).map λt=>(t.1,t.2,[]),?_,?_,?_,?_,?_⟩)⟩))) (λc hc=>?_) λj c _ hc=>?_)
  .rcases List.mem_cons.mp hc with rfl|hc
   .exact My
   .exact(has c hc).2.1.1
  .rw[aaH];have:(ks.map λk=>((k:Key),PV.lst []))=(ks.zip as).map ((λt:Key×Addr×List PV=>(t.1,PV.lst t.2.2)) ∘ λt=>(t.1,t.2,[])):=by
    have e1:(λt:Key×Addr×List PV=>(t.1,PV.lst t.2.2)) ∘ (λt:Key×Addr=>(t.1,t.2,[]))=(λk=>((k:Key),PV.lst [])) ∘ Prod.fst:=rfl;rw[e1,<- aaH,List.map_fst_zip (by omega)]
   rw[this]
  .rw[aaH];have e1:(λt:Key×Addr×List PV=>t.2.1) ∘ (λt:Key×Addr=>(t.1,t.2,[]))=Prod.snd:=rfl;rw[e1,aed (by omega)]
  .rw[aaH];exact KC
  .rw[aaH];have e1:(λt:Key×Addr×List PV=>t.2.1) ∘ (λt:Key×Addr=>(t.1,t.2,[]))=Prod.snd:=rfl;rw[e1,aed (by omega)];exact hand
  .intro t ht;obtain⟨⟨kk,aa⟩,hm,rfl⟩:=List.mem_map.mp ht;exact⟨[],(has aa (acL hm).2).1,.nil⟩
  .rcases List.mem_cons.mp hc with rfl|hc
   .exact⟨by rw[KC];simp,Rn⟩
   .exact⟨by rw[(has c hc).1];simp,(has c hc).2.2.1⟩
  .rcases List.mem_cons.mp hc with rfl|hc
   .exact Px j
   .exact(has c hc).2.1.2 j
variable{px:Pos}
def sr(i:Nat){ke:Expr}{fk fv:WE}{ps:Pos}(hu:X.A.units+1<cLine)(ho:PE X (.Name x px) (zt i))(hk:yW (zT X.K) X ke fk)(hv:yW (zT X.K) X e fv)(FV:FN ke:=by exact λ_ _=>rfl)
  (Ao:ab8 (.Subscript (.Name x px) ke ps) "append" X.env (eval (.Subscript (.Name x px) ke ps) X.env)=eval (.Subscript (.Name x px) ke ps) X.env:=by rfl)
  (ES:((backTo zE (aag [e] X.env)).all (λx=>!x.1) && (backToKw zE (adA [] X.env)).all (λx=>x.1.isSome)
   && decide ([e].length+([]:List adr).length+(if ([]:List adr).isEmpty then 0 else 1)<30))=true:=by rfl)
  (Am:(apos.endLine==zE.line)=true:=by rfl) (FD:aag [e] X.env=(false,eval e X.env)::aag [] X.env:=by rfl) (BX:(backTo zE (aag [] X.env)).any (·.1)=false:=by rfl)
  (hs:abK (.Call (.Attribute (.Subscript (.Name x px) ke ps) "append" apos) [e] [] zE) none zK.line X.env=pure false:=by rfl) :
  C1 (zT X.K) X (.Expr (.Call (.Attribute (.Subscript (.Name x px) ke ps) "append" apos) [e] [] zE) zK) (fD i fk fv):=by
 obtain⟨tk,Kx,kk⟩:=hk.ex;obtain⟨tv,Pj,kv⟩:=hv.ex;refine⟨_,lr (qm aco abo abn bE (u5 hu ho Kx FV) (aY Pj be FD) Ao ES Am FD BX) hs,λZ F σ H env P D K hf L=>?_⟩;unfold fD at hf;split at hf;case h_2=>exact hf.elim
 rename_i gE ei;obtain⟨NG,hf⟩:=hf;obtain⟨fp,L0⟩:=K.sl;obtain⟨w,hw,ok⟩:=L0.at' i _ ei;obtain⟨a,rfl,hd⟩:∃a,w=.ref a/\IT X.K F H a (fp i) (.zh gE):=by
  rcases ok with ⟨k0,_⟩|⟨k0,_⟩|⟨_,a,e,_,h⟩|⟨k0,_⟩
  .cases k0
  .cases k0
  .rcases h with (⟨h,_⟩|⟨_,_,h,_⟩)|h|⟨_,_,_,_,h,_⟩|⟨_,_,_,_,_,h,_⟩
   .cases h
   .cases h
   .exact⟨a,e,h⟩
   .cases h
   .cases h
  .cases k0
 refine⟨_,hw,kk (DT F H) F σ H (CG env) _ _ K.pure hf λy e1 y' F1 H1 p1 s1 K1 r1=>?_⟩;obtain⟨K2,Lr,Tj⟩:=K.Gd K1;obtain⟨k,GJ,xs,ND,p1⟩:=p1;have hy:=fN GJ r1;subst hy;obtain⟨ks,MO,e2,e3,e4,e5⟩:=hd;cases MO;have HM:∃t∈ks,t.1=k/\t.2.2=xs:=by
  unfold Fi at ND;split at ND
  .rename_i zs hz;cases ND;unfold Ah at hz;rw[aau]at hz;obtain⟨kv,hf,hv⟩:=hz;have hm:=aez hf;have hp:=List.find?_some hf;obtain⟨t,ht,rfl⟩:=List.mem_map.mp hm;exact⟨t,ht,of_decide_eq_true hp,by injection hv⟩
  .cases ND
 obtain⟨t,ht,rfl,rfl⟩:=HM;have NH:(ks.map (·.1)).Nodup:=by rw[aaH]at NG;exact NG
 have inj:∀t'∈ks,t'.1=t.1->t'=t:=λt' h' e=>by
  obtain⟨n,hn,rfl⟩:=List.mem_iff_getElem.mp ht;obtain⟨n',HL,rfl⟩:=List.mem_iff_getElem.mp h';have:n'=n:=(abu (h₀:=by simpa using HL) (h₁:=by simpa using hn) NH).mp (by simpa using e);subst this;rfl
 have Dz:Az (ks.map λt=>(t.1,V.ref t.2.1)) t.1=some (.ref t.2.1):=by
  unfold Az;rw[aau];cases hf:(ks.map λt=>(t.1,V.ref t.2.1)).find? λkv=>decide (kv.1=t.1)with
  |none=>
   have:=List.find?_eq_none.mp hf (t.1,V.ref t.2.1) (List.mem_map.mpr ⟨t,ht,rfl⟩);simp at this
  |some q=>
   have hm:=aez hf;have hp:=List.find?_some hf;obtain⟨t',JH,rfl⟩:=List.mem_map.mp hm;have:=inj t' JH (of_decide_eq_true hp);subst this;exact⟨_,rfl,rfl⟩
 obtain⟨La,DR,QM⟩:=e5 t ht;refine⟨a,.ref t.2.1,rfl,by rw[<- Dz];exact O7 (Lr _ _ e3),.inl ⟨rfl,La,.inl (.inl (Lr _ _ DR))⟩,?_⟩;refine kv (DT F1 H1) F1 σ H1 (CG env) _ _ K2.pure p1 λv UP v' F2 H2 p2 s2 K3 r2=>?_;obtain⟨K4,OG,Ti⟩:=K2.Gd K3;have L4:=Ti fp (Tj fp L0);have Ss:=OG _ _ (Lr _ _ DR);have OI:=ah s1 s2;refine⟨t.2.1,La,v',rfl,rfl,Ss,by rw[QM.len,aaB];have:=p2.1;omega,L.nx _ _ F2 _ p2.2 OI ?_⟩;have Dj:t.2.1∈fp i:=by rw[e2];exact aaj _ (aaO (f:=λt=>t.2.1) ht)
 have OZ:t.2.1≠a:=qu DR e3 (by intro z;cases z);refine(K4.HE (.inr rfl) L4 ei hw (l':=fp i) (F':=F2) (λb o h1 h2=>?_) (λb h=>?_) ak (λb o h=>?_) (λb h=>.inl h) (.inr (.inl ⟨ks.map λt'=>if t'.1=t.1 then (t.1,t.2.1,t.2.2++[v])else t',?_,?_,?_,?_,?_⟩)) (λb hb=>?_) (λb hb=>.inl hb)).1
 .rw[ae λz:b=t.2.1=>h2 (by rw[z];exact Dj)];exact h1
 .by_cases q:b=t.2.1
  .subst q;rw[aj];simp
  .rw[ae q];exact h
 .have:b≠t.2.1:=au h (L4.al i _ Dj).2;rw[ae this];exact K4.sF b o h
 .unfold Dl;rw[aaH,aaH];congr 1;apply aaY;intro t' _;show (if t'.1=t.1 then (t.1,PV.lst (t.2.2++[v]))else (t'.1,PV.lst t'.2.2))=((if t'.1=t.1 then (t.1,t.2.1,t.2.2++[v])else t').1,PV.lst (if t'.1=t.1 then (t.1,t.2.1,t.2.2++[v])else t').2.2)
  split<;>rfl
 .rw[e2,aaH];congr 1;apply aaY;intro t' h';show t'.2.1=(if t'.1=t.1 then (t.1,t.2.1,t.2.2++[v])else t').2.1;split
  .rename_i q;rw[inj t' h' q]
  .rfl
 .rw[ae OZ.symm,OG _ _ (Lr _ _ e3),aaH];congr 2;apply aaY;intro t' h';show (t'.1,V.ref t'.2.1)=((if t'.1=t.1 then (t.1,t.2.1,t.2.2++[v])else t').1,V.ref (if t'.1=t.1 then (t.1,t.2.1,t.2.2++[v])else t').2.1)
  split
  .rename_i q;rw[inj t' h' q]
  .rfl
 .rw[aaH];have:(ks.map ((λt=>t.2.1) ∘ λt'=>if t'.1=t.1 then (t.1,t.2.1,t.2.2++[v])else t'))=ks.map λt=>t.2.1:=by
   apply aaY;intro t' h';show (if t'.1=t.1 then (t.1,t.2.1,t.2.2++[v])else t').2.1=t'.2.1;split
   .rename_i q;rw[inj t' h' q]
   .rfl
  rw[this];exact e4
 .intro q hq;obtain⟨t',h',rfl⟩:=List.mem_map.mp hq;by_cases e:t'.1=t.1
  .rw[if_pos e];exact⟨_,aj,(QM.mono OI).app (.cons r2 .nil)⟩
  .rw[if_neg e];obtain⟨E5,q1,q2⟩:=e5 t' h';have hne:t'.2.1≠t.2.1:=λz=>by
    obtain⟨n,hn,rfl⟩:=List.mem_iff_getElem.mp ht;obtain⟨n',HL,rfl⟩:=List.mem_iff_getElem.mp h';have:n'=n:=(abu (h₀:=by simpa using HL) (h₁:=by simpa using hn) e4).mp (by simpa using z);subst this;exact e rfl
   exact⟨E5,by rw[ae hne];exact OG _ _ (Lr _ _ q1),q2.mono OI⟩
 .have:=L4.al i b hb;refine⟨?_,this.2⟩;by_cases q:b=t.2.1
  .subst q;rw[aj];simp
  .rw[ae q];exact this.1
def sn(i:Nat)(ho:PE X (.Name x px) (zt i)):C1 ob X (.Return (some (.Name x px)) zK) (lg i):=by
 refine⟨_,fF ho,λZ F σ H env P D K hf L=>?_⟩;unfold lg at hf;split at hf;case h_2=>exact hf.elim
 rename_i y ei;obtain⟨fp,L0⟩:=K.sl;obtain⟨w,hw,ok⟩:=L0.at' i _ ei;exact⟨_,hw,L.ro _ i env w σ F H hf ak K ei hw⟩
def MK(P:PV->Prop):Wd:={nx:=λ_=>P .yB,rt:=λx _=>P x,ro:=λx _ _=>(∃gE,x=.zh gE)/\P x}
def Il(n:Nat)(u:WS):Fd:=λxs P=>u (MK P) (Aj n xs)
variable{qual:Str}{st:Stmt}{N:List Str}{u:WS}
def xP{f:Addr}(F:Fp K x qual st f fd)(S:av N ps (ap st))(hn:ps.length<=N.length)
  (hb:∀(y6:Value) (A:Around) (outer:List Env) (s:Shared) (H:Hp) (E:XK),y9 k (A.deeper (envOfC qual (ap st) s.heap.objs.size f y6))->B6 (zT K) (CS zB P w K mg base N qual (ap st) f y6 A outer s H E).G8 (bp st) u) :
  yG P w K mg base zB (k+1) f fd ps (ED ⟨P,w,K,zT K⟩ ps.length (Il N.length u)):=by
 refine F.ok S (λvs H Q E h=>?_) (λy6 A outer s H vs Q E hr h=>?_)
 .obtain⟨F,xs,P,_,r,hl,_⟩:=h;rw[r.len];exact hl
 .obtain⟨F,xs,P',sF,r,hl,hD,kk⟩:=h;obtain⟨t,ht,kt⟩:=(hb y6 A outer s H E hr).ex;refine⟨t,ht,kt _ F _ H _ _ _ (mh sF r (by omega)) hD ⟨λenv σ F' H' p s1 K1=>?_,λx env v σ F' H' p s1 K1 rv=>?_,λ_ _ _ _ p=>p.elim,λ_ _ _ _ p=>p.elim,λ_ _ _ _ _ _ p=>p.elim,λx i env v σ F' H' p s1 K1 ei hv=>?_⟩⟩
  .exact kk .yB .yB F' H' p (λb o h=>K1.sG b o h (by simp)) s1 K1.sF K1.nw .yB
  .exact kk x v F' H' p (λb o h=>K1.sG b o h (by simp)) s1 K1.sF K1.nw rv
  .obtain⟨Kw,p⟩:=p;obtain⟨fp,L⟩:=K1.sl;obtain⟨v',IB,ok⟩:=L.at' i _ ei;rw[hv]at IB;cases IB;rcases ok with ⟨k0,_⟩|⟨k0,_⟩|⟨_,a,rfl,Sr,h⟩|⟨k0,_⟩
   .cases k0
   .cases k0
   .obtain⟨UD,Kw⟩:=Kw;rcases h with (⟨h,_⟩|⟨_,_,h,_⟩)|⟨ks,rfl,e2,e3,e4,e5⟩|⟨_,_,_,_,h,_⟩|⟨_,_,_,_,_,h,_⟩
    .rw[Kw]at h;cases h
    .rw[Kw]at h;cases h
    rotate_left
    .rw[Kw]at h;cases h
    .rw[Kw]at h;cases h
    .let F2:Hp:=λb=>if b∈fp i then H' b else F' b;have QJ  := λb o hb=>by
      show (if b∈fp i then H' b else F' b)=some o;split
      .exact K1.sF b o hb
      .exact hb
     have at2:∀b,b∈fp i->F2 b=H' b:=λb hb=>if_pos hb;refine kk _ _ F2 H' p (λb o h=>K1.sG b o h (by simp)) (ah s1 QJ) (λb o hb=>?_) (λb hb=>?_) ?_
     .have hb:(if b∈fp i then H' b else F' b)=some o:=hb;split at hb
      .exact hb
      .exact K1.sF b o hb
     .have hb:(if b∈fp i then H' b else F' b)≠none:=hb;split at hb
      .rename_i q;rcases Sr b q with z|z
       .simp at z
       .exact .inr z
      .exact K1.nw b hb
     .have ha:F2 a=some (.dK (ks.map λt=>(t.1,V.ref t.2.1))):=by simp_all
      refine .zh ha ?_;have go:∀(l:List _),(∀t∈l,t∈ks)->yC K F2 (l.map λt=>(t.1,V.ref t.2.1)) (l.map λt=>(t.1,PV.lst t.2.2)):=by
       intro l;induction l with
       |nil=>intro _;exact .nil
       |cons t l ih=>
        intro hs;obtain⟨E5,q1,q2⟩:=e5 t (hs t (by simp));refine .cons (.lst ?_ (q2.mono QJ)) (ih λt' h'=>hs t' (aaj _ h'));rw[at2 _ (by rw[e2];exact aaj _ (aaO (hs t (by simp))))];exact q1
      exact go ks λ_ h=>h
   .cases k0
def E3(ss ts:List Str):Prop:=ts.Perm ss/\ts.Pairwise λa b=>¬ zw b a
def CI:Key->Option Str
 |.inr s=>some s
 |.inl _=>none
def Aq(fa:WA):WE:=λenv P=>fa env λxs e=>match xs with
 |[.lst ys]=>∃ss,ys.mapM DZ=some ss/\ss.length<64/\∀ts,E3 ss ts->P (.lst (ts.map .str)) e
 |[.zh gE]=>∃ss,(gE.map (·.1)).mapM CI=some ss/\ss.length<64/\∀ts,E3 ss ts->P (.lst (ts.map .str)) e
 |_=>False
def g5:∀(ss:List Str),yA K F (ss.map V.str) (ss.map PV.str)
 |[]=>.nil
 |s::ss=>.cons (.str s) (g5 ss)
def kj:∀{ks:List Key} {ss:List Str},ks.mapM CI=some ss->ks=ss.map aas
 |[],ss,h=>by simp_all
 |k::ks,ss,h=>by
  rw[abq]at h;cases ea:CI k with
  |none=>rw[ea]at h;cases h
  |some a=>
   rw[ea]at h;cases el:ks.mapM CI with
   |none=>rw[el]at h;cases h
   |some bs=>
    rw[el]at h;cases h;rw[kj el];cases k<;>cases ea;rfl
variable{a b c:Expr}{es:List Expr}{g h:WE}{fa:WA}
def eF(hc:X.calm=true)(hg:Gl X "sorted")(hm:X.mg "sorted" = none)(ha:FO ob X (e::es) fa)
  (he:aag (e::es) X.env=(false,eval e X.env)::aag es X.env:=by rfl) (AQ:(backTo pos (aag es X.env)).any (·.1)=false:=by rfl):Ie ob X (.Call (.Name "sorted" p) (e::es) [] pos) (Aq fa):=by
 obtain⟨t,ht,k⟩:=ha.ex;refine⟨_,cw (za.or qE (qG hc)) hg hm boot_sorted ht (by decide) (rfl) he AQ,λZ F σ H env P Q K hf kk=>k Z F σ H env _ _ K hf λxs e1 vs F1 H1 p s1 K1 r1=>?_⟩;split at p
 .obtain⟨ss,hs,hl,p⟩:=p;obtain⟨v,rfl,r⟩:=r1.one;obtain⟨q,vs,rfl,h1,h2⟩:=r.lst K1.sF;have:=cv fC hs h2;subst this;exact .inl ⟨q,ss,rfl,.inl (.inl h1),hl,λl ts hn hp hw=>kk _ e1 _ F1 _ (p ts ⟨hp,hw⟩) s1 (λ_=>by simp) (K1.own hn ⟨_,aj,g5 ts⟩)⟩
 .obtain⟨ss,hs,hl,p⟩:=p;obtain⟨v,rfl,r⟩:=r1.one;obtain⟨q,vs,rfl,h1,h2⟩:=r.zh K1.sF;refine .inr ⟨q,vs,ss,rfl,h1,by rw[h2.keys];exact kj hs,hl,λl ts hn hp hw=>kk _ e1 _ F1 _ (p ts ⟨hp,hw⟩) s1 (λ_=>by simp) (K1.own hn ⟨_,aj,g5 ts⟩)⟩
 .exact p.elim
end Q
namespace L2
open PySem PySem.Spec PyProof.Rows
variable{prog:aaA}{w:World}{A:Around}{E:Value->Shared->Prop}{s:Shared}
structure Us(h:Heap)(z u o i1 i2 t1 t2:Addr)(n:Nat):Prop where
 zz:IsZip h z u o .none
 uu:IsPair h u (.ref i1) (.ref i2)
 oo:∃a b,IsPair h o a b
 a1:h.IsListIter i1 t1 n
 a2:h.IsListIter i2 t2 n
variable{X:Cx}
end L2
namespace Q
open PySem L2
variable{ob:zP}{X:Cx}{a b:Expr}{fa:WA}{pos p:Pos}
def Sh(a:WA):WA:=λenv P=>a env λxs e=>match xs with
 |[.tup xs,.tup ys]=>P (K8 xs ys) e
 |[.lst xs,.lst ys]=>P (K8 xs ys) e
 |_=>False
variable{α:Type}
def fH{z:α}{P:α->Prop}:opt (some z) P=P z:=propext A3
def tK{P:α->Prop}:opt none P=False:=propext ⟨λ⟨_,e,_⟩=>(nomatch e),λh=>h.elim⟩
def ab{o:Option α}{z:α}{P:α->Prop}(h:o=some z)(k:P z):opt o P:=⟨z,h,k⟩
def fZ(xs:List α)(n:Nat):AX xs none (some (n:Int))=xs.take n:=by
 unfold AX;rw[HT.CA,HT.Du,List.drop_zero,Nat.sub_zero];by_cases h:n<=xs.length
 .rw[Nat.min_eq_left h]
 .rw[Nat.min_eq_right (by omega),abU,acw (by omega)]
def mH(xs:List α)(n:Nat):AX xs (some (n:Int)) none=xs.drop n:=by
 unfold AX;rw[HT.CA,HT.Du];by_cases h:n<=xs.length
 .rw[Nat.min_eq_left h,acw (by simp)]
 .rw[Nat.min_eq_right (by omega),List.drop_length,List.drop_of_length_le (by omega)];simp
variable{g:WG}{c:WT}{f:WE}{js:List (Option Nat)}{P:PV->En->Prop}{env:En}
def cB(G:PV->Option PV):∀{xs acc:List PV},(∀x∈xs,∀R:Option PV->En->Prop,R (G x) env ->
   g x (C9 js env) λb1=>c b1 λok b2=>if ok=true then f b2 λy b3=>R (some y) (Ad js env b3)else R none (Ad js env b2))->acc.length+xs.length<=100000->P (.lst (acc++xs.filterMap G)) env->By g c f js P xs env acc
 |[],acc,_,_,k=>by simpa[By]using k
 |x::xs,acc,h,hl,k=>by
  have FX  :=by simpa[acJ]using hl
  have:=h x (by simp) (λo e=>(match o with|some y=>acc.length<=100000/\By g c f js P xs e (acc++[y])|none=>By g c f js P xs e acc)) (by
   cases e:G x with
   |none=>
    refine cB G (λy hy=>h y (by simp_all)) (by omega) ?_;simpa[e]using k
   |some y=>
    refine⟨by omega,cB G (λy hy=>h y (by simp_all)) (by simp;omega) ?_⟩;simpa[e]using k)
  exact this
def jS(G:PV->PV):∀{xs acc:List PV},(∀x∈xs,∀R:PV->En->Prop,R (G x) env->g x (C9 js env) λb1=>f b1 λy b3=>R y (Ad js env b3))->acc.length+xs.length<=100000->P (.lst (acc++xs.map G)) env->By g FU f js P xs env acc
 |[],acc,_,_,k=>by simpa[By]using k
 |x::xs,acc,h,hl,k=>by
  have FX  :=by simpa[acJ]using hl
  exact h x (by simp) (λy e=>acc.length<=100000/\By g FU f js P xs e _) ⟨by omega,jS G (λy hy=>h y (by simp_all)) (by simp;omega) (by simp_all)⟩
theorem bG{b:WS}{P:Wd}(I:Nat->En->Prop):∀{xs:List PV} {i:Nat} {env:En},I i env->(∀(j:Nat) (x:PV) (e:En) (N:En->Prop),xs[j]?=some x->I (i+j) e->(∀e',I (i+j+1) e'->N e')->g x e λe1=>b {P with nx:=N,ct:=N,bk:=P.nx} e1)->(∀e,I (i+xs.length) e->P.nx e)->Cf g b P xs env
 |[],i,env,h0,_,hd=>hd env (by simp_all)
 |x::xs,i,env,h0,hs,hd=>hs 0 x env _ rfl h0 λe' h'=>bG I h' (λj y e N hj hI k=>hs (j+1) y e N (by simp_all) (by rwa [acJ,Nat.add_comm 1 j]at hI) λe' h=>k e' (by rwa [acJ i 1 j,Nat.add_comm 1 j])) λe h=>hd e (by rwa [aaI,Nat.add_comm xs.length 1,<- acJ])
def qa:∀(bs:List Bool),(bs.map PV.bl).mapM Dc=some bs
 |[]=>rfl
 |b::bs=>by
  rw[aaz,abq,qa bs];rfl
def sL(bs:List Bool):Dm [.lst (bs.map .bl)]=some (.bl (bs.all id)):=by
 show ((bs.map PV.bl).mapM Dc).map _=_;rw[qa];rfl
def am{a b:WS}{P:Wd}(h:∀N:En->Prop,N=b P->a {P with nx:=N} env):yy a b P env:=h _ rfl
def cX{it:WA}{b:WS}{P:Wd}(h:∀(G:WG) (B:WS),G=g->B=b->it env λxs e=>Cf G B P xs e):Dv it g b P env:=h _ _ rfl rfl
variable{s:Sl}
def xF:(some (some s):Option (Option Sl)).join.isSome=true:=rfl
variable{x:PV}
def Fy{zs:List PV}(h:zs.length<=100000):bL zs [x]=some (.yB,zs++[x]):=if_pos h
variable{k:Nat}{Bg:Addr}{fd:abl}{ps:List Str}{x y:Str}{p1 pos':Pos}
theorem su(i j:Nat)(hN:X.N.Nodup)(hi:X.N[i]?=some y)(hx:Loc X.env.scope y)(F:yG X.prog X.w X.K X.mg X.base zB k Bg fd ps (Pre.iC X.K))(hr:y9 k X.A)(hm:X.mg "_law_begin" = some (.ref Bg))(hk:abx X.K (.ref Bg)=true)(hb:Binds X.K fd ps [])(ho:PE X (.Name x p1) (zt j))
  (ER:ob=zT X.K:=by rfl) (hg:Gl X "_law_begin" :=by rfl) (he:aag [.Name x p1] X.env=(false,eval (.Name x p1) X.env)::aag [] X.env:=by rfl) (AQ:(backTo pos (aag [] X.env)).any (·.1)=false:=by rfl)
  {zK:Pos} (hs:abK (.Call (.Name "_law_begin" p) [.Name x p1] [] pos) (some (.Name y pos')) zK.line X.env=pure false:=by rfl) (hf:X.fn y=true\/X.env.scope.names.lookup y=some .local:=by first|exact .inl rfl|exact .inr rfl|assumption) :
  C1 ob X (.Assign [.Name y pos'] (.Call (.Name "_law_begin" p) [.Name x p1] [] pos) zK) (AA i j):=by
 subst ER;exact ua i j hN hi hx F hr hm hk hb ho hg he AQ hs hf
end Q
set_option hygiene false in
local macro_rules|`(tactic| lia)=>`(tactic| simp only[Q.run,Q.Fv,Q.Aj,Q.ML,Q.Ka,Q.LP,Q.yy,Q.Br,Q.yJ,Q.zS,Q.y8,Q.A0,Q.B9,Q.Fu,Q.Hs,Q.EB,Q.BN,Q.Bu,Q.yM,Q.FJ,Q.Rw,Q.yu,Q.BJ,Q.eC,Q.eV,Q.zH,Q.a1,Q.iD,Q.aS,Q.B4,Q.CO,Q.MN,Q.Kc,Q.Af,Q.C8,Q.FZ,Q.GD,Q.iS,Q.Sh,Q.HX,Q.Bw,Q.Bv,Q.yP,Q.GA,Q.IX,Q.GB,Q.Bx,Q.EO,Q.Fz,Q.HU,Q.Gg,Q.Dc,Q.fH,Q.tK,aaz,List.map_nil,aaC,List.cons_append,aby,aaI,abF,abt,acq,List.set_cons_zero,List.set_cons_succ,Option.map_some,if_true,adN,aeD,acu,if_false,decide_true,decide_false,ite_true,ite_false,Q.FR,Q.gT,Q.gN,Q.zU,Q.Ce,Q.GC,Q.Hv,String.reduceBEq,Bool.false_and,Bool.or_false,Bool.false_or,Bool.true_or,Bool.and_true,adM,Nat.reduceAdd,Nat.reduceSub,Q.yO,Q.xF,true_and,Q.GW,Q.LV,Q.Ku,Q.Si])
namespace Q
open PySem L2 PyProof.Rows
variable{ob:zP}{X:Cx}{iter:Expr}{scope:Scope}{pos p1 p2 p3:Pos}{fi:WA}{x t:Str}
variable{y:Str}{py zK:Pos}
def qC(i:Nat)(hN:X.N.Nodup)(hy:X.N[i]?=some y)(hl:X.env.scope.names.lookup y=some .local)(hi:G3 ob X (.Name t p1) iter fi)(hg:∀C s₀ H₀ ex pn,PG (yw X scope [t] C s₀ H₀ ex pn) (.Name t p1) (Ax 0))(hk:∀C s₀ H₀ ex pn,PE (yw X scope [t] C s₀ H₀ ex pn) (.Name t p2) (zt 0))
  (ER:ob=zT X.K:=by rfl)
  (GG:abK (.DictComp (.Name t p2) (.List [] p3) [⟨.Name t p1,iter,[],0⟩] scope pos) (some (.Name y py)) zK.line X.env=pure true:=by rfl)
  (hc:X.calm=true:=by rfl) (hx:X.xe=(λ_ _=>False):=by rfl) (BI:BQ X.env scope=true:=by rfl) (zD:Ay X.N scope [t] [none]=true:=by rfl) (yY:scope.kind=.function:=by rfl) (hs:∀x,aaT iter X.env x=pure x:=by intro _;rfl) :
  C1 ob X (.Assign [.Name y py] (.DictComp (.Name t p2) (.List [] p3) [⟨.Name t p1,iter,[],0⟩] scope pos) zK) (lh i fi):=by
 subst ER;exact so i hN hy hl hi hg hk GG hc hx BI zD yY hs
variable{e:Expr}{px apos:Pos}
def kF(i:Nat){ke:Expr}{fk fv:WE}{ps zE:Pos}(hu:X.A.units+1<cLine)(ho:PE X (.Name x px) (zt i))(hk:yW ob X ke fk)(hv:yW ob X e fv)(ER:ob=zT X.K:=by rfl)(FV:FN ke:=by exact λ_ _=>rfl)
  (Ao:ab8 (.Subscript (.Name x px) ke ps) "append" X.env (eval (.Subscript (.Name x px) ke ps) X.env)=eval (.Subscript (.Name x px) ke ps) X.env:=by rfl)
  (ES:((backTo zE (aag [e] X.env)).all (λx=>!x.1) && (backToKw zE (adA [] X.env)).all (λx=>x.1.isSome)
   && decide ([e].length+([]:List adr).length+(if ([]:List adr).isEmpty then 0 else 1)<30))=true:=by rfl)
  (Am:(apos.endLine==zE.line)=true:=by rfl) (FD:aag [e] X.env=(false,eval e X.env)::aag [] X.env:=by rfl) (BX:(backTo zE (aag [] X.env)).any (·.1)=false:=by rfl)
  (hs:abK (.Call (.Attribute (.Subscript (.Name x px) ke ps) "append" apos) [e] [] zE) none zK.line X.env=pure false:=by rfl) :
  C1 ob X (.Expr (.Call (.Attribute (.Subscript (.Name x px) ke ps) "append" apos) [e] [] zE) zK) (fD i fk fv):=by
 subst ER;exact sr i hu ho hk hv FV Ao ES Am FD BX hs
variable{P:aaA}{w:World}{K:aaf}{mg:Str->Option Value}{base:Heap}{k:Nat}{Bg:Addr}{fd:abl}{ps:List Str}
open PySem L2
variable{c:WT}{b:WS}{P:Wd}{k:Nat}{env:En}
def mj(I:Nat->En->Prop)(step:∀(k:Nat) (e:En) (N:En->Prop),I k e->(∀k' e',k'<k->I k' e'->N e')->c e λv e1=>if v=true then b {P with nx:=N,ct:=N,bk:=P.nx} e1 else P.nx e1)(h:I k env):BR c b P env:=by
 refine⟨k+1,?_⟩;have aux:∀n k env,k<n->I k env->Gc c b P n env:=by
  intro n;induction n with
  |zero=>omega
  |succ n ih=>intro k env hk hI;exact step k env _ hI λk' e' h1 h2=>ih k' e' (by omega) h2
 exact aux _ k env (by omega) h
def aO{a:WS}(h:∀(A B:WS),A=a->B=b->c env λk e=>if k=true then A P e else B P e):Br c a b P env:=h _ _ rfl rfl
def lZ(h:∀(C:WT) (B:WS),C=c->B=b->BR C B P env):BR c b P env:=h _ _ rfl rfl
variable{α:Type}
def bg{f:α->Str}{g:α->PV}:∀{l:List α} {a:α},(l.map f).Nodup->a∈l->Ah (l.map λx=>((aas (f x):Key),g x)) (aas (f a))=some (g a)
 |b::l,a,nd,h=>by
  unfold Ah;rw[aaz,List.find?_cons];rw[aaz,adp]at nd;rcases List.mem_cons.mp h with rfl|h
  .simp
  .have hne:f b≠f a:=λe=>nd.1 (by rw[e];exact aaO h);have:decide ((aas (f b):Key)=aas (f a))=false:=by simp_all
   simp only[this];exact bg nd.2 h
def me{f:α->Str}{g:α->PV}:∀{l:List α} {y:Str},y∉l.map f->Ah (l.map λx=>((aas (f x):Key),g x)) (aas y)=none
 |[],_,_=>rfl
 |b::l,y,h=>by
  rw[aaz,aca,not_or]at h;unfold Ah;rw[aaz,List.find?_cons];have:decide ((aas (f b):Key)=aas y)=false:=by simp;exact λe=>h.1 e.symm
  simp only[this];exact me h.2
variable{y:Str}
def np{f:α->Str}{g:α->PV}{l:List α}{v:PV}(h:y∉l.map f):C5 (l.map λx=>((aas (f x):Key),g x)) (aas y) v=(l.map λx=>((aas (f x):Key),g x))++[(aas y,v)]:=by
 unfold C5;rw[if_neg];rw[List.any_map];intro z;rw[List.any_eq_true]at z;obtain⟨x,hx,e⟩:=z;exact h (by simp_all)
variable{ys:List Str}{x:Str}
def vH:(ys.map PV.str).mapM (λy=>zM 60 y (.str x))=some (ys.map λy=>y==x):=by
 induction ys with
 |nil=>rfl
 |cons y ys ih=>
  rw[aaz,abq,ih];rfl
def lM:HH (.str x) (.tup (ys.map .str))=some (decide (x∈ys)):=by
 show ((ys.map PV.str).mapM (λy=>zM 60 y _)).map _=_;rw[vH];show some ((ys.map _).any id)=_;congr 1;rw[aa2];simp
def tZ:HH (.str x) (.lst (ys.map .str))=some (decide (x∈ys)):=lM
def bv:Bp (.str x) (.tup (ys.map .str))=some (.bl (decide (x∈ys))):=by
 show (HH _ _).map _=_;rw[lM];rfl
def qz:Bp (.str x) (.lst (ys.map .str))=some (.bl (decide (x∈ys))):=by
 show (HH _ _).map _=_;rw[tZ];rfl
end Q
namespace L2
open PySem PySem.Spec PyProof.Rows
variable{X:Cx}
end L2
namespace Q
open PySem L2 PyProof.Rows
variable{ob:zP}{X:Cx}{a b c e:Expr}{es:List Expr}{f g h:WE}{fa:WA}{pos p p1:Pos}{x:Str}
def wf{d:Nat}:∀(a b:List Str),zM (d+2) (.tup (a.map .str)) (.tup (b.map .str))=some (decide (a=b)):=by
 intro a b;have e:((a.map PV.str).zip (b.map PV.str)).mapM (λp=>zM (d+1) p.1 p.2)=some ((a.zip b).map λp=>p.1==p.2):=by
  rw[List.zip_map];generalize a.zip b=l;induction l with
  |nil=>rfl
  |cons p l ih=>rw[aaz,abq,ih];rfl
 show (((a.map PV.str).zip _).mapM (λp=>zM _ p.1 p.2)).map _=_;rw[e,aae,aae];show some (((a.zip b).map _).all id && a.length==b.length)=_;congr 1;rw[List.all_map,aa2,aaR,decide_eq_true_eq,beq_iff_eq];clear e;constructor
 .rintro⟨h1,h2⟩;induction a generalizing b with
  |nil=>cases b with|nil=>rfl|cons _ _=>cases h2
  |cons x a ih=>
   cases b with
   |nil=>cases h2
   |cons y b=>
    rw[aa7,List.all_cons,aaR]at h1;have Tz:x=y:=by simp_all
    rw[Tz,ih b h1.2 (by simp_all)]
 .rintro rfl;refine⟨?_,rfl⟩;rw[adc];rintro⟨x,y⟩ hm;have:x=y:=by
   obtain⟨i,hi⟩:=List.getElem?_of_mem hm;rw[abj]at hi;have:=hi.1.symm.trans hi.2;simpa using this
  simp[this]
def HV:PV->Option Str
 |.tup (.str s::_)=>some s
 |_=>none
def EY(fa:WA):WE:=λenv P=>fa env λxs e=>match xs with
 |[.lst ys]=>∃nm:List Str,ys.mapM HV=some nm/\nm.Nodup/\ys.length<64/\∀ix:List Nat,ix.length=ys.length->(∀i∈ix,i<ys.length)->(ix.map λi=>nm.getD i ⟨#[]⟩).Pairwise zw->P (.lst (ix.map λi=>ys.getD i .yB)) e
 |_=>False
variable{K:aaf}{F H:Hp}{v:V}{y:PV}
def vW(sF:eQ F H)(r:Rep K F v y)(h:HV y=some x):∃a t,v=.ref a/\AF K H a (.str x::t):=by
 unfold HV at h;split at h
 .cases h;cases r with
  |tup h1 h2=>cases h2 with
   |cons r1 r2=>cases r1;exact⟨_,_,rfl,aw sF h1⟩
 .cases h
variable{vs:List V}
theorem mq{ys:List PV}(r:yA K F vs ys):∀ix:List Nat,(∀i∈ix,i<ys.length)->yA K F (ix.map λi=>vs.getD i .yB) (ix.map λi=>ys.getD i .yB)
 |[],_=>.nil
 |i::ix,h=>by
  refine .cons ?_ (mq r ix λj hj=>h j (aaj _ hj));have hi:=h i aar;obtain⟨v,hv,rv⟩:=r.get (aaa hi);show Rep K F (vs.getD i .yB) (ys.getD i .yB);rw[aac,aac,hv,aaa hi];exact rv
def ub(hg:Gl X "sorted")(hm:X.mg "sorted" = none)(ha:FO ob X (e::es) fa)
  (he:aag (e::es) X.env=(false,eval e X.env)::aag es X.env:=by rfl) (AQ:(backTo pos (aag es X.env)).any (·.1)=false:=by rfl):Ie ob X (.Call (.Name "sorted" p) (e::es) [] pos) (EY fa):=by
 obtain⟨t,ht,k⟩:=ha.ex;refine⟨_,cw qF hg hm boot_sorted ht (by decide) (rfl) he AQ,λZ F σ H env P Q K hf kk=>k Z F σ H env _ _ K hf λxs e1 vs F1 H1 p s1 K1 r1=>?_⟩;split at p
 .obtain⟨nm,hs,nd,hl,p⟩:=p;obtain⟨v,rfl,r⟩:=r1.one;obtain⟨q,vs,rfl,h1,h2⟩:=r.lst K1.sF;have g1:=(bu hs).1;have hlen:=h2.len;refine⟨q,vs,nm,rfl,.inl (.inl h1),by omega,⟨by omega,λi v x hv hx=>?_,nd⟩,λl ix hn i1 i2 i3 i4=>?_⟩
  .obtain⟨y,hy,ry⟩:=h2.GP hv;obtain⟨y',e1,e2⟩:=nU hs i x hx;rw[hy]at e1;cases e1;exact vW K1.sF ry e2
  .exact kk _ e1 _ F1 _ (p ix (by omega) (λi hi=>by simp_all) i4) s1 (λ_=>by simp) (K1.own hn ⟨_,aj,mq h2 ix λi hi=>by simp_all⟩)
 .exact p.elim
end Q
namespace L2
open PySem PySem.Spec PyProof.Rows
variable{prog:aaA}{w:World}{A:Around}{E:Value->Shared->Prop}{s:Shared}
variable{X:Cx}
end L2
namespace Q
open PySem L2 PyProof.Rows
def neT:PV->PV->Option PV
 |.tup xs,.tup ys=>(zM 60 (.tup xs) (.tup ys)).map λb=>.bl (!b)
 |_,_=>none
def Ly(K:aaf):R2:=λv u H Q=>∃F xs ys k,eQ F H/\Rep K F v (.tup xs)/\Rep K F u (.tup ys)/\zM 60 (.tup xs) (.tup ys)=some k/\Q (.bl (!k)) H
variable{ob:zP}{X:Cx}{a b c e:Expr}{es:List Expr}{f g h:WE}{fa:WA}{pos HB p p1 p2:Pos}{x:Str}
theorem xi(hu:X.A.units+60<cLine):zC X (aaL .NotEq) (Ly X.K):=by
 intro pins s σ H x y v u Q I rx ry h;obtain⟨F,xs,ys,k,sF,r1,r2,e,hq⟩:=h;cases r1 with
 |tup h1 r1=>
 cases r2 with
 |tup h2 r2=>
 cases rx;cases ry;obtain⟨nE,rv,p,_⟩:=I.tuple (aw sF h1);obtain⟨Aa,Cv,p2,_⟩:=I.tuple (aw sF h2);have l1:nE.length=xs.length:=by rw[<- rv.length,r1.len]
 have l2:Aa.length=ys.length:=by rw[<- Cv.length,r2.len]
 have e':((xs.zip ys).mapM λp=>zM 59 p.1 p.2).map _=some k:=e;rw[aau]at e';obtain⟨bs,hb,ek⟩:=e';obtain⟨Hf,Hg⟩:=bu hb;have t:=SeqAt.RcNeAt.tuples (A:=X.A) (e:=λj=>bs.getD j false) p p2 (by omega) (λj j1 j2=>by
  simp only[aam]at j1 j2;have jx:j<xs.length:=by omega
  have jy:j<ys.length:=by omega
  have hz:(xs.zip ys)[j]?=some (xs[j],ys[j]):=by rw[abj];exact⟨by simp[jx],by simp[jy]⟩
  obtain⟨b,e1,e2⟩:=Hg j _ hz;obtain⟨v1,q1,q2⟩:=r1.get (aaa jx);obtain⟨v2,q3,q4⟩:=r2.get (aaa jy);obtain⟨u1,q5,q6⟩:=rv.get q1;obtain⟨u2,q7,q8⟩:=Cv.get q3;have g1:nE.toArray[j]=u1:=by simp_all
  have g2:Aa.toArray[j]=u2:=by simp_all
  rw[g1,g2,show bs.getD j false=b by simp[aes,e1]];exact(J9 I sF (A:=X.A.in1) (d:=59) (by simp_all) q2 q4 q6 q8 e2).2)
 have e3:((aaZ (min nE.toArray.size Aa.toArray.size)).all (λj=>bs.getD j false) && nE.toArray.size==Aa.toArray.size)=k:=by
  have e4:min nE.toArray.size Aa.toArray.size=bs.length:=by simp_all
  rw[e4,eO (λj hj=>by simp_all),aam,aam,l1,l2];exact ek
 rw[e3]at t;exact t X.prog X.w X.xe _ ⟨.bl (!k),H,I,rfl,hq⟩
def ve:BK ob X (Ly X.K) neT:=by
 refine bw (P:=λ_ _ _ _=>True) λF H v u x y z sF rx ry hz=>?_;unfold neT at hz;split at hz
 .rw[aau]at hz;obtain⟨k,hk,rfl⟩:=hz;exact⟨_,λ_=>.bl _,λQ q=>⟨F,_,_,k,sF,rx.Gf,ry.Gf,hk,q⟩⟩
 .cases hz
end Q
namespace L2
open PySem PySem.Spec PyProof.Rows PySem.W
def y3(h:Heap)(a:Addr)(k:Int×Str):Prop:=∃o n t u,h.get? a=some o/\o.cls=.type "tuple" /\ o.data=.seq #[.int k.1 t,.str k.2 u] n
variable{h h':Heap}{a:Addr}{k:Int×Str}
def y3.mono(x:y3 h a k)(g:∀o,h.get? a=some o->h'.get? a=some o):y3 h' a k:=by
 obtain⟨o,n,t,u,e,r⟩:=x;exact⟨o,n,t,u,g o e,r⟩
def Dh(ks:List (Int×Str))(i j:Nat):Bool:=decide ((ks.getD i (0,⟨#[]⟩)).1<(ks.getD j (0,⟨#[]⟩)).1\/((ks.getD i (0,⟨#[]⟩)).1=(ks.getD j (0,⟨#[]⟩)).1/\zw (ks.getD i (0,⟨#[]⟩)).2 (ks.getD j (0,⟨#[]⟩)).2))
variable{ks:List (Int×Str)}
theorem lH(nd:(ks.map (·.2)).Nodup):Srt.Ord (Dh ks) ks.length:=by
 have inj:∀i j,i<ks.length->j<ks.length->(ks.getD i (0,⟨#[]⟩)).2=(ks.getD j (0,⟨#[]⟩)).2->i=j:=λi j hi hj e=>by
  have a:(ks.map (·.2))[i]'(by simp_all)=(ks.map (·.2))[j]'(by simp_all):=by simp_all
  exact(abu nd).mp a
 refine⟨λi _=>?_,λi j k _ _ _ a b=>?_,λi j hi hj ne e=>?_⟩
 .unfold Dh;rw[decide_eq_false_iff_not];rintro(h|⟨_,h⟩)
  .omega
  .exact acX _ h
 .have a:=of_decide_eq_true a;have b:=of_decide_eq_true b;refine decide_eq_true ?_;rcases a with a|⟨a1,a2⟩<;>rcases b with b|⟨b1,b2⟩
  .exact .inl (by omega)
  .exact .inl (by omega)
  .exact .inl (by omega)
  .exact .inr ⟨by omega,List.lt_trans a2 b2⟩
 .have e:=of_decide_eq_false e;rw[not_or]at e;refine decide_eq_true ?_;rcases Int.lt_trichotomy _ _ with z|z|z
  .exact absurd z e.1
  .refine .inr ⟨z.symm,?_⟩;have e2  := λh=>e.2 ⟨z,h⟩;rcases List.le_iff_lt_or_eq.mp (List.not_lt.mp e2)with q|q
   .exact q
   .exfalso;refine ne (inj i j hi hj ?_);generalize (ks.getD i _).2=x at q ⊢;generalize (ks.getD j _).2=y at q ⊢;exact congrArg Str.mk (Array.toList_inj.mp q.symm)
  .exact .inl z
variable{prog:aaA}{w:World}{A:Around}{E:Value->Shared->Prop}{s:Shared}
variable{x y:Addr}{l:Int×Str}
def u7{Q:Bool->Shared->Prop}(hx:y3 s.heap x k)(hy:y3 s.heap y l)(hne:k.2≠l.2)(h:Q (decide (k.1<l.1\/(k.1=l.1/\zw k.2 l.2))) s):wpAny (model prog w) A (keyLt' (aef true) (.ref x) (.ref y)) Q E s:=by
 obtain⟨ox,n,t,u,e1,_,e2⟩:=hx;obtain⟨oy,n',t',u',f1,_,f2⟩:=hy;refine kat_lt e1 e2 f1 f2 ?_;refine kat_cons (wpAny_eqBool_int ?_);by_cases e:k.1=l.1
 .rw[show (k.1==l.1)=true by simp[e]];refine kat_yes (kat_cons (aea ?_));rw[decide_eq_false hne];refine kat_one _ _ (lt_str ?_);have:decide (k.1<l.1\/(k.1=l.1/\zw k.2 l.2))=decide (k.2.cps.toList<l.2.cps.toList):=by
   rw[aa2,decide_eq_true_eq,decide_eq_true_eq];constructor
   .rintro(z|⟨_,z⟩)
    .omega
    .exact z
   .intro z;exact .inr ⟨e,z⟩
  rw[this]at h;exact h
 .rw[show (k.1==l.1)=false by simp[e]];refine oneLt_int ?_;have:decide (k.1<l.1\/(k.1=l.1/\zw k.2 l.2))=decide (k.1<l.1):=by simp_all
  rw[this]at h;exact h
variable{kS:Addr}{e1:Nat}{P:PySem.Fin->Shared->Prop}
def pM{e n:Nat}{keys:Array Value}{st:SortSt}{out:List Value}(hk:s.heap.get? kS=some (seqObj "list" keys e))(ha:s.heap.get? a=some (seqObj "list" #[] e1))(hne:kS≠a)(UK:keys.size<=100)
  (ho:(arrOf st).map (·.2)=out.toArray) (hf:failedOf st=none) (hz:out.length<=100)
  (h:∀(h':Heap) (c:Nat),h'.get? a=some (seqObj "list" out.toArray c)->(∀b o,b≠a->b≠kS->s.heap.get? b=some o->h'.get? b=some o)->P (.done (.ret .none)) {s with heap:=h'}) :
  wpAny (model prog w) A (ksk_tail a false e1 (.ref kS) st) P E s:=by
 have s1:=aba s.heap kS (abz λ_=>#[]);have KH  := (s1.2 a hne.symm).trans ha;unfold ksk_tail;rw[ho];refine aab (acI hk rfl ?_ (by rw[aaB];omega) (aaS _));refine aab (aci ?_);refine aab (aei KH rfl ?_);refine aab (acI KH rfl ?_ (aaS _) (by simp only[acu,if_false,aam];rw[aaB];omega));rw[hf];simp only[bne_self_eq_false,if_false];have s2:=aba (s.heap.update kS (abz λ_=>#[])) a (abz λ_=>out.toArray);exact aal (h _ _ (abB KH _) λb o h1 h2 g=>(s2.2 b h1).trans ((s1.2 b h2).trans g))
def mw:∀ad:List Addr,(∀a∈ad,∃k,y3 h a k)->∃fs:List Value,KatTups h (ad.map aa0) fs/\fs.length=ad.length/\∀v∈fs,∃c t,v=.int c t
 |[],_=>⟨[],trivial,rfl,λ_ z=>by simp_all⟩
 |a::ad,hp=>by
  obtain⟨fs,h1,h2,h3⟩:=mw ad λb hb=>hp b (aaj _ hb);obtain⟨k,o,n,t,u,e1,e2,e3⟩:=hp a aar;refine⟨.int k.1 t::fs,⟨⟨a,o,_,n,rfl,e1,e2,e3,rfl⟩,h1⟩,by simp_all,λv hv=>?_⟩;rcases List.mem_cons.mp hv with rfl|hv
  .exact⟨_,_,rfl⟩
  .exact h3 v hv
variable{ad:List Addr}{vs:List Value}{i:Nat}
def lK(hl:ad.length=vs.length)(hi:i<vs.length):adF ((ad.map aa0).toArray.zip vs.toArray) i=(.ref (ad.getD i 0),vs.getD i aa5):=by
 unfold adF;have Et:i<ad.length:=by omega
 have hz:i<((ad.map aa0).toArray.zip vs.toArray).size:=by simp_all
 rw[Array.getD,dif_pos hz];show ((ad.map aa0).toArray.zip vs.toArray)[i]=_;rw[Array.getElem_zip,List.getElem_toArray,acE,aac,aac,aaa Et,aaa hi];rfl
theorem xx{e:Nat}(hk:s.heap.get? kS=some (seqObj "list" (ad.map aa0).toArray e))(ha:s.heap.get? a=some (seqObj "list" #[] e1))(hne:kS≠a)
  (l1:ad.length=vs.length) (l2:ks.length=vs.length) (Bi:vs.length<64) (nd:(ks.map (·.2)).Nodup) (hp:∀i,i<vs.length->y3 s.heap (ad.getD i 0) (ks.getD i (0,⟨#[]⟩)))
  (h:∀(h':Heap) (c:Nat) (ix:List Nat),ix.length=vs.length->ix.Nodup->(∀i∈ix,i<vs.length)->ix.Pairwise (λi j=>Dh ks i j=true)->h'.get? a=some (seqObj "list" (ix.map λi=>vs.getD i aa5).toArray c)->(∀b o,b≠a->b≠kS->s.heap.get? b=some o->h'.get? b=some o)->P (.done (.ret .none)) {s with heap:=h'}) :
  wpAny (model prog w) A (ksk_end a false vs.toArray e1 (.ref kS) (ad.map aa0).toArray) P E s:=by
 have kz:(ad.map aa0).toArray.size<=100:=by rw[aam,aae];omega
 unfold ksk_end;dsimp only;simp only[acu,if_false];by_cases h2:vs.toArray.size<2
 .rw[if_pos h2,if_pos h2];rw[aam]at h2;refine aab (aal ?_);rw[StateT.run_pure];refine aab (aal ?_);dsimp only;have ei:(aaZ vs.length).map (λi=>vs.getD i aa5)=vs:=by
   apply acz;intro i;rw[aah];by_cases hi:i<vs.length
   .rw[abS hi];simp[hi]
   .rw[aap (by simpa using hi),aap (by omega)];rfl
  refine pM (st:=SortSt.mk' general' ((ad.map aa0).toArray.zip vs.toArray) #[] 7 none) (out:=vs) (n:=0) hk ha hne kz ?_ rfl (by omega) λh' c g1 g2=>?_
  .apply Array.toList_inj.mp;show (((ad.map aa0).toArray.zip vs.toArray).map (·.2)).toList=vs;rw[Array.toList_map,Array.toList_zip];show ((ad.map aa0).zip vs).map (·.2)=vs;exact aed (by rw[aae];omega)
  .refine h h' c (aaZ vs.length) (by simp) adb (λi hi=>List.mem_range.mp hi) ?_ (by rw[ei];exact g1) g2
   match hv:vs.length,h2 with
   |0,_=>simp
   |1,_=>simp[aeq]
 .rw[if_neg h2,if_neg h2];rw[aam]at h2;obtain⟨fs,f1,f2,f3⟩:=mw ad λb hb=>by
   obtain⟨i,hi,rfl⟩:=List.mem_iff_getElem.mp hb;have:=hp i (by omega);rw[aac,aaa hi]at this;exact⟨_,this⟩
  refine aab (kat_kind (T:=.type "int") f1 (by omega) (λv hv=>?_) rfl ?_)
  .obtain⟨c,t,rfl⟩:=f3 v hv;exact Looks.of_pure rfl
  have hT:((acx "int") != (acx "tuple"))=true:=by decide
  rw[hT];have Sg:((ad.map aa0).toArray.zip vs.toArray).size=vs.length:=by rw[Array.size_zip,aam,aam,aae];omega
  have TB:SortSt.mk' (aef true) ((ad.map aa0).toArray.zip vs.toArray) #[] 7 none=kas_st (aef true) ((ad.map aa0).toArray.zip vs.toArray) (ad8 (aaZ vs.length)):=by
   have q:=kas_range ((ad.map aa0).toArray.zip vs.toArray);rw[Sg]at q;show _=SortSt.mk' (aef true) ((ad8 (aaZ vs.length)).map (adF _)) #[] 7 none;rw[q]
  have o:Srt.Ord (Dh ks) vs.length:=l2 ▸ lH nd;have Jg:∀i j,i<vs.length->j<vs.length->i≠j->(ks.getD i (0,⟨#[]⟩)).2≠(ks.getD j (0,⟨#[]⟩)).2:=λi j hi hj ne q=>by
   have a:(ks.map (·.2))[i]'(by rw[aae];omega)=(ks.map (·.2))[j]'(by rw[aae];omega):=by
    rw[acE,acE];rw[aac,aac,aaa (by omega),aaa (by omega)]at q;exact q
   exact ne ((abu nd).mp a)
  have ask:(kas_sort vs.length).kasWp (kas_cmp prog w A (aef true) ((ad.map aa0).toArray.zip vs.toArray)) (λp z=>z=s/\Srt.Pm p vs.length/\Srt.Ga (Dh ks) p vs.length) s:=by
   refine Srt.pw_wp (lt:=Dh ks) (n:=vs.length) (Q:=λp=>Srt.Pm p vs.length/\Srt.Ga (Dh ks) p vs.length) (J:=λz=>z=s) ?_ (λp z hz q=>⟨hz,q⟩) (kas_sort vs.length) _ rfl (Srt.pz o (by omega) λp a b=>⟨a,b⟩);rintro i j C z hi hj ne rfl hC;show wpAny _ _ (keyLt' (aef true) (adF _ i).1 (adF _ j).1) _ _ _;rw[lK l1 hi,lK l1 hj];exact u7 (hp i hi) (hp j hj) (Jg i j hi hj ne) (hC _ rfl)
  have run:=kas_runs (E:=E) (Q:=λ_ Dt z=>∃p:Array Nat,p.size=vs.length/\arrOf Dt=p.map (adF ((ad.map aa0).toArray.zip vs.toArray))/\failedOf Dt=none/\z=s/\Srt.Pm p vs.length/\Srt.Ga (Dh ks) p vs.length)
   (by omega) Bi (λp' Dt z a1 a2 a3 a4=>⟨p',a1,a2,a3,a4⟩) ask
  rw[<- TB]at run;refine aab (aaK run ?_ λ_ _ q=>q);rintro⟨⟨⟩,Dt⟩ z ⟨p,QP,Te,hf,rfl,Pm,As⟩;dsimp only;have zR:∀i∈p.toList,i<vs.length:=λi hi=>by
   obtain⟨j,hj,rfl⟩:=Array.mem_iff_getElem.mp (Array.mem_toList_iff.mp hi);have:=Pm.lt j (by rw[<- Pm.sz];exact hj);rw[Srt.aX]at this;simpa only[aeE hj,Option.getD_some]using this
  refine pM (st:=Dt) (out:=p.toList.map λi=>vs.getD i aa5) (n:=0) hk ha hne kz ?_ hf (by rw[aae,abw,QP];omega) λh' c g1 g2=>h h' c p.toList (by rw[abw,QP]) ?_ zR ?_ g1 g2
  .apply Array.toList_inj.mp;rw[Te,Array.map_map,Array.toList_map];exact aaY λi hi=>by show (adF _ i).2=_;rw[lK l1 (zR i hi)]
  .rw[acd,acg];intro i j hi hj Cc q;have Et:i<p.size:=by simpa using hi
   have DS:j<p.size:=by simpa using hj
   have:=Pm.nd i j (by rw[<- Pm.sz];exact Et) (by rw[<- Pm.sz];exact DS) (by rw[Srt.aX,Srt.aX];simpa[Et,DS]using q);omega
  .rw[acg];intro i j hi hj Cc;have Et:i<p.size:=by simpa using hi
   have DS:j<p.size:=by simpa using hj
   have:=As i j Cc (by rw[<- Pm.sz];exact DS);rw[Srt.aX,Srt.aX]at this;simpa[Et,DS]using this
def dW(prog:aaA)(w:World)(A:Around)(s:Shared)(f:Value)(keep:Addr->Prop)(v:Value)(a:Addr):Prop :=
 ∀(h:Heap) (tk:Nat),(∀b o,keep b->s.heap.get? b=some o->h.get? b=some o)->wpAny (model prog w) A (call f [v]) (λr z=>r=.ref a/\∃h' Ot,z={s with heap:=h',toks:=Ot}/\∀b o,h.get? b=some o->h'.get? b=some o) (λ_ _=>False) {s with heap:=h,toks:=tk}
variable{f:Value}
theorem vP(hk:s.heap.get? kS=some (seqObj "list" #[] 0))(ha:s.heap.get? a=some (seqObj "list" #[] e1))(hne:kS≠a)
  (l1:ad.length=vs.length) (l2:ks.length=vs.length) (Bi:vs.length<64) (nd:(ks.map (·.2)).Nodup) (hp:∀i,i<vs.length->y3 s.heap (ad.getD i 0) (ks.getD i (0,⟨#[]⟩))) (SE:∀i,i<vs.length->ad.getD i 0≠kS)
  (turn:∀i,i<vs.length->dW prog w A s f (λb=>b≠kS) (vs.getD i .none) (ad.getD i 0))
  (h:∀(h':Heap) (tk c:Nat) (ix:List Nat),ix.length=vs.length->ix.Nodup->(∀i∈ix,i<vs.length)->ix.Pairwise (λi j=>Dh ks i j=true)->h'.get? a=some (seqObj "list" (ix.map λi=>vs.getD i aa5).toArray c)->(∀b o,b≠a->b≠kS->s.heap.get? b=some o->h'.get? b=some o)->P (.done (.ret .none)) {s with heap:=h',toks:=tk}) :
  wpAny (model prog w) A (ksk_rest a f false vs.toArray e1 (.ref kS)) P E s:=by
 refine aab (adP ?_);rw[List.forIn_toArray];refine aab (ksk_fold (λi z=>∃h' tk e,z={s with heap:=h',toks:=tk}/\(∀b o,b≠kS->s.heap.get? b=some o->h'.get? b=some o)/\h'.get? kS=some (seqObj _ ((ad.take i).map aa0).toArray e)) vs 0 s
  ⟨s.heap,s.toks,0,rfl,λb o _ g=>g,hk⟩ ?_ ?_)
 .rintro j x z hx ⟨h',tk,e,rfl,g1,g2⟩;rw[abQ]at g2 ⊢;have hj  := (List.getElem?_eq_some_iff.mp hx).1;have ev:vs.getD j .none=x:=by simp_all
  have t:=turn j hj h' tk λb o hb g=>g1 b o hb g;rw[ev]at t;refine aab (wpAny_attempt (aaK t (λv z hz=>?_) λ_ _ q=>q.elim));obtain⟨rfl,h2,Hr,rfl,g3⟩:=hz;have gk:=g3 _ _ g2;have s1:=aba h2 kS (abz (·.push (.ref (ad.getD j 0))));refine aab (acI gk rfl ?_ (by rw[aam,aae,abe,aaB];omega) (aa4 (ad7 (Array.size_push ..)) (by rw[aam,aae,abe,aaB];omega)));have ej:(((ad.take j).map aa0).toArray.push (.ref (ad.getD j 0)))=((ad.take (j+1)).map aa0).toArray:=by
   have SW:j<ad.length:=by omega
   apply Array.toList_inj.mp;rw[Array.toList_push];rw[acB,aac,aaa SW,aaP];rfl
  obtain⟨c2,IE⟩:∃c2,(h2.update kS (abz _)).get? kS=some _:=⟨_,abB gk (·.push _)⟩
  rw[ej]at IE;exact aal ⟨rfl,_,Hr,c2,rfl,λb o hb g=>(s1.2 b hb).trans (g3 b o (g1 b o hb g)),IE⟩
 .rintro z ⟨h',tk,e,rfl,g1,g2⟩;rw[acw (by omega)]at g2;refine aab (listItems_at g2 rfl ?_);refine xx g2 (g1 a _ hne.symm ha) hne l1 l2 Bi nd (λi hi=>(hp i hi).mono λo q=>g1 _ o (SE i hi) q) λh2 c ix i1 i2 i3 i4 i5 i6=>h h2 tk c ix i1 i2 i3 i4 i5 λb o b1 b2 g=>i6 b o b1 b2 (g1 b o b2 g)
variable{n:Nat}
theorem vO(ha:s.heap.get? a=some (seqObj "list" vs.toArray n))
  (l1:ad.length=vs.length) (l2:ks.length=vs.length) (Bi:vs.length<64) (nd:(ks.map (·.2)).Nodup) (hp:∀i,i<vs.length->y3 s.heap (ad.getD i 0) (ks.getD i (0,⟨#[]⟩))) (SF:∀i,i<vs.length->ad.getD i 0≠a)
  (turn:∀i,i<vs.length->dW prog w A s f (λb=>b≠a) (vs.getD i .none) (ad.getD i 0))
  (h:∀(h':Heap) (tk c:Nat) (ix:List Nat),ix.length=vs.length->ix.Nodup->(∀i∈ix,i<vs.length)->ix.Pairwise (λi j=>Dh ks i j=true)->h'.get? a=some (seqObj "list" (ix.map λi=>vs.getD i aa5).toArray c)->(∀b o,b≠a->s.heap.get? b=some o->h'.get? b=some o)->P (.done (.ret .none)) {s with heap:=h',toks:=tk}) :
  wpAny (model prog w) A (ksk_tree a f false) P E s:=by
 have s1:=aba s.heap a (abz λ_=>#[]);have KH:=abB ha λ_=>#[];refine aab (listItems_at ha rfl ?_);refine aab (acI ha rfl ?_ (by rw[aam,aaB];omega) (aaS _));refine aab (aei KH rfl ?_);refine aab (wpAny_newTuple ?_ (by show vs.length<=_;rw[aaB];omega));refine aab (ab5 ?_ (aaS _));refine aaM ?_;generalize hH:((s.heap.update a _).push _)=H1;have kz:H1.objs.size=s.heap.objs.size+1:=by rw[<- hH,size_push',Heap.size_update]
 have old:∀b o,b≠a->s.heap.get? b=some o->(H1.push (seqObj "list" #[] 0)).get? b=some o:=λb o hb g=>by
  rw[<- hH];exact aad _ (aad _ ((s1.2 b hb).trans g))
 have lt:∀b o,s.heap.get? b=some o->b≠H1.objs.size:=λb o g=>by
  have:=aai g;rw[kz];exact aay (abp this)
 refine vP (aan _ rfl) ?_ ?_ l1 l2 Bi nd (λi hi=>?_) (λi hi=>?_) (λi hi=>?_) λh' tk c ix i1 i2 i3 i4 i5 i6=>h h' tk c ix i1 i2 i3 i4 i5 λb o hb g=>i6 b o hb (lt b o g) (old b o hb g)
 .rw[<- hH];exact aad _ (aad _ KH)
 .exact(lt a _ ha).symm
 .exact(hp i hi).mono λo q=>old _ o (SF i hi) q
 .obtain⟨o,_,_,_,g,_⟩:=hp i hi;exact lt _ o g
 .exact λh2 tk g=>turn i hi h2 tk λb o hb q=>g b o (lt b o q) (old b o hb q)
variable{q:Addr}{ob:Obj}{Q:Value->Shared->Prop}
theorem rU{l:Addr}{n0:Nat}(ho:s.heap.get? l=some ob)(hc:ob.cls=.type "tuple")(hd:ob.data=.seq vs.toArray n0)
  (l1:ad.length=vs.length) (l2:ks.length=vs.length) (Bi:vs.length<64) (nd:(ks.map (·.2)).Nodup) (hp:∀i,i<vs.length->y3 s.heap (ad.getD i 0) (ks.getD i (0,⟨#[]⟩)))
  (turn:∀i,i<vs.length->dW prog w A.in1.in1 s (.ref q) (λ_=>True) (vs.getD i .none) (ad.getD i 0))
  (h:∀(D:Addr) (h1 h':Heap) (tk c:Nat) (ix:List Nat),(∀b o,s.heap.get? b=some o->h1.get? b=some o)->h1.objs.size<=D->ix.length=vs.length->ix.Nodup->(∀i∈ix,i<vs.length)->ix.Pairwise (λi j=>Dh ks i j=true)->h'.get? D=some (seqObj "list" (ix.map λi=>vs.getD i aa5).toArray c)->(∀b o,s.heap.get? b=some o->h'.get? b=some o)->Q (.ref D) {s with heap:=h',toks:=tk}) :
  wpAny (model prog w) A (call (.builtin "sorted") [.ref l] [(aaG "key",.ref q)]) Q E s:=by
 refine call_function_entry_kw kind_sorted plain_sorted entry_sorted (ksk_s1 _ _) ?_;unfold Builtin.«sorted»;refine aab (m:=checkCount "sorted" 1 1 _) (aal ?_);refine aab (wpAny_collect_seq l (.inr rfl) ho hc hd (λh1 kk=>?_) (by rw[aam,aaB];omega));refine aab (ab5 ?_ (by show vs.length<=_;rw[aaB];omega));have FE:(h1.push (seqObj "list" vs.toArray 0)).get? h1.objs.size=some (seqObj "list" vs.toArray 0):=aan _ rfl;have old:∀b o,s.heap.get? b=some o->(h1.push (seqObj "list" vs.toArray 0)).get? b=some o:=λb o g=>aad _ (kk b o g);have ne  := λb o g=>aay (aai (kk b o g));refine aab (aaM (wpAny_call_entry_kw adx ⟨_,FE,rfl⟩ adk ?_ (ksk_l1 _ _)));rw[ksk_t1];refine vO FE l1 l2 Bi nd (λi hi=>(hp i hi).mono λo g=>old _ o g) (λi hi=>?_) (λi hi h2 tk g=>turn i hi h2 tk λb o _ z=>g b o (ne b o z) (old b o z)) λh' tk c ix i1 i2 i3 i4 i5 i6=>⟨_,rfl,?_⟩
 .obtain⟨o,_,_,_,g,_⟩:=hp i hi;exact ne _ o g
 .exact aal ⟨_,rfl,h h1.objs.size h1 h' tk c ix kk (aak _) i1 i2 i3 i4 i5 λb o g=>i6 b o (ne b o g) (old b o g)⟩
structure Bk(x d:Str)(params:Arguments)(scope:Scope):Prop where
 kind:scope.kind=.function
 co:scope.isCoroutine=false
 gen:scope.isGenerator=false
 nc:∀y∈scope.names,y.2≠.cell
 lx:scope.names.lookup x=some .local
 ld:scope.names.lookup d=some .free
 ne:(x==d)=false
 dx:(x==("__debug__" : Str))=false
 dd:(d==("__debug__" : Str))=false
 dc:(d==("__classdict__" : Str))=false
 bd:∀(qual:Str) (body:Expr) (cl:List (Str×Addr)) (pm y6 ct v:Value),acA (kla_fn "<lambda>" qual params body scope cl pm y6 ct) ⟨[v],[]⟩=pure [(x,v)]
variable{X:Cx}{pins:List (Addr×Obj)}{σ:St}{H:Hp}{z:Shared}{B:Around}
variable{scope:Scope}{qual:Str}{pm:Value}{t:Tok}{gE:List (Key×V)}
def jT{c' cell dd:Addr}{x d nm:Str}{params:Arguments}{p1 p2 p3:Pos}{Hj:Value}(S:Bk x d params scope)(I:Inv X pins σ H z)(Mq:B.depth<recursionLimit)
  (ho:z.heap.get? q=some (kla_obj "<lambda>" qual params (.Subscript (.Name d p1) (.Name x p2) p3) scope [(d,cell)] pm c' Hj)) (Cr:z.heap.CodeRec (.ref c') qual) (JO:z.heap.NoLimit) (An:z.heap.IsCell cell (some (.ref dd)))
  (hD:H dd=some (.dK gE)) (hv:Az gE (aas nm)=some (.ref a)) :
  wpAny (model X.prog X.w) B (call (.ref q) [.str nm t]) (λv z'=>v=.ref a/\∃h' Ot,z'={z with heap:=h',toks:=Ot}/\∀b o,z.heap.get? b=some o->h'.get? b=some o) (λ_ _=>False) z:=by
 refine wpAny_call (kla_callFunE Mq ho rfl S.co S.gen rfl Cr ?_);rw[S.bd];refine aal (adw S.nc (λy hy=>by rw[adL]at hy;subst hy;exact S.lx) (λh1 FV Sz=>?_) S.kind);have kk:∀b o,z.heap.get? b=some o->h1.get? b=some o:=λb o g=>(Sz.2 b (aay (aai g))).trans (aad _ g);refine⟨JO.keeps kk,kla_codeExpr ?_⟩;have I1:Inv X pins σ H {z with heap:=h1,toks:=z.toks+1}:=I.kept kk;obtain⟨z1,z2,vs,rel,dD⟩:=kL I1.yL hD;obtain⟨u,hu,ru⟩:=Ct.some_of (by rw[<- hv];exact rel.val _);cases ru;have JU:h1.IsCell cell (some (.ref dd)):=by
  obtain⟨o,e,r⟩:=An;exact⟨o,kk _ _ e,r⟩
 refine Subscript_ ?_;refine adS (wpAny_loadName_free S.kind S.ld (show adB d [(d,cell)]=some cell by simp) JU ?_ S.dc) S.dd;refine adS (wpAny_loadName_local S.kind S.lx FV (show adB x _=some (adH nm t)by simp) ?_) S.dx;refine tail_any dD.typeIs PySem.F.slot_dict_getitem.lookup (wpAny_getItem_of (eZ (k:=aas nm) (⟨t,rfl⟩)) dD.mapOf hu ?_) rfl;exact⟨rfl,h1,_,rfl,kk⟩
def Bz(f:Addr)(ob:Obj):HO:=.ext λh=>h.get? f=some ob
def rT{P:aaA}(e:h.get? a=some ob):zr P w H h a (Bz a ob):=⟨e,⟨_,e⟩,λh1 h2 x k=>k _ x⟩
def wq{P:aaA}{lq:Str}(e:h.CodeRec (.ref a) lq):zr P w H h a (zZ a lq):=by
 refine⟨e,?_,λh1 h2 x k=>?_⟩
 .obtain⟨c,oc,vs,tq,hc,KA,r⟩:=e;cases hc;exact⟨_,KA⟩
 .obtain⟨c,oc,vs,tq,hc,KA,r⟩:=x;cases hc;exact⟨_,oc,vs,tq,rfl,k _ KA,r⟩
structure Cj(X:Cx)(lq d:Str)(params:Arguments)(body:Expr)(scope:Scope)(c':Addr)(ob:Obj):Prop where
 ex:∃cell Hj,X.env.cells.lookup d=some cell/\ob=kla_obj "<lambda>" lq params body scope [(d,cell)] ((X.mg "__name__").getD .none) c' Hj
def DY(X:Cx)(lq d:Str)(yH:Pos)(P:Addr)(params:Arguments)(body:Expr)(scope:Scope):TE:=λ_ H Q=>∃ps:Array Value,H P=some (Ai P ps)/\TriplesOk ps.toList /\
 ((ace yH ps.toList=none/\∀c' f ob,H c'=none->H f=none->c'≠f->c'≠P->f≠P->Cj X lq d params body scope c' ob->Q (.ref f) (upd (upd (upd H P (Ai P (ps++#[rawInt yH.line,rawInt yH.col,.ref c']))) c' (zZ c' lq)) f (Bz f ob))) \/
  (∃c',ace yH ps.toList=some (.ref c')/\H c'=some (zZ c' lq)/\∀f ob,H f=none->Cj X lq d params body scope c' ob->Q (.ref f) (upd H f (Bz f ob))))
structure BMain(mg:Str->Option Value)(h:Heap):Prop where
 ex:∃bm o,mg "__builtins__" = some (.ref bm)/\bm≠adU/\h.get? bm=some o/\o.cls=.type "module" /\ o.dict=some adU/\o.data=.plain
structure Bl(d:Str)(params:Arguments)(scope:Scope):Prop where
 df:∀env,defaultsOf params env=([],[])
 cl:∀(env:Env) (cell:Addr),env.cells.lookup d=some cell->adu scope env=pure [(d,cell)]
variable{lq d:Str}{yH:Pos}{P c:Addr}{params:Arguments}{body:Expr}
def nH(S:Bl d params scope)(hq:X.env.qual ++ "<lambda>" = lq)(Aw:X.env.code=.ref c)(hC:aaN X.K c P=true)(hB:BMain X.mg X.base)(hd:X.env.kindOf d=some .cell):PE X (.Lambda params body scope yH) (DY X lq d yH P params body scope):=by
 intro pins s σ H Q I h;obtain⟨ps,eP,ht,h⟩:=h;obtain⟨cell,An⟩:=I.ok.has d (.inl hd);have hP  := (I.yL P _ eP).1;have hg:s.heap.Ns aaJ X.mg:=I.mod.glob.keeps I.bk;have C:CodeHd s.heap c P:=PySem.W.codeHd_of_K I.C6 hC;have S5:aaJ≠P:=λe=>by
  obtain⟨o,es,ep,g1,g2,_⟩:=hg;rw[e,hP]at g1;cases g1;cases g2
 have hb:s.heap.BuiltinsAt X.mg P:=by
  obtain⟨bm,o,b1,b2,b3,b4,b5,b6⟩:=hB.ex;refine⟨bm,o,b1,b2,λe=>?_,λe=>?_,I.bk _ _ b3,b4,b5,b6⟩
  .obtain⟨o',es,ep,g1,g2,_⟩:=hg;rw[<- e,I.bk _ _ b3]at g1;cases g1;rw[b6]at g2;cases g2
  .have:=I.bk _ _ b3;rw[e,hP]at this;cases this;cases b4
 refine kla_eval (S.df _) ?_;rw[hq];rcases h with ⟨SJ,h⟩|⟨c',hf,Dk,h⟩
 .refine kla_makeFunction (mg:=X.mg) (S.cl _ _ An) I.ok.glob hg Aw C hP ht SJ S5 hb λc' Hj h' tk hx HQ zR Pq Mn=>?_;have IF:H c'=none:=I.yL.fresh HQ;have nP:∀b,H b=none->b≠P:=λb n z=>by simp_all
  have nc:∀b o,s.heap.get? b=some o->b≠c':=λb o g=>aay (aax (aai g) HQ);have Se:c'≠P:=λz=>by simp_all
  have un:Un X.fs [] H (upd (upd H P (Ai P (ps++#[rawInt yH.line,rawInt yH.col,.ref c']))) c' (zZ c' lq)) s.heap h':=by
   refine⟨λb o q n _ _=>hx b o (nP b n) q,λb o q n _ _=>⟨o.slots,hx b o (nP b n) q⟩,λb o q n _=>?_,λb o q _=>?_,λb xs q=>?_,λb o u q=>?_,λb qs q=>?_⟩
   .rw[ae (nc b o q),ae (nP b n)];exact n
   .by_cases z:b=P
    .subst z;exact⟨_,Mn⟩
    .exact⟨o,hx b o z q⟩
   .rw[ae (au q IF),ae (λz=>by rw[z,eP]at q;cases q)];exact q
   .rw[ae (au q IF),ae (λz=>by rw[z,eP]at q;cases q)];exact q
   .rw[ae (au q IF),ae (λz=>by rw[z,eP]at q;cases q),q];simp
  have yL:Bc X.prog X.w (upd (upd H P (Ai P (ps++#[rawInt yH.line,rawInt yH.col,.ref c']))) c' (zZ c' lq)) h':=λb u q=>by
   by_cases z:b=c'
   .subst z;rw[aj]at q;cases q;exact wq Pq
   .rw[ae z]at q;by_cases z2:b=P
    .subst z2;rw[aj]at q;cases q;exact m4 Mn
    .rw[ae z2]at q;refine(I.yL b u q).Co (λe o he g=>hx e o (λy=>?_) g) (λe he=>?_) λe xs he=>?_
     .subst y;rcases he with y|y
      .exact z2 y.symm
      .rw[eP]at y;cases y
     .rw[ae (au he IF),ae (λy=>by rw[y,eP]at he;cases he)];exact he
     .rw[ae (au he IF),ae (λy=>by rw[y,eP]at he;cases he)];exact he
  have I1:Inv X pins σ _ {s with heap:=h',toks:=tk}:=I.un un yL;have Rh:=I1.yL.fresh (a:=h'.objs.size) (aak _);have fc:h'.objs.size≠c':=ab3 zR;have fP:h'.objs.size≠P:=ab3 (aai Mn);have NI:H h'.objs.size=none:=by rw[ae fc,ae fP]at Rh;exact Rh
  refine⟨.ref h'.objs.size,_,I1.laid (t':=tk) (a:=h'.objs.size) (λb u g=>aad _ g) (aak _) (rT (aan _ rfl)),rfl,h c' _ _ IF NI (abm fc) Se fP ⟨cell,Hj,An,rfl⟩⟩
 .refine kla_makeFunctionHit (mg:=X.mg) (S.cl _ _ An) I.ok.glob hg Aw C hP ht hf hb λHj h' tk kk hsz=>?_;exact⟨.ref h'.objs.size,_,I.laid (t':=tk) (a:=h'.objs.size) (λb u g=>aad _ (kk b u g)) hsz (rT (aan _ rfl)),rfl,h _ _ (I.yL.fresh hsz) ⟨cell,Hj,An,rfl⟩⟩
structure Ib(ks:List (Int×Str))(n:Nat)(ix:List Nat):Prop where
 len:ix.length=n
 nd:ix.Nodup
 lt:∀i∈ix,i<n
 up:ix.Pairwise λi j=>Dh ks i j=true
abbrev k0:Int×Str:=(0,⟨#[]⟩)
def Gk(X:Cx)(lq d:Str)(yH:Pos)(P:Addr)(params:Arguments)(body:Expr)(scope:Scope)(i:Nat)(σ:St)(Q:VK):VK:=λv H1=>∃(l:Addr) (ss:List Str) (dd:Addr) (gE:List (Key×V)) (ad:List Addr) (ks:List (Int×Str)),
 v=.ref l/\AF X.K H1 l (ss.map V.str)/\ss.length<64/\σ[i]?=some (some (.ref dd))/\H1 dd=some (.dK gE)/\ad.length=ss.length/\ks.length=ss.length/\(ks.map (·.2)).Nodup /\
 (∀j,j<ss.length->Az gE (aas (ss.getD j ⟨#[]⟩))=some (.ref (ad.getD j 0))/\AF X.K H1 (ad.getD j 0) [.int (ks.getD j k0).1,.str (ks.getD j k0).2]) /\
 DY X lq d yH P params body scope σ H1 λ_ H2=>∀D ix,H2 D=none->Ib ks ss.length ix->Q (.ref D) (upd H2 D (.lst (ix.map λj=>V.str (ss.getD j ⟨#[]⟩))))
def I0(X:Cx)(lq d:Str)(yH:Pos)(P:Addr)(params:Arguments)(body:Expr)(scope:Scope)(i:Nat)(te:TE):TE:=λσ H Q=>te σ H (Gk X lq d yH P params body scope i σ Q)
variable{K:aaf}{xs:List V}{ps:Array Value}
def dM{H2:Hp}(eP:H P=some (Ai P ps))(k:∀b o,H b=some o->b≠P->H2 b=some o)(h:AF K H a xs):AF K H2 a xs:=by
 rcases h with (h|⟨o,h⟩)|h
 .exact .inl (.inl (k a _ h λz=>by rw[z,eP]at h;cases h))
 .exact .inl (.inr ⟨o,k a _ h λz=>by rw[z,eP]at h;cases h⟩)
 .exact .inr h
variable{x:Str}{p p1 p2 p3 AN pos:Pos}{e:Expr}{te:TE}{k:Nat}
variable{nE:List Value}
def lw{m:Int}{s:Str}(rv:yz [.int m,.str s] nE)(t:IsTup h a nE.toArray):y3 h a (m,s):=by
 obtain⟨o,g1,g2,n,g3⟩:=t;cases rv with
 |cons r1 r2=>
  cases r2 with
  |cons r2 r3=>
   cases r3;obtain⟨t,rfl⟩:=r1;obtain⟨u,rfl⟩:=r2;exact⟨o,n,t,u,g1,g2,g3⟩
theorem tw(S:Bk x d params scope)(S2:Bl d params scope)(hr:y9 k X.A)(hg:Gl X "sorted")(hm:X.mg "sorted" = none)(hq:X.env.qual ++ "<lambda>" = lq)(Aw:X.env.code=.ref c)(hC:aaN X.K c P=true)(hB:BMain X.mg X.base)
  (hi:X.N[i]?=some d) (hd:X.env.kindOf d=some .cell) (hv:Cy X.env.scope d) (he:PE X e te)
  (hs:aag [e] X.env=(false,eval e X.env)::aag [] X.env:=by rfl)
  (h1:backTo pos (aag [e] X.env)=(false,eval e X.env)::backTo pos (aag [] X.env):=by rfl) (h2:(backTo pos (aag [e] X.env)).any (·.1)=false:=by rfl) :
  PE X (.Call (.Name "sorted" p) [e] [⟨some "key",.Lambda params (.Subscript (.Name d p1) (.Name x p2) p3) scope yH,AN⟩] pos) (I0 X lq d yH P params (.Subscript (.Name d p1) (.Name x p2) p3) scope i te):=by
 intro pins s σ H Q I h;refine abJ (er I hg hm boot_sorted ?_);refine callWith_kw (zk ((aY he be hs) pos pins s σ H (λvs H1=>match vs with|[v]=>Gk X lq d yH P params (.Subscript (.Name d p1) (.Name x p2) p3) scope i σ Q v H1|_=>False) I h) λus s1 ⟨vs,H1,I1,r1,q1⟩=>?_) h1 h2;dsimp only at q1;split at q1;case h_2=>exact q1.elim
 obtain⟨l,ss,dd,gE,ad,ks,rfl,hl,Bi,hσ,DA,l1,l2,nd,hk,hL⟩:=q1;obtain⟨u,rfl,ru⟩:=r1.one;cases ru;obtain⟨ps,eP,hL⟩:=hL;have MP:dd≠P:=λz=>by rw[z,eP]at DA;cases DA
 have lam:DY X lq d yH P params (.Subscript (.Name d p1) (.Name x p2) p3) scope σ H1 λfv H2=>∃f c' ob,fv=.ref f/\H2 f=some (Bz f ob)/\Cj X lq d params (.Subscript (.Name d p1) (.Name x p2) p3) scope c' ob/\H2 c'=some (zZ c' lq)/\(∀b o,H1 b=some o->b≠P->H2 b=some o) /\
   ∀D ix,H2 D=none->Ib ks ss.length ix->Q (.ref D) (upd H2 D (.lst (ix.map λj=>V.str (ss.getD j ⟨#[]⟩)))):=by
  refine⟨ps,eP,hL.1,?_⟩;rcases hL.2 with ⟨g1,g2⟩|⟨c',g1,g2,g3⟩
  .refine .inl ⟨g1,λc' f ob a1 a2 a3 a4 a5 a6=>⟨f,c',ob,rfl,aj,a6,?_,λb o hb hP=>?_,g2 c' f ob a1 a2 a3 a4 a5 a6⟩⟩
   .rw[ae a3,aj]
   .rw[ae (au hb a2),ae (au hb a1),ae hP];exact hb
  .refine .inr ⟨c',g1,g2,λf ob a1 a2=>⟨f,c',ob,rfl,aj,a2,?_,λb o hb _=>?_,g3 f ob a1 a2⟩⟩
   .rw[ae (au g2 a1)];exact g2
   .rw[ae (au hb a1)];exact hb
 refine zk ((fG (nH S2 hq Aw hC hB hd) nA) pos pins s1 σ H1 (λvs H2=>match vs with|[fv]=>∃f c' ob,fv=.ref f/\H2 f=some (Bz f ob)/\Cj X lq d params (.Subscript (.Name d p1) (.Name x p2) p3) scope c' ob/\H2 c'=some (zZ c' lq)/\(∀b o,H1 b=some o->b≠P->H2 b=some o) /\
   (∀D ix,H2 D=none->Ib ks ss.length ix->Q (.ref D) (upd H2 D (.lst (ix.map λj=>V.str (ss.getD j ⟨#[]⟩)))))|_=>False) I1 lam) λws s2 ⟨zs,H2,I2,rz,q2⟩=>?_
 dsimp only at q2;split at q2;case h_2=>exact q2.elim
 obtain⟨f,c',ob,rfl,ef,⟨cell,Hj,An,rfl⟩,ec,keep,hQ⟩:=q2;obtain⟨u,rfl,ru⟩:=rz.one;cases ru;show wpAny _ _ (call (.builtin "sorted") [.ref l] [(aaG "key",.ref f)]) _ _ _;obtain⟨nE,rv,⟨o,g1,g2,n0,g3⟩,hz⟩:=I2.tuple (dM eP keep hl);have hlen:nE.length=ss.length:=by have:=rv.length;rw[aae]at this;exact this.symm
 have JB:∀j,j<ss.length->∃t,nE.getD j aa5=.str (ss.getD j ⟨#[]⟩) t:=λj hj=>by
  obtain⟨u,hu,ru⟩:=rv.get (i:=j) (show (ss.map V.str)[j]?=some (.str (ss.getD j ⟨#[]⟩))by rw[aah,aaa hj,aac,aaa hj];rfl);obtain⟨t,rfl⟩:=ru;exact⟨t,by rw[aac,hu];rfl⟩
 have cellAt:s2.heap.IsCell cell (some (.ref dd)):=by
  obtain⟨m,_,GI⟩:=I2.loc;obtain⟨u,ru,lk⟩:=GI i d _ hi hσ hv;cases ru;rcases lk with ⟨y,_⟩|⟨_,c2,y1,y2⟩
  .rw[hd]at y;cases y
  .rw[An]at y1;cases y1;exact y2
 have lim:s2.heap.NoLimit:=I2.mod.nolimit.keeps I2.bk;refine rU (vs:=nE) (ad:=ad) (ks:=ks) g1 g2 g3 (by omega) (by omega) (by omega) nd (λj hj=>?_) (λj hj h tk kk=>?_) λD UM h' tk cc ix k1 k2 i1 i2 i3 i4 i5 i6=>?_
 .obtain⟨Aa,Lu,Ld,_⟩:=I2.tuple (dM eP keep (hk j (by omega)).2);exact lw Lu Ld
 .obtain⟨t,et⟩:=JB j (by omega);rw[et];have D7:∀b o,s2.heap.get? b=some o->h.get? b=some o:=λb o g=>kk b o trivial g;have I3:Inv X pins σ H2 {s2 with heap:=h,toks:=tk}:=I2.kept D7;refine jT (z:={s2 with heap:=h,toks:=tk}) S I3 ?_ (D7 _ _ (I2.yL f _ ef).1) ?_ (lim.keeps D7) ?_ (keep _ _ DA MP) (hk j (by omega)).1
  .have:=hr.dp;show X.A.depth<recursionLimit;omega
  .exact(I2.yL c' _ ec).2.2 _ _ (I2.yL c' _ ec).1 λo g=>D7 _ _ g
  .obtain⟨o,y,r⟩:=cellAt;exact⟨o,D7 _ _ y,r⟩
 .have KJ:s2.heap.get? D=none:=by
   cases y:s2.heap.get? D with
   |none=>rfl
   |some o=>exact absurd (aax (aai (k1 D o y)) k2) (abg _)
  have J:Inv X pins σ H2 {s2 with heap:=s2.heap,toks:=tk}:=I2.kept λ_ _ g=>g;obtain⟨m,hm,_⟩:=I2.loc;have zR:∀y∈ix,y<ss.length:=λy hy=>by have:=i3 y hy;omega
  have pick:=rv.pick ix λy hy=>by rw[aae];exact zR y hy
  have ep:(ix.map λy=>(ss.map V.str).getD y V.yB)=ix.map λj=>V.str (ss.getD j ⟨#[]⟩):=aaY λy hy=>by simp_all
  rw[ep]at pick;refine⟨.ref D,_,J.Iy (xs:=ix.map λj=>V.str (ss.getD j ⟨#[]⟩)) hm (hm.keeps i6) (λb o _ g=>i6 b o g) KJ ⟨?_,ix.map λy=>nE.getD y aa5,cc,pick,i5⟩,rfl,hQ D ix (I2.yL.dead KJ) ⟨by omega,i2,zR,i4⟩⟩;rw[aae,i1,aaB];omega
open PySem PySem.Spec PyProof.Rows
variable{P:aaA}{w:World}{K:aaf}{mg:Str->Option Value}{base:Heap}
variable{x qual:Str}{st:Stmt}{f:Addr}{fd:abl}{N ps:List Str}{k:Nat}{sp:Sp}
def Fp.R9(F:Fp K x qual st f fd)(S:av N ps (ap st))(len:∀vs H Q E,sp vs H Q E->vs.length=ps.length)
  (Ea:∀(y6:Value),fd.code=y6->∀(A:Around) (outer:List Env) (s:Shared) (H:Hp) (vs:List V) (Q:VK) (E:XK),y9 k (A.deeper (envOfC qual (ap st) s.heap.objs.size f y6))->sp vs H Q E ->
   ∃t,E4 (CS zB P w K mg base N qual (ap st) f y6 A outer s H E).G8 (bp st) t/\t {nx:=λ_ H'=>Q .yB H',rt:=Q} (start N vs) H):yG P w K mg base zB (k+1) f fd ps sp:=by
 obtain⟨oc,od,kV,doc,pm,an,y6,ct,HC,rfl,lk,Cr⟩:=F.ex;refine uD lk Cr S len λA outer s H vs Q E hr Ha=>?_;obtain⟨t,h,q⟩:=Ea y6 rfl A outer s H vs Q E hr Ha;exact⟨t,h.G8,q⟩
variable{X:Cx}{pins:List (Addr×Obj)}{σ:St}{H:Hp}{s:Shared}{n:Nat}{v:V}
def Inv.hide(I:Inv X pins σ H s){nm:Str}(hN:X.N[n]?=some nm)(hv:¬ Cy X.env.scope nm):Inv X pins (σ.set n (some v)) H s:=by
 refine⟨I.ok,I.os,I.bare,I.base,?_,I.cell,I.free,I.AS,I.pin,I.yL,by rw[aer];exact I.len⟩;obtain⟨m,hn,hl⟩:=I.loc;refine⟨m,hn,λi x u e1 e2 e3=>?_⟩;by_cases z:n=i
 .subst z;rw[hN]at e1;cases e1;exact absurd e3 hv
 .rw[aav z]at e2;exact hl i x u e1 e2 e3
end L2
namespace Q
open PySem L2 PyProof.Rows
def Es(n:Nat)(c:PV)(xs:List PV):En:=Aj n xs++[some ⟨2,c⟩]
def Nq(n:Nat)(P:PV->Prop)(e:En):Prop:=match e[n]? with
 |some (some ⟨2,c⟩)=>P c
 |_=>False
def CN(n:Nat)(P:PV->PV->Prop):Wd:={nx:=λe=>Nq n (P .yB) e,rt:=λx e=>Nq n (P x) e}
def zF(n:Nat)(u:WS):BL:=λc xs P=>u (CN n P) (Es n c xs)
def spT(M:Md)(n:Nat)(D:BL):Sp:=λvs H Q _=>∃(F:Hp) (a:Addr) (l:List Addr) (c:PV) (xs:List PV) (P:PV->PV->Prop),eQ F H/\yA M.K F vs xs/\xs.length=n /\
 M.ob.P F H a l c/\(∀b∈l,H b≠none/\F b=none)/\D c xs P /\
 ∀r c' v F' H' l',P r c'->(∀b o,H b=some o->b∉l->H' b=some o)->(∀b,H b≠none->H' b≠none)->eQ F F'->eQ F' H'->(∀a,F' a≠none->F a≠none\/H a=none)->M.ob.P F' H' a l' c'->(∀b∈l',H' b≠none/\F' b=none)->(∀b∈l',b∈l\/H b=none)->Rep M.K F' v r->Q v H'
variable{M:Md}{F H:Hp}{N:List Str}{ws:List V}{xs:List PV}{a:Addr}{l:List Addr}{c:PV}{n:Nat}
theorem qi(sF:eQ F H)(r:yA M.K F ws xs)(hN:N.length=n+1)(hl:xs.length<=n)(ho:M.ob.P F H a l c)(hb:∀b∈l,H b≠none/\F b=none):
  yx M ⟨H,F,l,λi=>if i=n then some a else none,λb h=>(hb b h).1⟩ F ((start N ws).set n (some (.ref a))) H (Es n c xs):=by
 have FX:ws.length<=n:=by rw[r.len];exact hl
 have hs:(start N ws).length=n+1:=by rw[gW (by omega),hN]
 have he  := gu hl;refine⟨sF,λb o h _=>h,λb h=>h,ak,λa h=>.inl h,?_,λi=>if i=n then l else [],λi s h=>?_,λi b h=>?_,λi j b Cc h z=>?_,λi b s h _ _=>?_⟩
 .unfold Es;rw[aa3,he,aer,hs];rfl
 .rcases adZ i n with z|z|z
  .unfold Es at h;rw[aat (by omega)]at h;obtain⟨x,hx,rfl⟩:=gv h;obtain⟨v,hv,rv⟩:=r.get hx;refine⟨v,?_,.inl ⟨rfl,if_neg (by omega),rv⟩⟩;rw[aav (by omega)];exact dm hv
  .subst z;unfold Es at h;rw[acP (by omega),he]at h;have h:s=⟨2,c⟩:=by simp_all
   subst h;refine⟨.ref a,?_,.inr (.inr (.inl ⟨.inl rfl,a,rfl,λc hc=>.inl (by simp_all),by simp_all⟩))⟩;rw[abZ (by omega)]
  .unfold Es at h;rw[aap (by simp;omega)]at h;cases h
 .split at h
  .exact hb b h
  .simp at h
 .split at h
  .split at z
   .rename_i h1 h2;exact Cc (h1.trans h2.symm)
   .simp at z
  .simp at h
 .dsimp only at h;split at h
  .rename_i e;subst e;cases h;rw[abZ (by omega)]
  .cases h
variable{P:aaA}{w:World}{K:aaf}{mg:Str->Option Value}{base:Heap}{ob:zP}
variable{x qual:Str}{st:Stmt}{f:Addr}{fd:abl}{ps:List Str}{k:Nat}{u:WS}
def cj{nm:Str}(F:Fp K x qual st f fd)(S:av N ps (ap st))(hN:N.length=n+1)(hn:ps.length<=n)(Pw:N[n]?=some nm)(hv:¬ Cy (ap st) nm)
  (hb:∀(y6:Value),fd.code=y6->∀(A:Around) (outer:List Env) (s:Shared) (H:Hp) (E:XK),y9 k (A.deeper (envOfC qual (ap st) s.heap.objs.size f y6))->B6 ob (CS zB P w K mg base N qual (ap st) f y6 A outer s H E).G8 (bp st) u) :
  yG P w K mg base zB (k+1) f fd ps (spT ⟨P,w,K,ob⟩ ps.length (zF n u)):=by
 refine F.R9 S (λvs H Q E h=>?_) (λy6 BB A outer s H vs Q E hr h=>?_)
 .obtain⟨F,a,l,c,xs,P,_,r,hl,_⟩:=h;rw[r.len];exact hl
 .obtain⟨F,a,l,c,xs,P',sF,r,hl,ho,Hf,hD,kk⟩:=h;obtain⟨t,ht,kt⟩:=(hb y6 BB A outer s H E hr).ex;have fin:∀(x:PV) (env:En) (v:V) (σ:L2.St) (F' H':Hp),Nq n _ env->eQ F F'->yx _ ⟨H,F,l,λi=>if i=n then some a else none,λb h=>(Hf b h).1⟩ F' σ H' env->Rep K F' v x->Q v H':=λx env v σ F' H' p s1 K1 rv=>by
   unfold Nq at p;split at p
   .rename_i c' e;obtain⟨fp,L⟩:=K1.sl;obtain⟨v0,DR,ok⟩:=L.at' n _ e;have hσ:=L.oa n a _ (if_pos rfl) e rfl;rw[hσ]at DR;cases DR;rcases ok with ⟨k0,_⟩|⟨k0,_⟩|⟨_,a',e',h1,h2⟩|⟨k0,_⟩
    .cases k0
    .cases k0
    .cases e';exact kk x _ v F' H' _ p (λb o h1 h2=>K1.sG b o h1 h2) (λb h=>K1.pr b h) s1 K1.sF K1.nw h2 (λb hb=>L.al n b hb) (λb hb=>h1 b hb) rv
    .cases k0
   .exact p.elim
  refine⟨_,λpins s' σ H' D I q=>ht pins s' _ H' D (I.hide Pw hv) q,kt _ F _ H _ _ _ (qi sF r hN (by omega) ho Hf) hD ⟨λenv σ F' H' p s1 K1=>?_,λx env v σ F' H' p s1 K1 rv=>?_,λ_ _ _ _ p=>p.elim,λ_ _ _ _ p=>p.elim,λ_ _ _ _ _ _ p=>p.elim,λ_ _ _ _ _ _ _ p=>p.elim⟩⟩
  .exact fin .yB env .yB σ F' H' p s1 K1 .yB
  .exact fin x env v σ F' H' p s1 K1 rv
variable{Bg:Addr}{D:BL}
def bX{D':BL}(F:yG P w K mg base zB k Bg fd ps (spT ⟨P,w,K,ob⟩ n D))(h:∀c xs P,D' c xs P->D c xs P):yG P w K mg base zB k Bg fd ps (spT ⟨P,w,K,ob⟩ n D') :=
 F.imp λvs H Q E q=>by
  obtain⟨F,a,l,c,xs,P,a1,a2,a3,a4,a5,a6,a7⟩:=q;exact⟨F,a,l,c,xs,P,a1,a2,a3,a4,a5,h _ _ _ a6,a7⟩
def yI(D:BL)(j:Nat)(fa:WA):WE:=λenv P=>fa env λxs e=>match e[j]? with
 |some (some ⟨2,c⟩)=>D c xs λr c'=>P r (e.set j (some ⟨2,c'⟩))
 |some (some ⟨4,c⟩)=>D c xs λr c'=>P r (e.set j (some ⟨4,c'⟩))
 |_=>False
variable{X:Cx}{DO:BL}{p pos:Pos}{e:Expr}{es:List Expr}{fa:WA}
theorem ug(j:Nat)(F:yG X.prog X.w X.K X.mg X.base zB k Bg fd ps (spT (md ob X) n DO))(hr:y9 k X.A)(hm:X.mg x=some (.ref Bg))(hk:abx X.K (.ref Bg)=true)(hb:Binds X.K fd ps [])(ha:Ex ob X (e::es) fa)(hn:es.length+1=n:=by rfl)(hg:Gl X x:=by rfl)
  (BY:(x==("__debug__" : Str))=false:=by decide) (he:aag (e::es) X.env=(false,eval e X.env)::aag es X.env:=by rfl) (AQ:(backTo pos (aag es X.env)).any (·.1)=false:=by rfl) :
  yW ob X (.Call (.Name x p) (e::es) [] pos) (yI DO j fa):=by
 obtain⟨t,ht,kt⟩:=ha.ex;refine⟨_,iG F hr hg hm hk hb .nil D3 ht BY he AQ,λZ F σ H env P Q K hf kk=>?_⟩;refine kt Z F σ H env _ _ K hf λxs e1 vs F1 H1 p hl s1 K1 r1=>?_;rw[abO];have fin:∀(kd:Nat) (c:PV),kd=2\/kd=4->e1[j]?=some (some ⟨kd,c⟩)->DO c xs _->spT _ n DO vs H1 Q E0:=λkd c HP ei p=>by
  obtain⟨fp,L⟩:=K1.sl;obtain⟨v0,DR,ok⟩:=L.at' j _ ei;rcases ok with ⟨k0,_⟩|⟨k0,_⟩|⟨_,a,rfl,_,ho⟩|⟨k0,_⟩
  .rcases HP with rfl|rfl<;>cases k0
  .rcases HP with rfl|rfl<;>cases k0
  .refine⟨F1,a,fp j,c,xs,_,K1.sF,r1,by simp_all,ho,λb hb=>L.al j b hb,p,λr c' v F' H' l' pr kp pre sF Hy nw Cb FX HL rv=>?_⟩;exact kk r _ v F' H' pr (ah s1 sF) (K1.HE HP L ei DR kp pre sF Hy nw Cb FX HL).1 rv
  .rcases HP with rfl|rfl<;>cases k0
 split at p
 .rename_i ei;exact fin _ _ (.inl rfl) ei p
 .rename_i ei;exact fin _ _ (.inr rfl) ei p
 .exact p.elim
open PySem L2 PyProof.Rows PySem.W
variable{p:Pos}
def jt{q:Pos}(h1:p.line=q.line)(h2:p.col=q.col)(l:List Value):ace p l=ace q l:=by
 fun_induction ace p l with
 |case1 line t col u c rest h=>rw[ace,<- h1,<- h2,if_pos h]
 |case2 line t col u c rest h ih=>rw[ace,<- h1,<- h2,if_neg h];exact ih
 |case3 l h=> 
  unfold ace;split
  .exact absurd rfl (h _ _ _ _ _ _)
  .rfl
variable{α:Type}{j:Nat}
theorem sW{l:List α}{y:α}(h:l[j]?=some y):l.set j y=l:=by
 apply acz;intro i;by_cases z:j=i
 .subst z;rw[abZ (List.getElem?_eq_some_iff.mp h).1,h]
 .rw[aav z]
variable{lq:Str}{ln co:Nat}{a:Addr}
def ph{O1:Str}{QV RD:Nat}{b:Addr}(h:zm lq ln co a=zm O1 QV RD b):lq=O1/\ln=QV/\co=RD/\a=b:=by
 injection h with h;injection h with h1 h;injection h with h2 h;injection h with h3 h;injection h with h4 _;injection h1 with h1;injection h2 with h2;injection h3 with h3;injection h4 with h4;exact⟨h1,by omega,by omega,Int.ofNat.inj h4⟩
variable{X:Cx}{d x:Str}{yH p1 p2 p3 AN pos:Pos}{T c:Addr}{params:Arguments}{scope:Scope}{e:Expr}{f:WE}{i k:Nat}{ob:zP}
end Q
namespace L2
open PySem PySem.Spec PyProof.Rows
end L2
namespace Q
open PySem L2 PyProof.Rows
end Q
namespace L2
open PySem PySem.Spec PyProof.Rows
variable{X:Cx}{pins:List (Addr×Obj)}{σ:St}{H:Hp}{s:Shared}{gE:List (Key×V)}{o:Obj}
def Inv.Jh{d:Addr}(I:Inv X pins σ H s)(e:H d=some (.dK gE))(ho:s.heap.get? d=some o):Inv X pins σ (upd H d (.Bf o (.dK gE))) s:=by
 have un:Un X.fs [] H (upd H d (.Bf o (.dK gE))) s.heap s.heap:=by
  refine⟨λb u q n _ _=>q,λb u q n _ _=>⟨u.slots,q⟩,λb u q n _=>?_,λb u q _=>⟨u,q⟩,λb xs q=>?_,λb u v q=>?_,λb qs q=>⟨#[],?_⟩⟩
  .rw[ae (λz=>by simp_all)];exact n
  .rw[ae (λz=>by simp_all)];exact q
  .rw[ae (λz=>by simp_all)];exact q
  .rw[ae (λz=>by simp_all),q];simp
 have yL:Bc X.prog X.w (upd H d (.Bf o _)) s.heap:=λb u q=>by
  have st:∀c v,H c=some v->zr X.prog X.w (upd H d (.Bf o (.dK gE))) s.heap c v:=λc v hc=>
   (I.yL c v hc).Co (λ_ _ _ g=>g) (λx hx=>by rw[ae (λz=>by simp_all)];exact hx) λx xs hx=>by rw[ae (λz=>by simp_all)];exact hx
  by_cases z:b=d
  .subst z;rw[aj]at q;cases q;exact⟨ho,st b _ e⟩
  .rw[ae z]at q;exact st b u q
 have:=I.un (t':=s.toks) un yL;exact this
def Qq(d:Addr)(o:Obj)(gE:List (Key×V)):It :=
 ⟨λi H=>H d=some (.Bf o (.dK gE))/\i<gE.length,
  λi H v H'=>∃p k x,v=.ref p/\H p=none/\H'=upd H p (.tup [kV k,x])/\gE[i]?=some (k,x),
  λi H=>H d=some (.Bf o (.dK gE))/\gE.length<=i⟩
variable{vs:List (Key×Value)}
def xu(r:KV gE vs):∀{i:Nat} {k:Key} {x:V},gE[i]?=some (k,x)->∃u,vs[i]?=some (k,u)/\RelV x u:=by
 induction r with
 |nil=>intro i k x e;simp at e
 |@cons p q ps qs h t ih=>
  intro i k x e;cases i with
  |zero=>
   simp only[abt,adW]at e;subst e;obtain⟨k',u⟩:=q;obtain⟨h1,h2⟩:=h;subst h1;exact⟨u,rfl,h2⟩
  |succ i=>
   exact ih e
variable{P:aaA}{w:World}{K:aaf}{pos:Pos}{it:Addr}
def qe{elts:List Expr}{x1:_}{d:Addr}{es:Array DictEntry}{ep:Nat}(r:KV gE vs)(hx:o.ExactDict)(GN:o.data=.dict es ep)(hk:KeysOf (aH P w) es)(hp:Pairs (aH P w) es.toList vs)(hn:(vs.map (·.1)).Nodup):
  Turn P w K (.Tuple elts x1 pos) (Qq d o gE) [it] it (λn h=>∃a b,IsItemIter h it d n vs.length ep a b) where
 mem:=by simp
 obj:=λn h ⟨a,b,Z⟩ c hc=>by simp_all
 keep:=λn h h' ⟨a,b,Z⟩ k=>⟨a,b,k it (by simp) _ Z⟩
 item:=by
  intro X hP hw hK hc n pins s σ H E I hf Z hg;subst hP hw hK;obtain⟨ka,kb,Z⟩:=Z;obtain⟨hd,zR⟩:=hg;have ho:s.heap.get? d=some o:=(I.yL d _ hd).1;have D:s.heap.DictAt (aH X.prog X.w) d vs ep:=⟨o,es,ho,hx,GN,hk,hp,hn⟩
  obtain⟨⟨k,x⟩,Q9⟩:∃q,gE[n]?=some q:=⟨_,aaa zR⟩
  obtain⟨u,hu,ru⟩:=xu r Q9;have Fj:H s.heap.objs.size=none:=I.yL.fresh (aak _);have GK:it<s.heap.objs.size:=aai Z;have SI:s.heap.objs.size≠it:=ab3 GK;refine wpAny_pyNext_items_item Z D hu λkey h' q1 q2 q3 q4 kk=>?_;have rk:RelV (kV k) key:=by
   rcases aV q1 with ⟨i,t,rfl,rfl⟩|⟨y,t,rfl,rfl⟩
   .exact⟨t,rfl⟩
   .exact⟨t,rfl⟩
  refine⟨_,rfl,wpAny_letOwnedTupleGo_items q2 λh2 w1 w2=>?_⟩;have I1:Inv X pins σ (upd H s.heap.objs.size (.tup [kV k,x])) {s with heap:=s.heap.push {cls:=.type "tuple",data:=.seq #[key,u]}} :=
   I.laid (t':=s.toks) (λb u e=>aad _ e) (aak _) ⟨by show 2<=sizeLine;decide,[key,u],.cons rk (.cons ru .nil),⟨_,aan _ rfl,rfl,_,rfl⟩⟩
  have NI:∀c∈[it],BH X pins (upd H s.heap.objs.size (.tup [kV k,x])) c:=λc hc=>by
   rw[List.mem_singleton.mp hc];have:=hf it (by simp);exact⟨by rw[ae (abm SI)];exact this.1,this.2⟩
  have I2  :=by
   refine I1.E7 (t':=s.toks) (h':=h2) (λc q hc e=>?_) NI;have Ri:c≠it:=λe=>hc (by simp[e]);refine w2.extBut _ _ Ri ?_;by_cases JS:c=s.heap.objs.size
   .subst JS;have:(s.heap.push _).get? s.heap.objs.size=some {cls:=.type "tuple",data:=.seq #[key,u]}:=aan _ rfl;have e'  := this.symm.trans e;rw[<- e'];exact q3
   .exact kk c q Ri ((Heap.get?_push_ne _ _ _ JS).symm.trans e)
  exact⟨.ref s.heap.objs.size,_,I2,rfl,⟨_,k,x,rfl,Fj,rfl,Q9⟩,⟨_,_,w1⟩,λc hc=>(NI c hc).1⟩
 done:=by
  intro X hP hw hK hc n pins s σ H E I hf Z hg;subst hP hw hK;obtain⟨ka,kb,Z⟩:=Z;obtain⟨hd,hle⟩:=hg;have ho:s.heap.get? d=some o:=(I.yL d _ hd).1;have D:s.heap.DictAt (aH X.prog X.w) d vs ep:=⟨o,es,ho,hx,GN,hk,hp,hn⟩
  have hl:=r.length;refine wpAny_pyNext_items_end (I.ok.hd hc) Z D (aap (by omega)) λh' kk=>⟨rfl,I.E7 (t':=s.toks) (λc q hc e=>kk c q (λz=>hc (by simp[z])) e) hf⟩
 self:=λ_ _ _ _ _ ⟨_,_,Z⟩ h=>PySem.W.kcp_self Z h
def JE(to:TE):TI:=λσ H R=>to σ H λv H1=>∃d gE,v=.ref d/\H1 d=some (.dK gE)/\∀o,R (Qq d o gE) (upd H1 d (.Bf o (.dK gE)))
def tu{elts:List Expr}{x1:_}{Gh:Pos}{o:Expr}{to:TE}{apos:Pos}(ho:PE X o to)
  (Ao:ab8 o "items" X.env (eval o X.env)=eval o X.env:=by rfl) (Am:(apos.endLine==pos.line)=true:=by rfl) :
  PI X (.Tuple elts x1 Gh) (.Call (.Attribute o "items" apos) [] [] pos) (JE to):=by
 intro pins s σ H R I h;refine wpAny_Call_method0_late Ao Am (zk (ho pins s σ H _ I h) λv s1 ⟨x,H1,I1,r1,q1⟩=>?_);obtain⟨d,gE,ex,hd,q1⟩:=q1;subst ex;cases r1;obtain⟨t1,t2,t3⟩:=xM I1 (.inl ⟨gE,.inl hd⟩);refine⟨"dict", "dict.items",PySem.F.plainAttrs_dict,PySem.F.slot_dict_items,PySem.F.type_dict_items,t1,t2,adg rfl (PySem.evalArgs_none ?_)⟩;obtain⟨hz,_,vs,rel,dd⟩:=kL I1.yL hd;refine call_meetsIn PySem.F.slot_dict_items dd.typeIs PySem.F.entry_dict_items (PySem.F.args_dict_items_1 _) (meets_dict_items (aH X.prog X.w) d t3) ⟨⟨vs,dd⟩,?_⟩;obtain⟨o,es,ep,ho,hx,GN,hk,hp,hn⟩:=dd;have D:s1.heap.DictAt (aH X.prog X.w) d vs ep:=⟨o,es,ho,hx,GN,hk,hp,hn⟩
 refine wpAny_pyIter_items (v:=s1.heap.objs.size) (d:=d) ⟨_,aan _ rfl,rfl,rfl⟩ (D.push _) ?_;have I2:Inv X pins σ H1 {s1 with heap:=(s1.heap.push {cls:=.type "dict_items",data:=.fields #[.ref d]}).push {cls:=.type "dict_itemiterator",data:=.fields #[.none,.bool false,.ref d,.int 0 0,.int vs.length 0,.int ep 0,.none,.none]}} :=
  I1.kept (t':=s1.toks) λb u e=>aad _ (aad _ e)
 have I3:=I2.Jh hd (o:=o) (aad _ (aad _ ho));have hsz:(s1.heap.push {cls:=.type "dict_items",data:=.fields #[.ref d]}).objs.size=s1.heap.objs.size+1:=ach ..;have HQ:s1.heap.objs.size<=(s1.heap.push {cls:=.type "dict_items",data:=.fields #[.ref d]}).objs.size:=by omega
 have Hd:H1 (s1.heap.push {cls:=.type "dict_items",data:=.fields #[.ref d]}).objs.size=none:=I1.yL.fresh HQ;refine⟨_,[_],_,_,_,rfl,I3,qe (it:=(s1.heap.push {cls:=.type "dict_items",data:=.fields #[.ref d]}).objs.size) rel hx GN hk hp hn,⟨_,_,aan _ rfl⟩,λb hb=>?_,q1 o⟩;rw[List.mem_singleton.mp hb];exact I1.FH HQ (by rw[ae (λz=>by rw[z,hd]at Hd;cases Hd)];exact Hd)
end L2
namespace Q
open PySem L2 PyProof.Rows
def kP:Key->PV
 |.inl i=>.int i
 |.inr x=>.str x
def Fg(q:Key×PV):PV:=.tup [kP q.1,q.2]
variable{K:aaf}{F:Hp}
def xE:∀k:Key,Rep K F (kV k) (kP k)
 |.inl i=>.int i
 |.inr x=>.str x
variable{vs:List (Key×V)}{xs:List (Key×PV)}
def yC.get(h:yC K F vs xs):∀{i:Nat} {k:Key} {x:PV},xs[i]?=some (k,x)->∃v,vs[i]?=some (k,v)/\Rep K F v x:=by
 induction h using yC.ind with
 |nil=>intro i k x e;simp at e
 |cons a r ih=>
  intro i k x e;cases i with
  |zero=>
   simp only[abt,adW,Prod.mk.injEq]at e ⊢;obtain⟨rfl,rfl⟩:=e;exact⟨_,⟨rfl,rfl⟩,a⟩
  |succ i=>
   exact ih e
variable{M:Md}
def xL{d:Addr}{o:Obj}(h:F d=some (.Bf o (.dK vs)))(r:yC M.K F vs xs):El M (Qq d o vs) F (xs.map Fg):=by
 refine⟨λZ i σ env F' H x s K e=>?_,λZ i σ env F' H s K hl=>⟨K.sF _ _ (s _ _ h),by rw[r.len];simpa using hl⟩⟩;rw[aah]at e;cases ez:xs[i]? with
 |none=>rw[ez]at e;cases e
 |some q=>
  rw[ez]at e;obtain⟨k,y⟩:=q;have e  := (aaq e).symm;subst e;obtain⟨v,hv,rv⟩:=r.get ez;refine⟨⟨K.sF _ _ (s _ _ h),(List.getElem?_eq_some_iff.mp hv).1⟩,λv' H' y'=>?_⟩;obtain⟨p,k',x',rfl,hp,rfl,q⟩:=y';rw[hv]at q;cases q;have hF  := eQ.none_of K.sF hp;refine⟨_,aA hF,K.lay hp,.tup (.inl (.inl aj)) (.cons (xE k) (.cons ((rv.mono s).mono (aA hF)) .nil)),aA hp,λc hc=>?_⟩;by_cases z:c=p
  .subst z;exact .inr hp
  .rw[ae z]at hc;exact .inl hc
def lN(i:Nat):WA:=λenv P=>match env[i]? with
 |some (some ⟨1,.zh gE⟩)=>P (gE.map Fg) (env.set i none)
 |_=>False
variable{Z:Zn}{H:Hp}{σ:L2.St}{env:En}{i:Nat}
theorem yx.Jh{gE:List (Key×PV)}(K:yx M Z F σ H env)(hi:env[i]?=some (some ⟨1,.zh gE⟩)):
  ∃d vs,σ[i]?=some (some (.ref d))/\H d=some (.dK vs)/\F d=none/\yC M.K F vs gE/\∀o,yx M Z (upd F d (.Bf o (.dK vs))) σ (upd H d (.Bf o (.dK vs))) (env.set i none):=by
 obtain⟨fp,L⟩:=K.sl;obtain⟨v,hv,ok⟩:=L.at' i _ hi;rcases ok with ⟨e,_⟩|⟨_,d,rfl,hf,h0,vs,hd,rk⟩|⟨e,_⟩|⟨e,_⟩
 .cases e
 .have ha:=L.al i d (by simp_all);refine⟨d,vs,hv,hd,ha.2,rk,λo=>?_⟩;have s1:eQ F (upd F d (.Bf o (.dK vs))):=aA ha.2;have ot:∀j b,j≠i->b∈fp j->b≠d:=λj b hj hb z=>L.dj j i b hj hb (by simp_all);refine⟨λb u e=>?_,λb u e hb=>?_,λb e=>?_,ah K.gr s1,λb e=>?_,by simp[K.len],λj=>if j=i then []else fp j,λj s h=>?_,λj b h=>?_,λj k b Er h z=>?_,λj b t e1 e2 e3=>?_⟩
  .by_cases z:b=d
   .subst z;rw[aj]at e ⊢;exact e
   .rw[ae z]at e ⊢;exact K.sF b u e
  .rw[ae (λz=>by simp_all)];exact K.sG b u e hb
  .by_cases z:b=d
   .subst z;rw[aj];simp
   .rw[ae z];exact K.pr b e
  .by_cases z:b=d
   .subst z;exact .inr h0
   .rw[ae z]at e;exact K.nw b e
  .by_cases z:j=i
   .subst z;rw[abv]at h;simp only[if_true]at h;split at h<;>cases h
   .rw[aav (abm z)]at h;rw[if_neg z];obtain⟨v,g1,g2⟩:=L.at' j s h;exact⟨v,g1,g2.mono s1 λc hc=>ae (ot j c z hc)⟩
  .split at h
   .simp at h
   .rename_i z;have:=L.al j b h;rw[ae (ot j b z h),ae (ot j b z h)];exact this
  .split at h
   .simp at h
   .split at z
    .simp at z
    .exact L.dj j k b Er h z
  .by_cases z:j=i
   .subst z;rw[abv]at e2;simp only[if_true]at e2;split at e2<;>cases e2
   .rw[aav (abm z)]at e2;exact L.oa j b t e1 e2 e3
 .rcases e with e|e<;>cases e
 .cases e
variable{ob:zP}{X:Cx}{x:Str}{p apos:Pos}
def sx(i:Nat){pos Gh:Pos}{elts:List Expr}{x1:_}(ho:PE X (.Name x p) (zt i))
  (Ao:ab8 (.Name x p) "items" X.env (eval (.Name x p) X.env)=eval (.Name x p) X.env:=by rfl) (Am:(apos.endLine==pos.line)=true:=by rfl) :
  G3 ob X (.Tuple elts x1 Gh) (.Call (.Attribute (.Name x p) "items" apos) [] [] pos) (lN i):=by
 refine⟨_,tu ho Ao Am,λZ F σ H env P R K hf kk=>?_⟩;unfold lN at hf;split at hf
 .rename_i gE ei;obtain⟨d,vs,hv,hd,hF,rk,kz⟩:=K.Jh ei;exact⟨_,hv,d,vs,rfl,hd,λo=>kk _ _ _ _ _ hf (aA hF) (kz o) (xL aj (rk.mono (aA hF)))⟩
 .exact hf.elim
end Q
namespace L2
open PySem PySem.Spec PyProof.Rows PySem.W
variable{prog:aaA}{w:World}{A:Around}{E:Value->Shared->Prop}{s:Shared}
end L2
namespace Q
open PySem L2 PyProof.Rows
variable{ob:zP}{X:Cx}{e:Expr}{f:WE}{p pos AN p1:Pos}{kd:_}
variable{P:aaA}{w:World}{K:aaf}{mg:Str->Option Value}{base:Heap}{fd:abl}{ps:List Str}{M:Md}{n:Nat}
def fR{f:Addr}:yG P w K mg base zB 0 f fd ps (ED M n λ_ _=>False) :=
 ⟨λ_ _ _ _ ⟨_,_,_,_,_,_,h,_⟩=>h.elim,λ_ _ _ _ _ _ _ _ _ _ _ _ _ ⟨_,_,_,_,_,_,h,_⟩=>h.elim⟩
end Q
namespace L2
open PySem PySem.Spec PyProof.Rows
def M9(A:Around)(s:Shared)(y x:Value)(b:Bool):Prop :=
 ∀(prog:aaA) (w:World) (E:Value->Shared->Prop) (Q:Value->Shared->Prop),Q (.bool b) s->wpAny (model prog w) A (richCompare .Lt y x) Q E s
inductive Ek (A:Around) (s:Shared):List Value->List Value->Bool->Prop where
 |nn:Ek A s [] [] false
 |nc {y ys}:Ek A s [] (y::ys) true
 |cn {x xs}:Ek A s (x::xs) [] false
 |eq {x y xs ys b}:adv A s x y true->Ek A s xs ys b->Ek A s (x::xs) (y::ys) b
 |lt {x y xs ys b}:adv A s x y false->M9 A s x y b->Ek A s (x::xs) (y::ys) b
section
open PySem.SeqAt
open PySem.AutoSeq1 (wpAny_loadPart')
open PySem.MeetsSeq PySem.MeetsSeq2 PySem.MeetsSeq3
def qO(l b:Addr)(items Ab:Array Value)(n n2:Nat)(dd Hh:Option Addr)(sl G6:Array (Option Value))(r:Bool):
  Meets (Builtin.«tuple.__lt__» ⟨[.ref l,.ref b],[]⟩)
   (λA R s=>s.heap.get? l=some {cls:=.type "tuple",dict:=dd,data:=.seq items n,slots:=sl}/\s.heap.get? b=some {cls:=.type "tuple",dict:=Hh,data:=.seq Ab n2,slots:=G6}/\Ek A.in1 s items.toList Ab.toList r/\R (.ok (.ret (.bool r))) s) :=
 .of_wp λprog w A R s h=>by
  obtain⟨hp,g,d,tk,os⟩:=s;obtain⟨hl,hb,lx,h⟩:=h;have f2:=AutoSeq1.sub_tuple_tuple
  wp_walk using adh hl,adh hb,wpAny_forIn_list _ (λrest b s'=>b.1=none/\s'=⟨hp,g,d,tk,os⟩/\∃(vs ws:List Value),rest=vs.zip ws /\
   vs.length+Ab.size=ws.length+items.size/\Ek A.in1 ⟨hp,g,d,tk,os⟩ vs ws r) _
  case turn=>
   rintro⟨y,x⟩ rest b s' ⟨C0,rfl,vs,ws,hz,hlen,hR⟩;cases hR with
   |nn=>rw[ac2]at hz;cases hz
   |nc=>rw[ac2]at hz;cases hz
   |cn=>rw[List.zip_nil_right]at hz;cases hz
   |eq e PU=>
    rw[aa7]at hz;injection hz with hyx D9;injection hyx with hy hx;subst hy hx;simp only[aaI]at hlen;refine aab (e prog w _ _ ?_)
    wp_walk
    exact⟨rfl,rfl,_,_,D9,by omega,PU⟩
   |lt e e2=>
    rw[aa7]at hz;injection hz with hyx D9;injection hyx with hy hx;subst hy hx;simp only[aaI]at hlen;refine aab (e prog w _ _ ?_);have Pn:=e2 prog w
    wp_walk using Pn
    exact⟨_,rfl,by simpa using h⟩
  case fin=>
   rintro⟨b1,b2⟩ s' ⟨C0,rfl,vs,ws,hz,hlen,hR⟩;simp only at C0;subst C0;have hv:r=decide (items.size<Ab.size):=by
    cases hR with
    |nn=>simp only[abF]at hlen;exact(decide_eq_false (by omega)).symm
    |nc=>simp only[abF,aaI]at hlen;exact(decide_eq_true (by omega)).symm
    |cn=>simp only[abF,aaI]at hlen;exact(decide_eq_false (by omega)).symm
    |eq=>rw[aa7]at hz;cases hz
    |lt=>rw[aa7]at hz;cases hz
   rw[hv]at h
   wp_walk
   exact⟨_,rfl,by simpa[ad5]using h⟩
  case h=>
   exact⟨rfl,rfl,items.toList,Ab.toList,rfl,by simp;omega,lx⟩
end
end L2
namespace Q
open PySem L2 PyProof.Rows
variable{X:Cx}{pins:List (Addr×Obj)}{σ:L2.St}{H F:Hp}{s:Shared}
variable{ob:zP}
end Q
namespace L2
open PySem PySem.Spec PyProof.Rows
variable{prog:aaA}{w:World}{A:Around}{E:Value->Shared->Prop}{s:Shared}{a₀:Array Keyed}{κ:KeyKind}
variable{X:Cx}
end L2
namespace Q
open PySem L2 PyProof.Rows
variable{ob:zP}{X:Cx}{a b c e:Expr}{es:List Expr}{f g h:WE}{fa:WA}{pos p p1:Pos}{x:Str}
end Q
namespace L2
open PySem PySem.Spec PyProof.Rows
variable{X:Cx}{o e:Expr}{to te:TE}{apos pos:Pos}
section
open Builtin Builtin.Str
variable{prog:aaA}{w:World}{A:Around}{E:Value->Shared->Prop}{s:Shared}
end
def Lo:TS:=λ_ _ _=>False
variable{st:Stmt}
def wR:PS X st Lo:=λ_ _ _ _ _ _ h=>h.elim
end L2
namespace Q
open PySem L2 PyProof.Rows
variable{ob:zP}{X:Cx}{a b e:Expr}{f g:WE}{apos pos:Pos}
def Hz:WS:=λ_ _=>False
variable{st:Stmt}
def oh:C1 ob X st Hz:=⟨Lo,wR,λ_ _ _ _ _ _ _ _ h _=>h.elim⟩
end Q
namespace L2
open PySem PySem.Spec PyProof.Rows
variable{prog:aaA}{w:World}{A:Around}{E:Value->Shared->Prop}{s:Shared}{l b:Addr}{items Ab:Array Value}{n n2:Nat}
variable{X:Cx}
end L2
namespace Q
open PySem L2 PyProof.Rows
variable{ob:zP}{X:Cx}{e:Expr}{g:WE}{pos pos':Pos}
end Q
set_option maxHeartbeats 400000
namespace L2
open PySem PySem.Spec PyProof.Rows
variable{X:Cx}
end L2
namespace Q
open PySem L2 PyProof.Rows
variable{ob:zP}{X:Cx}{a:Expr}{fa:WA}{p pos:Pos}
variable{p2:Pos}{x:Str}
end Q
namespace Pre
open PySem L2
end Pre
namespace Q
open PySem L2 PyProof.Rows
variable{X:Cx}{k:Nat}{Bg:Addr}{fd:abl}{ps:List Str}{x y:Str}{p p1 pos pos':Pos}
variable{ob:zP}
variable{pins:List (Addr×Obj)}{s:Shared}{σ:L2.St}{H:Hp}
end Q
namespace L2
open PySem PySem.Spec PyProof.Rows PySem.W
variable{prog:aaA}{w:World}{A:Around}{E:Value->Shared->Prop}{s:Shared}
end L2
namespace Q
open PySem L2 PyProof.Rows
variable{ob:zP}{X:Cx}{e:Expr}{es:List Expr}{fa:WA}{pos p:Pos}
end Q
set_option maxHeartbeats 1000000
namespace L2
open PySem PySem.Spec PyProof.Rows
open AutoSeq1 (wpAny_loadPart')
variable{prog:aaA}{w:World}{A:Around}{E:Value->Shared->Prop}{s:Shared}
variable{X:Cx}
end L2
namespace Q
open PySem L2 PyProof.Rows
variable{ob:zP}{X:Cx}{a:Expr}{fa:WA}{p pos:Pos}
end Q
namespace L2
open PySem PySem.Spec PyProof.Rows
variable{prog:aaA}{w:World}{A:Around}{E:Value->Shared->Prop}{s:Shared}
open PySem PySem.Spec PyProof.Rows PySem.Calls PyProof.V
variable{prog:aaA}{w:World}{A:Around}{E:Value->Shared->Prop}{s:Shared}
open PySem PySem.Spec PyProof.Rows
variable{prog:aaA}{w:World}{A:Around}{E:Value->Shared->Prop}{s:Shared}
variable{X:Cx}
end L2
namespace Q
open PySem L2 PyProof.Rows
variable{ob:zP}{X:Cx}{a b c e:Expr}{es:List Expr}{f g h:WE}{fa:WA}{pos HB p p1 p2:Pos}{x:Str}
end Q
namespace L2
open PySem PySem.Spec PyProof.Rows PyProof.Rows.KTD
def Dn(h:Heap)(a:Addr)(D:List (Str×Addr)):Prop:=TabOf (λ(f:Addr) v=>v=aa0 f) h a D
variable{prog:aaA}{w:World}{A:Around}{E:Value->Shared->Prop}{s:Shared}
variable{a:Addr}{D:List (Str×Addr)}
def Dn.typeIs(T:Dn s.heap a D):s.TypeIs (.ref a) "dict" := let ⟨_,o,_,_,ho,hc,_⟩:=T;⟨o,ho,hc.1⟩
variable{f:Addr}{Q:Value->Shared->Prop}
def vX{k:Str}{tk:Tok}(T:Dn s.heap a D)(hf:datumAt k D=some f)(h:Q (.ref f) {s with toks:=s.toks+1}):
  wpAny (model prog w) A (acV (.ref a) (.str k tk)) Q E s:=by
 have hT:=T.typeIs;obtain⟨_,o,es,ep,ho,hc,hd,hr⟩:=T;unfold acV;try with_reducible refine aaM ?_
 refine aab (adO hT (by decide) (aab (ac5 (name:=aaG "__getitem__") hT slot_dict_getitem (abI slot_dict_getitem hT entry_dict_getitem (?_:wpAny _ _ (dictGet a (.str k tk) >>= _) _ _ s) (args_dict_getitem _ _)))));unfold dictGet;refine aab (aaM (aab (wpAny_pyHash_str (aab (kt_dictFind_strs ho hd (by obtain⟨l⟩:=es;simpa using hr.exact) ?_)))));obtain⟨v,hv,rfl⟩:=hr.find_some hf;have hq:findBy (λk v=>v.isStr k) es k=some (.ref f):=by
  rw[<- hv];obtain⟨l⟩:=es;simp[findBy]
 rw[findBy_of_findIdx?]at hq;cases hi:es.findIdx? λe=>e.key.isStr k with
 |none=>rw[hi]at hq;cases hq
 |some i=>
  rw[hi]at hq;have JK:(es[i]?).map (·.val)=some (.ref f):=hq;refine aab (wpAny_dictEntries (s:={s with toks:=s.toks+1}) ho hd (aal ?_));rw[JK];exact aal ⟨_,rfl,aal h⟩
variable{X:Cx}
def RZ(D:List (Str×Addr))(tk:TE):TE:=λσ H Q=>tk σ H λy H1=>∃k f,y=.str k/\datumAt k D=some f/\Q (.ref f) H1
variable{pos:Pos}
def tB{tb:Str}{dd:Addr}{ke:Expr}{tk:TE}{p1:Pos}(hg:Gl X tb)(hm:X.mg tb=some (.ref dd))(hT:∀h,X.K.In h->Dn h dd D)(hk:PE X ke tk)(hs:FN ke)(BY:(tb==("__debug__" : Str))=false:=by decide):
  PE X (.Subscript (.Name tb p1) ke pos) (RZ D tk):=by
 refine λpins s σ H Q I h=>pj PySem.F.slot_dict_getitem.lookup hs (lJ I hg hm (zk (hk pins s σ H _ I h) λiv s2 ⟨y,H2,I2,ry,k,f,ey,hf,q⟩=>?_) BY);subst ey;obtain⟨t,rfl⟩:=ry;have T:=hT _ I2.C6;exact⟨T.typeIs,vX T hf ⟨.ref f,H2,I2.tok _,rfl,q⟩⟩
structure Kn(P:aaA)(w:World)(K:aaf)(mg:Str->Option Value)(base:Heap)(k:Nat)(f:Addr)(sp:Sp):Prop where
 ex:∃fd ps,yG P w K mg base zB k f fd ps sp/\abx K (.ref f)=true/\Binds K fd ps []
def Jc(i:Nat)(E:XK)(Nl:List (Addr×Sp))(t:TA):TE:=λσ H Q=>∃f sp,(f,sp)∈Nl/\σ[i]?=some (some (.ref f))/\t σ H λvs H1=>sp vs H1 Q E
variable{i k:Nat}{x:Str}{e:Expr}{es:List Expr}
def tE{E:XK}{t:TA}{p:Pos}{Nl:List (Addr×Sp)}(hS:∀q∈Nl,Kn X.prog X.w X.K X.mg X.base k q.1 q.2)(hr:y9 k X.A)(hx:DN zB X E)(ho:PE X (.Name x p) (zt i))(ha:PA X (e::es) t)
  (he:aag (e::es) X.env=(false,eval e X.env)::aag es X.env:=by rfl) (AQ:(backTo pos (aag es X.env)).any (·.1)=false:=by rfl):PE X (.Call (.Name x p) (e::es) [] pos) (Jc i E Nl t):=by
 intro pins s σ H Q I h;obtain⟨f,sp,hm,hσ,q⟩:=h;obtain⟨fd,ps,F,hk,hb⟩:=(hS _ hm).ex;refine abJ (zk (ho pins s σ H (λv H1=>v=.ref f/\t σ H1 _) I ⟨.ref f,hσ,rfl,q⟩) λv s1 ⟨y,H1,I1,ry,ey,q1⟩=>?_);subst ey;obtain rfl:v=aa0 f:=ry;refine PySem.W.callWith_K I1.ok.mod.kin hk (zk (ha pos pins s1 σ H1 _ I1 q1) λus s2 ⟨vs,H2,I2,r,q2⟩=>⟨I2.C6,?_⟩) he AQ;exact qY F hr hb .nil hx I2 r (by simp_all)
end L2
namespace Q
open PySem L2 PyProof.Rows PyProof.Rows.KTD
variable{M:Md}{Z:Zn}{F H:Hp}{σ:L2.St}{env:En}{i:Nat}
theorem yx.OD{v:Option V}(K:yx M Z F σ H env)(h:env[i]?=some none):yx M Z F (σ.set i v) H env:=by
 obtain⟨fp,L⟩:=K.sl;have ne:∀j s,env[j]?=some (some s)->j≠i:=λj s e z=>by simp_all
 refine⟨K.sF,K.sG,K.pr,K.gr,K.nw,by rw[aer];exact K.len,fp,λj s e=>?_,L.al,L.dj,λj a s e1 e2 e3=>?_⟩
 .obtain⟨v',h1,h2⟩:=L.at' j s e;exact⟨v',by rw[aav (abm (ne j s e))];exact h1,h2⟩
 .rw[aav (abm (ne j s e2))];exact L.oa j a s e1 e2 e3
def Gq(i:Nat)(T:List (Str×Fd))(fk:WE)(fa:WA):WS:=λP env=>fk env λx e=>match x with
 |.str k=>∃D,datumAt k T=some D/\e[i]?=some none/\fa e λxs e2=>D xs λr=>P.rt r e2
 |_=>False
variable{α β:Type}
def iq(g:α->β)(k:Str):∀(T:List (Str×α)),datumAt k (T.map λq=>(q.1,g q.2))=(datumAt k T).map g
 |[]=>rfl
 |(x,d)::T=>by
  show (if decide _=true then some (g d)else datumAt k _)=adX g (if decide _=true then some d else datumAt k T);split
  .rfl
  .exact iq g k T
def mF{k:Str}{d:α}:∀{T:List (Str×α)},datumAt k T=some d->∃x,(x,d)∈T
 |(x,d')::T,h=>by
  have h':(if decide _=true then some d' else datumAt k T)=some d:=h;split at h'
  .cases h';exact⟨x,aar⟩
  .obtain⟨y,hy⟩:=mF h';exact⟨y,aaj _ hy⟩
variable{ob:zP}{X:Cx}{e ke:Expr}{es:List Expr}{fk:WE}{fa:WA}{x y tb:Str}{p p1 p2 p3 py pos LL HB LK:Pos}
variable{k n:Nat}
def t9(i:Nat){dd:Addr}{T:List (Str×Addr×Fd)}(hN:X.N.Nodup)(hy:X.N[i]?=some y)(hl:Loc X.env.scope y)(hg:Gl X tb)(hm:X.mg tb=some (.ref dd))(hT:∀h,X.K.In h->Dn h dd (T.map λq=>(q.1,q.2.1)))
  (hS:∀q∈T,Kn X.prog X.w X.K X.mg X.base k q.2.1 (ED (md ob X) n q.2.2)) (hr:y9 k X.A) (hk:yW ob X ke fk) (FV:FN ke) (ho:PE X (.Name y p2) (zt i)) (ha:Ex ob X (e::es) fa) (hn:es.length+1=n:=by rfl)
  (he:aag (e::es) X.env=(false,eval e X.env)::aag es X.env:=by rfl) (AQ:(backTo LK (aag es X.env)).any (·.1)=false:=by rfl) (BY:(tb==("__debug__" : Str))=false:=by decide)
  (hs:abK (.Subscript (.Name tb p1) ke pos) (some (.Name y py)) LL.line X.env=pure false:=by rfl) (hf:X.fn y=true\/X.env.scope.names.lookup y=some .local:=by first|exact .inl rfl|exact .inr rfl|assumption) :
  B6 ob X [.Assign [.Name y py] (.Subscript (.Name tb p1) ke pos) LL,.Return (some (.Call (.Name y p2) (e::es) [] LK)) HB] (Gq i (T.map λq=>(q.1,q.2.2)) fk fa):=by
 obtain⟨t1,h1,k1⟩:=hk.ex;obtain⟨t2,h2,k2⟩:=ha.ex;have Tg:∀q∈T.map (λq=>(q.2.1,ED (md ob X) n q.2.2)),Kn X.prog X.w X.K X.mg X.base k q.1 q.2:=λq hq=>by
  obtain⟨z,hz,rfl⟩:=List.mem_map.mp hq;exact hS z hz
 refine⟨_,bH (d0 hN hy hl (tB hg hm hT h1 FV BY) hs hf) (cT (fF (tE Tg hr D3 ho h2 he AQ))),λZ F σ H env P D K hf L=>?_⟩;refine k1 Z F σ H env _ _ K hf λv e1 u F1 H1 pv s1 K1 r1=>?_;split at pv
 .rename_i kk;obtain⟨Df,hd,hi,pv⟩:=pv;rw[iq]at hd;cases hz:datumAt kk T with
  |none=>rw[hz]at hd;cases hd
  |some z=>
   rw[hz]at hd;have ez:z.2=Df:=aaq hd;subst ez;cases r1;obtain⟨x',Pd⟩:=mF hz;refine⟨kk,z.1,rfl,by rw[iq,hz];rfl,?_⟩;have K2:yx (md ob X) Z F1 (σ.set i (some (.ref z.1))) H1 e1:=K1.OD hi;have zR:i<σ.length:=by
    have:=K1.len;rcases aaX i e1.length with q|q
    .omega
    .rw[aap q]at hi;cases hi
   refine⟨z.1,_,List.mem_map.mpr ⟨(x',z),Pd,rfl⟩,by simp_all,k2 Z F1 _ H1 e1 _ _ K2 pv λxs e2 vs F2 H2 p2 FW s2 K3 r2=>?_⟩;refine⟨F2,xs,_,K3.sF,r2,by simp_all,p2,λr v F' H' pr sH sF Hy nw rv=>?_⟩;exact L.rt r e2 v _ F' H' pr (ah s1 (ah s2 sF)) (K3.move sF Hy sH nw) rv
 .exact pv.elim
end Q
namespace L2
open PySem PySem.Spec PyProof.Rows
variable{X:Cx}
end L2
namespace Q
open PySem L2 PyProof.Rows
variable{ob:zP}{X:Cx}{e ke:Expr}{es:List Expr}{fa:WA}{fk:WE}{x:Str}{pos p p1 apos zE HB:Pos}
variable{P:aaA}{w:World}{K:aaf}{mg:Str->Option Value}{base:Heap}
variable{k:Nat}{Bg:Addr}{fd:abl}{ps:List Str}{DO:FdOT}
end Q
namespace L2
open PySem PySem.Spec PyProof.Rows
variable{X:Cx}{e st:Expr}{te RT:TE}{pos p2:Pos}
end L2
namespace Q
open PySem L2 PyProof.Rows
variable{ob:zP}{X:Cx}{e:Expr}{f:WE}{pos:Pos}
end Q
namespace L2
open PySem PySem.Spec PyProof.Rows
variable{X:Cx}{o e:Expr}{to te:TE}{apos pos:Pos}
end L2
namespace Q
open PySem L2 PyProof.Rows
variable{ob:zP}{X:Cx}{a b:Expr}{f g:WE}{apos pos:Pos}
end Q
namespace L2
open PySem PySem.Spec PyProof.Rows PySem.W
def Nc(A:Around)(s:Shared)(y x:Value)(b:Bool):Prop :=
 ∀(prog:aaA) (w:World) (E:Value->Shared->Prop) (Q:Value->Shared->Prop),Q (.bool b) s->wpAny (model prog w) A (richCompare .Gt y x) Q E s
inductive Ej (A:Around) (s:Shared):List Value->List Value->Bool->Prop where
 |nn:Ej A s [] [] false
 |nc {y ys}:Ej A s [] (y::ys) false
 |cn {x xs}:Ej A s (x::xs) [] true
 |eq {x y xs ys b}:adv A s x y true->Ej A s xs ys b->Ej A s (x::xs) (y::ys) b
 |gt {x y xs ys b}:adv A s x y false->Nc A s x y b->Ej A s (x::xs) (y::ys) b
section
open PySem.SeqAt
open PySem.AutoSeq1 (wpAny_loadPart')
open PySem.MeetsSeq PySem.MeetsSeq2 PySem.MeetsSeq3
def qP(l b:Addr)(items Ab:Array Value)(n n2:Nat)(dd Hh:Option Addr)(sl G6:Array (Option Value))(r:Bool):
  Meets (Builtin.«tuple.__gt__» ⟨[.ref l,.ref b],[]⟩)
   (λA R s=>s.heap.get? l=some {cls:=.type "tuple",dict:=dd,data:=.seq items n,slots:=sl}/\s.heap.get? b=some {cls:=.type "tuple",dict:=Hh,data:=.seq Ab n2,slots:=G6}/\Ej A.in1 s items.toList Ab.toList r/\R (.ok (.ret (.bool r))) s) :=
 .of_wp λprog w A R s h=>by
  obtain⟨hp,g,d,tk,os⟩:=s;obtain⟨hl,hb,lx,h⟩:=h;have f2:=AutoSeq1.sub_tuple_tuple
  wp_walk using adh hl,adh hb,wpAny_forIn_list _ (λrest b s'=>b.1=none/\s'=⟨hp,g,d,tk,os⟩/\∃(vs ws:List Value),rest=vs.zip ws /\
   vs.length+Ab.size=ws.length+items.size/\Ej A.in1 ⟨hp,g,d,tk,os⟩ vs ws r) _
  case turn=>
   rintro⟨y,x⟩ rest b s' ⟨C0,rfl,vs,ws,hz,hlen,hR⟩;cases hR with
   |nn=>rw[ac2]at hz;cases hz
   |nc=>rw[ac2]at hz;cases hz
   |cn=>rw[List.zip_nil_right]at hz;cases hz
   |eq e PU=>
    rw[aa7]at hz;injection hz with hyx D9;injection hyx with hy hx;subst hy hx;simp only[aaI]at hlen;refine aab (e prog w _ _ ?_)
    wp_walk
    exact⟨rfl,rfl,_,_,D9,by omega,PU⟩
   |gt e e2=>
    rw[aa7]at hz;injection hz with hyx D9;injection hyx with hy hx;subst hy hx;simp only[aaI]at hlen;refine aab (e prog w _ _ ?_);have Pn:=e2 prog w
    wp_walk using Pn
    exact⟨_,rfl,by simpa using h⟩
  case fin=>
   rintro⟨b1,b2⟩ s' ⟨C0,rfl,vs,ws,hz,hlen,hR⟩;simp only at C0;subst C0;have hv:r=decide (Ab.size<items.size):=by
    cases hR with
    |nn=>simp only[abF]at hlen;exact(decide_eq_false (by omega)).symm
    |nc=>simp only[abF,aaI]at hlen;exact(decide_eq_false (by omega)).symm
    |cn=>simp only[abF,aaI]at hlen;exact(decide_eq_true (by omega)).symm
    |eq=>rw[aa7]at hz;cases hz
    |gt=>rw[aa7]at hz;cases hz
   rw[hv]at h
   wp_walk
   exact⟨_,rfl,by simpa[ad5]using h⟩
  case h=>
   exact⟨rfl,rfl,items.toList,Ab.toList,rfl,by simp;omega,lx⟩
end
def gtB(k l:Int×Str):Bool:=decide (l.1<k.1\/(l.1=k.1/\zw l.2 k.2))
variable{A:Around}{s:Shared}{x y:Addr}{k l:Int×Str}
def u8(hu:A.units<cLine)(hx:y3 s.heap x k)(hy:y3 s.heap y l)(hne:k.2≠l.2):Nc A s (.ref x) (.ref y) (gtB k l):=λprog w E Q h=>by
 obtain⟨⟨cls,dd,data,sl⟩,n,t,u,ho,hc,hd⟩:=hx;obtain⟨⟨MS,Hh,data2,G6⟩,n2,t2,u2,Hb,IE,hd2⟩:=hy;subst hc hd IE hd2;refine richCompare_meets_room ⟨_,ho,rfl⟩ ⟨_,Hb,rfl⟩ PySem.F.slot_tuple_gt PySem.F.entry_tuple_gt (PySem.F.args_tuple_gt_2 _ _) (qP x y _ _ n n2 dd Hh sl G6 _)
  ⟨ho,Hb,?_,⟨(λx=>nomatch x),h⟩⟩ hu
 by_cases e:k.1=l.1
 .have e1:(k.1==l.1)=true:=by simp[e]
  have e2:(k.2==l.2)=false:=by simp_all
  have e3:gtB k l=decide (l.2.cps.toList<k.2.cps.toList):=by
   unfold gtB;rw[aa2,decide_eq_true_eq,decide_eq_true_eq];exact⟨λz=>z.elim (λq=>by omega) λq=>q.2,λz=>.inr ⟨e.symm,z⟩⟩
  refine .eq (e1 ▸ ab0 k.1 t l.1 t2) (.gt (e2 ▸ acS k.2 u l.2 u2) λprog w E Q hq=>?_);rw[e3]at hq;exact P.gt_str hq
 .have e1:(k.1==l.1)=false:=by simp[e]
  have e3:gtB k l=decide (l.1<k.1):=by
   unfold gtB;rw[aa2,decide_eq_true_eq,decide_eq_true_eq];exact⟨λz=>z.elim id λq=>absurd q.1.symm e,.inl⟩
  refine .gt (e1 ▸ ab0 k.1 t l.1 t2) λprog w E Q hq=>?_;rw[e3]at hq;exact gt_int hq
def vD(a f d:Value):argsOk "max" {pos:=[a],kw:=[(aaG "key",f),(aaG "default",d)]}:=rfl
def vC(l f d:Value):Builtin.«max» ⟨[l],[(aaG "key",f),(aaG "default",d)]⟩=(do
  let it <- pyIter l;let b <- newList []
  again (Code.builtin "max.loop" ⟨[it,f,b],[(aaG "default",d)]⟩)):=by rfl
def DP(ks:List (Int×Str))(j i:Nat):Prop:=i<j/\∀m,m<j->m≠i->Dh ks m i=true
variable{prog:aaA}{w:World}{R:Result->Shared->Prop}
variable{it b q:Addr}{d:Value}{vs:List Value}{ad:List Addr}{ks:List (Int×Str)}
theorem vA{l:Addr}(l1:ad.length=vs.length)(l2:ks.length=vs.length)(Bi:vs.length<64)(nd:(ks.map (·.2)).Nodup)(hA:A.in1.handled=none)(hu:A.in1.units<cLine)
  (Sa:l≠it) (Sb:l≠b) (Fx:b≠it) (na:∀i,i<vs.length->ad.getD i 0≠it/\ad.getD i 0≠b) :
  ∀(k j:Nat) (s:Shared),vs.length - j=k->j<=vs.length->s.heap.IsTuple l vs.toArray->s.heap.IsTupleIter it l j ->
  ((j=0/\∃c,s.heap.get? b=some (seqObj "list" #[] c))\/∃i c,DP ks j i/\s.heap.get? b=some (seqObj "list" #[vs.getD i .none,.ref (ad.getD i 0)] c)) ->
  (∀i,i<vs.length->y3 s.heap (ad.getD i 0) (ks.getD i (0,⟨#[]⟩))) ->
  (∀i,i<vs.length->dW prog w A.in1 s (.ref q) (λc=>c≠it/\c≠b) (vs.getD i .none) (ad.getD i 0)) ->
  (∀v h' tk,((vs.length=0/\v=d)\/∃i,DP ks vs.length i/\v=vs.getD i .none)->(∀c o,c≠it->c≠b->s.heap.get? c=some o->h'.get? c=some o)->R (.ok (.ret v)) {s with heap:=h',toks:=tk}) ->
  adn (model prog w) A (.builtin "max.loop" ⟨[.ref it,.ref q,.ref b],[(aaG "default",d)]⟩) R s:=by
 intro k;induction k with
 |zero=>
  intro j s hk hj hl hi hb hp ht hR;have ej:j=vs.length:=by omega
  subst ej;refine adm PySem.F.entry_max_loop ?_;rw[acH abH _];show wpAny _ A.in1 (seqItems? (.ref b) >>= _) _ _ s;rcases hb with ⟨e0,c,hb⟩|⟨i,c,mx,hb⟩
  .refine aab (abV hb rfl ?_);show wpAny _ A.in1 (tryCatch (pyNext (.ref it)) _ >>= _) _ _ s;refine aab (abb (acv hA hi hl (by rw[adq,aap (aak _)]) λh' kk=>?_));show wpAny _ A.in1 (rule _ >>= _) _ _ _;exact aab (adP (aal (hR d h' s.toks (.inl ⟨e0,rfl⟩) λc o h1 h2 e=>kk _ _ h1 e)))
  .refine aab (abV hb rfl ?_);show wpAny _ A.in1 (tryCatch (pyNext (.ref it)) _ >>= _) _ _ s;refine aab (abb (acv hA hi hl (by rw[adq,aap (aak _)]) λh' kk=>?_));show wpAny _ A.in1 (adE b _ >>= _) _ _ _;have PQ:=kk _ _ Fx hb;have s1:=aba h' b (abz λ_=>(#[]:Array Value));refine aab (acl PQ rfl ?_ (by show 2<=sizeLine;decide) (aaS _));show wpAny _ A.in1 (letGo _ _ >>= _) _ _ _;exact aab (aci (aal (hR _ _ s.toks (.inr ⟨i,mx,rfl⟩) λc o h1 h2 e=>(s1.2 c h2).trans (kk _ _ h1 e))))
 |succ k ih=>
  intro j s hk hj hl hi hb hp ht hR;have zR:j<vs.length:=by omega
  have ev:vs.toArray[j]?=some (vs.getD j .none):=by rw[adq,aaa zR,aac,aaa zR];rfl
  have o:=lH nd;rw[l2]at o;have fin:∀(h3:Heap) (tk:Nat),(∀c o,c≠it->c≠b->s.heap.get? c=some o->h3.get? c=some o)->h3.IsTupleIter it l (j+1)->(∃i c,DP ks (j+1) i/\h3.get? b=some (seqObj "list" #[vs.getD i .none,.ref (ad.getD i 0)] c)) ->
    adn (model prog w) A (.builtin "max.loop" ⟨[.ref it,.ref q,.ref b],[(aaG "default",d)]⟩) R {s with heap:=h3,toks:=tk}:=λh3 tk kk S0 Tc=>by
   refine ih (j+1) {s with heap:=h3,toks:=tk} (by omega) zR ?_ S0 (.inr Tc) (λi h=>(hp i h).mono λo g=>kk _ _ (na i h).1 (na i h).2 g) (λi h h4 Oq g=>?_) λv h4 Oq hv g=>hR v h4 Oq hv λc o c1 c2 e=>g c o c1 c2 (kk c o c1 c2 e)
   .obtain⟨o,e,r⟩:=hl;exact⟨o,kk _ _ Sa Sb e,r⟩
   .exact ht i h h4 Oq λc o hc e=>g c o hc (kk c o hc.1 hc.2 e)
  refine adm PySem.F.entry_max_loop ?_;rw[acH abH _];show wpAny _ A.in1 (seqItems? (.ref b) >>= _) _ _ s;rcases hb with ⟨e0,c,hb⟩|⟨i,c,mx,hb⟩
  .refine aab (abV hb rfl ?_);show wpAny _ A.in1 (tryCatch (pyNext (.ref it)) _ >>= _) _ _ s;refine aab (abb (acm hi hl ev λh1 I1 sb=>?_));have k1:∀c o,c≠it->s.heap.get? c=some o->h1.get? c=some o:=λc o hc e=>(sb.2 c hc).trans e;show wpAny _ A.in1 (tryCatch (acn _ (call (.ref q) [vs.getD j .none])) _ >>= _) _ _ _;refine aab (abb (aaM (aaK (ht j zR h1 s.toks λc o hc e=>k1 c o hc.1 e) (λv z hz=>?_) λ_ _ f=>f.elim)));obtain⟨rfl,h2,Hr,rfl,g2⟩:=hz;show wpAny _ A.in1 (adE b _ >>= _) _ _ _;have Eu:=g2 _ _ (k1 _ _ Fx hb);have s2:=aba h2 b (abz λ_=>#[vs.getD j .none,.ref (ad.getD j 0)]);refine aab (acl Eu rfl ?_ (aaS _) (by show 2<=sizeLine+1;decide));refine aal ⟨ab6 abH _,fin _ Hr (λc o c1 c2 e=>(s2.2 c c2).trans (g2 _ _ (k1 c o c1 e))) ?_ ⟨j,_,⟨aaU j,λm hm ne=>by omega⟩,abB Eu λ_=>#[vs.getD j .none,.ref (ad.getD j 0)]⟩⟩;obtain⟨o,e,r⟩:=I1;exact⟨o,(s2.2 it Fx.symm).trans (g2 _ _ e),r⟩
  .have GK:i<vs.length:=aax mx.1 hj;have Nw:j≠i:=ab3 mx.1;refine aab (abV hb rfl ?_);show wpAny _ A.in1 (tryCatch (pyNext (.ref it)) _ >>= _) _ _ s;refine aab (abb (acm hi hl ev λh1 I1 sb=>?_));have k1:∀c o,c≠it->s.heap.get? c=some o->h1.get? c=some o:=λc o hc e=>(sb.2 c hc).trans e;show wpAny _ A.in1 (tryCatch (acn _ (call (.ref q) [vs.getD j .none])) _ >>= _) _ _ _;refine aab (abb (aaM (aaK (ht j zR h1 s.toks λc o hc e=>k1 c o hc.1 e) (λv z hz=>?_) λ_ _ f=>f.elim)));obtain⟨rfl,h2,Hr,rfl,g2⟩:=hz;have Eu:=g2 _ _ (k1 _ _ Fx hb);have kk:∀c o,c≠it->s.heap.get? c=some o->h2.get? c=some o:=λc o hc e=>g2 _ _ (k1 c o hc e);have p1:y3 h2 (ad.getD j 0) (ks.getD j (0,⟨#[]⟩)):=(hp j zR).mono λo g=>kk _ o (na j zR).1 g;have p2:y3 h2 (ad.getD i 0) (ks.getD i (0,⟨#[]⟩)):=(hp i GK).mono λo g=>kk _ o (na i GK).1 g;have ne:(ks.getD j (0,⟨#[]⟩)).2≠(ks.getD i (0,⟨#[]⟩)).2:=λq=>by
    have a:(ks.map (·.2))[j]'(by rw[aae];omega)=(ks.map (·.2))[i]'(by rw[aae];omega):=by
     rw[acE,acE];rw[aac,aac,aaa (by omega),aaa (by omega)]at q;exact q
    exact Nw ((abu nd).mp a)
   have QX:h2.IsTupleIter it l (j+1):=by
    obtain⟨o,e,r⟩:=I1;exact⟨o,g2 _ _ e,r⟩
   show wpAny _ A.in1 (tryCatch (acn _ (richCompare .Gt (.ref (ad.getD j 0)) (.ref (ad.getD i 0)) >>= _)) _ >>= _) _ _ _;refine aab (abb (aaM (aab (u8 (s:={s with heap:=h2,toks:=Hr}) hu p1 p2 ne prog w _ _ ?_))));show wpAny _ A.in1 (acn _ (truthy (.bool _)) >>= _) _ _ _;refine aab (aaM (abf ?_));refine aab (aci (aal ?_));have eg:gtB (ks.getD j (0,⟨#[]⟩)) (ks.getD i (0,⟨#[]⟩))=Dh ks i j:=rfl;rw[eg];cases hg:Dh ks i j with
   |true=>
    show wpAny _ A.in1 (adE b _ >>= _) _ _ _;have s2:=aba h2 b (abz λ_=>#[vs.getD j .none,.ref (ad.getD j 0)]);refine aab (acl Eu rfl ?_ (by show 2<=sizeLine;decide) (by show 2<=sizeLine+1;decide));refine aab (aci ?_);refine aal ⟨ab6 abH _,fin _ Hr (λc o c1 c2 e=>(s2.2 c c2).trans (kk c o c1 e)) ?_ ⟨j,_,⟨aaU j,λm hm ne=>?_⟩,abB Eu λ_=>#[vs.getD j .none,.ref (ad.getD j 0)]⟩⟩
    .obtain⟨o,e,r⟩:=QX;exact⟨o,(s2.2 it Fx.symm).trans e,r⟩
    .by_cases z:m=i
     .rw[z];exact hg
     .exact o.tr m i j (by omega) GK zR (mx.2 m (by omega) z) hg
   |false=>
    show wpAny _ A.in1 (letGo _ _ >>= _) _ _ _;refine aab (aci ?_);refine aal ⟨ab6 abH _,fin _ Hr (λc o c1 c2 e=>kk c o c1 e) QX ⟨i,_,⟨abp mx.1,λm hm ne=>?_⟩,Eu⟩⟩;by_cases z:m=j
    .rw[z];exact o.tot i j GK zR (λq=>Nw q.symm) hg
    .exact mx.2 m (by omega) ne
variable{E:Value->Shared->Prop}
variable{ob:Obj}{Q:Value->Shared->Prop}
def xw{l:Addr}{n0:Nat}(hA:A.in1.handled=none)(hu:A.in1.units<cLine)(ho:s.heap.get? l=some ob)(hc:ob.cls=.type "tuple")(hd:ob.data=.seq vs.toArray n0)
  (l1:ad.length=vs.length) (l2:ks.length=vs.length) (Bi:vs.length<64) (nd:(ks.map (·.2)).Nodup) (hp:∀i,i<vs.length->y3 s.heap (ad.getD i 0) (ks.getD i (0,⟨#[]⟩)))
  (turn:∀i,i<vs.length->dW prog w A.in1 s (.ref q) (λ_=>True) (vs.getD i .none) (ad.getD i 0))
  (h:∀v h' tk,((vs.length=0/\v=d)\/∃i,DP ks vs.length i/\v=vs.getD i .none)->(∀c o,s.heap.get? c=some o->h'.get? c=some o)->Q v {s with heap:=h',toks:=tk}) :
  wpAny (model prog w) A (call (.builtin "max") [.ref l] [(aaG "key",.ref q),(aaG "default",d)]) Q E s:=by
 refine kmb_tree PySem.F.kind_max PySem.F.plain_max PySem.F.entry_max (vD _ _ _) ?_;rw[vC];refine aab (acQ ⟨ob,ho,hc,n0,hd⟩ (aab (ab5 ?_ (aaS _))));have hsz:(s.heap.push {cls:=acx "tuple_iterator",data:=Data.fields #[aa0 l,Value.int 0 0]}).objs.size=s.heap.objs.size+1:=ach ..;have old:∀b o,s.heap.get? b=some o->((s.heap.push {cls:=acx "tuple_iterator",data:=Data.fields #[aa0 l,Value.int 0 0]}).push (seqObj "list" #[] 0)).get? b=some o:=λb o g=>aad _ (aad _ g);have lt:∀b o,s.heap.get? b=some o->b≠s.heap.objs.size/\b≠(s.heap.push _).objs.size:=λb o g=>by
  have:=aai g;rw[hsz];exact⟨aay this,aay (abp this)⟩
 refine aal ⟨ab6 abH _,?_⟩;refine vA l1 l2 Bi nd hA hu (lt _ _ ho).1 (lt _ _ ho).2 (by simp) (λi hi=>?_) vs.length 0 _ (by omega) (aaS _)
  ⟨ob,old _ _ ho,hc,n0,hd⟩ ⟨_,aad _ (aan _ rfl),rfl,rfl⟩ (.inl ⟨rfl,0,aan _ rfl⟩) (λi hi=>(hp i hi).mono λo g=>old _ o g) (λi hi h2 tk g=>turn i hi h2 tk λb o _ e=>g b o (lt b o e) (old b o e)) λv h' tk hv g=>h v h' tk hv λc o e=>g c o (lt c o e).1 (lt c o e).2 (old c o e)
 obtain⟨o,_,_,_,g,_⟩:=hp i hi;exact lt _ o g
def Iw(X:Cx)(lq d:Str)(yH:Pos)(P:Addr)(params:Arguments)(body:Expr)(scope:Scope)(i:Nat)(σ:St)(Q:VK):VK:=λv H1=>∃(l:Addr) (ss:List Str) (dd:Addr) (gE:List (Key×V)) (ad:List Addr) (ks:List (Int×Str)),
 v=.ref l/\AF X.K H1 l (ss.map V.str)/\ss.length<64/\σ[i]?=some (some (.ref dd))/\H1 dd=some (.dK gE)/\ad.length=ss.length/\ks.length=ss.length/\(ks.map (·.2)).Nodup /\
 (∀j,j<ss.length->Az gE (aas (ss.getD j ⟨#[]⟩))=some (.ref (ad.getD j 0))/\AF X.K H1 (ad.getD j 0) [.int (ks.getD j k0).1,.str (ks.getD j k0).2]) /\
 DY X lq d yH P params body scope σ H1 λ_ H2=>(ss.length=0->Q .yB H2)/\∀m,DP ks ss.length m->Q (.str (ss.getD m ⟨#[]⟩)) H2
def Li(X:Cx)(lq d:Str)(yH:Pos)(P:Addr)(params:Arguments)(body:Expr)(scope:Scope)(i:Nat)(te:TE):TE:=λσ H Q=>te σ H (Iw X lq d yH P params body scope i σ Q)
variable{X:Cx}{lq d x:Str}{yH p p1 p2 p3 p4 AN Bh pos:Pos}{P c:Addr}{params:Arguments}{scope:Scope}{e:Expr}{te:TE}{i k:Nat}{kd:_}
theorem uY(S:Bk x d params scope)(S2:Bl d params scope)(hr:y9 k X.A)(ID:X.calm=true)(hg:Gl X "max")(hm:X.mg "max" = none)(hq:X.env.qual ++ "<lambda>" = lq)(Aw:X.env.code=.ref c)(hC:aaN X.K c P=true)(hB:BMain X.mg X.base)
  (hi:X.N[i]?=some d) (hd:X.env.kindOf d=some .cell) (hv:Cy X.env.scope d) (he:PE X e te)
  (hs:aag [e] X.env=(false,eval e X.env)::aag [] X.env:=by rfl)
  (h1:backTo pos (aag [e] X.env)=(false,eval e X.env)::backTo pos (aag [] X.env):=by rfl) (h2:(backTo pos (aag [e] X.env)).any (·.1)=false:=by rfl) :
  PE X (.Call (.Name "max" p) [e] [⟨some "key",.Lambda params (.Subscript (.Name d p1) (.Name x p2) p3) scope yH,AN⟩,⟨some "default",.Constant .none kd p4,Bh⟩] pos) (Li X lq d yH P params (.Subscript (.Name d p1) (.Name x p2) p3) scope i te):=by
 intro pins s σ H Q I h;refine abJ (er I hg hm boot_max ?_);refine callWith_kw (zk ((aY he be hs) pos pins s σ H (λvs H1=>match vs with|[v]=>Iw X lq d yH P params (.Subscript (.Name d p1) (.Name x p2) p3) scope i σ Q v H1|_=>False) I h) λus s1 ⟨vs,H1,I1,r1,q1⟩=>?_) h1 h2;dsimp only at q1;split at q1;case h_2=>exact q1.elim
 obtain⟨l,ss,dd,gE,ad,ks,rfl,hl,Bi,hσ,DA,l1,l2,nd,hk,hL⟩:=q1;obtain⟨u,rfl,ru⟩:=r1.one;cases ru;obtain⟨ps,eP,hL⟩:=hL;have MP:dd≠P:=λz=>by rw[z,eP]at DA;cases DA
 have lam:DY X lq d yH P params (.Subscript (.Name d p1) (.Name x p2) p3) scope σ H1 λfv H2=>∃f c' ob,fv=.ref f/\H2 f=some (Bz f ob)/\Cj X lq d params (.Subscript (.Name d p1) (.Name x p2) p3) scope c' ob/\H2 c'=some (zZ c' lq)/\(∀b o,H1 b=some o->b≠P->H2 b=some o) /\
   ((ss.length=0->Q .yB H2)/\∀m,DP ks ss.length m->Q (.str (ss.getD m ⟨#[]⟩)) H2):=by
  refine⟨ps,eP,hL.1,?_⟩;rcases hL.2 with ⟨g1,g2⟩|⟨c',g1,g2,g3⟩
  .refine .inl ⟨g1,λc' f ob a1 a2 a3 a4 a5 a6=>⟨f,c',ob,rfl,aj,a6,?_,λb o hb hP=>?_,g2 c' f ob a1 a2 a3 a4 a5 a6⟩⟩
   .rw[ae a3,aj]
   .rw[ae (au hb a2),ae (au hb a1),ae hP];exact hb
  .refine .inr ⟨c',g1,g2,λf ob a1 a2=>⟨f,c',ob,rfl,aj,a2,?_,λb o hb _=>?_,g3 f ob a1 a2⟩⟩
   .rw[ae (au g2 a1)];exact g2
   .rw[ae (au hb a1)];exact hb
 refine zk ((fG (nH S2 hq Aw hC hB hd) (fG nG nA)) pos pins s1 σ H1 (λvs H2=>match vs with|[fv,dv]=>dv=.yB/\∃f c' ob,fv=.ref f/\H2 f=some (Bz f ob)/\Cj X lq d params (.Subscript (.Name d p1) (.Name x p2) p3) scope c' ob/\H2 c'=some (zZ c' lq)/\(∀b o,H1 b=some o->b≠P->H2 b=some o)/\((ss.length=0->Q .yB H2)/\∀m,DP ks ss.length m->Q (.str (ss.getD m ⟨#[]⟩)) H2)|_=>False) I1 ?_) λws s2 ⟨zs,H2,I2,rz,q2⟩=>?_
 .obtain⟨Ir,e1,e2,e3⟩:=lam;refine⟨Ir,e1,e2,?_⟩;rcases e3 with ⟨g1,g2⟩|⟨c',g1,g2,g3⟩
  .exact .inl ⟨g1,λc' f ob a1 a2 a3 a4 a5 a6=>⟨rfl,g2 c' f ob a1 a2 a3 a4 a5 a6⟩⟩
  .exact .inr ⟨c',g1,g2,λf ob a1 a2=>⟨rfl,g3 f ob a1 a2⟩⟩
 dsimp only at q2;split at q2;case h_2=>exact q2.elim
 obtain⟨rfl,f,c',ob,rfl,ef,⟨cell,Hj,An,rfl⟩,ec,keep,PX,hQ⟩:=q2;obtain⟨u,u2,rfl,ru,OK⟩:=rz.two;cases ru;cases OK;obtain⟨nE,rv,⟨o,g1,g2,n0,g3⟩,hz⟩:=I2.tuple (dM eP keep hl);have hlen:nE.length=ss.length:=by have:=rv.length;rw[aae]at this;exact this.symm
 have JB:∀j,j<ss.length->∃t,nE.getD j aa5=.str (ss.getD j ⟨#[]⟩) t:=λj hj=>by
  obtain⟨u,hu,ru⟩:=rv.get (i:=j) (show (ss.map V.str)[j]?=some (.str (ss.getD j ⟨#[]⟩))by rw[aah,aaa hj,aac,aaa hj];rfl);obtain⟨t,rfl⟩:=ru;exact⟨t,by rw[aac,hu];rfl⟩
 have cellAt:s2.heap.IsCell cell (some (.ref dd)):=by
  obtain⟨m,_,GI⟩:=I2.loc;obtain⟨u,ru,lk⟩:=GI i d _ hi hσ hv;cases ru;rcases lk with ⟨y,_⟩|⟨_,c2,y1,y2⟩
  .rw[hd]at y;cases y
  .rw[An]at y1;cases y1;exact y2
 have lim:s2.heap.NoLimit:=I2.mod.nolimit.keeps I2.bk;refine xw (d:=.none) (vs:=nE) (ad:=ad) (ks:=ks) (I2.ok.hd ID) (by have:=hr.un;show X.A.units+1<cLine;omega) g1 g2 g3 (by omega) (by omega) (by omega) nd (λj hj=>?_) (λj hj h tk kk=>?_) λv h' tk hv kk=>?_
 .obtain⟨Aa,Lu,Ld,_⟩:=I2.tuple (dM eP keep (hk j (by omega)).2);exact lw Lu Ld
 .obtain⟨t,et⟩:=JB j (by omega);rw[et];have D7  := λb o g=>kk b o trivial g;have I3:Inv X pins σ H2 {s2 with heap:=h,toks:=tk}:=I2.kept D7;refine jT S I3 ?_ (D7 _ _ (I2.yL f _ ef).1) ?_ (lim.keeps D7) ?_ (keep _ _ DA MP) (hk j (by omega)).1
  .have:=hr.dp;show X.A.depth<recursionLimit;omega
  .exact(I2.yL c' _ ec).2.2 _ _ (I2.yL c' _ ec).1 λo g=>D7 _ _ g
  .obtain⟨o,y,r⟩:=cellAt;exact⟨o,D7 _ _ y,r⟩
 .rcases hv with ⟨e0,rfl⟩|⟨m,mx,rfl⟩
  .exact⟨.yB,H2,I2.kept kk,rfl,PX (by omega)⟩
  .rw[hlen]at mx;obtain⟨t,et⟩:=JB m mx.1;rw[et];exact⟨.str _,H2,I2.kept kk,⟨t,rfl⟩,hQ m mx⟩
end L2
namespace Q
open PySem L2 PyProof.Rows PySem.W
variable{X:Cx}{lq d x:Str}{yH p p1 p2 p3 p4 AN Bh pos:Pos}{T c:Addr}{params:Arguments}{scope:Scope}{e:Expr}{f:WE}{i j k:Nat}{ob:zP}{kd:_}
end Q
namespace L2
open PySem PySem.Spec PyProof.Rows
variable{P:aaA}{w:World}{K:aaf}{mg:Str->Option Value}{k:Nat}{a:Addr}{fd:abl}{x:Str}{sp:Sp}{vs:List Value}
def qx{mb:Str->Option Value}{fa:Addr}{Ts:List Addr}{s₁:Shared}{ns:List Int}
  (KX:K.In s₁.heap) (FV:s₁.heap.Ns aaJ mg) (hb:s₁.heap.Ns adU mb) (Tb:∀x:Str,x ≠ "__name__" -> mb x=ab2 x) (JO:s₁.heap.NoLimit) (hg:s₁.gens=#[])
  (ha:s₁.heap.get? a=some {cls:=.type "list",data:=.seq vs.toArray}) (hi:IntsAre vs ns) (hl:ns.length<=sizeLine) (hr:y9 k aek) (hC:∀T∈Ts,∃c,aaN K c T=true) (hT:∀T∈Ts,s₁.heap.get? T=some (acW #[])) (PZ:∀T∈Ts,K.lookup T=none) (hB:BMain mg s₁.heap)
  (F:∀base:Heap,K.In base->base.Ns aaJ mg->BMain mg base->yG P w K mg base zB k fa fd [x] sp) (MB:∀(s:Shared) (u:Value),BindsTo s fd ⟨[u],[]⟩ [(x,u)])
  (Ha:∀H:Hp,Ar K H a (ns.map V.int)->(∀T∈Ts,H T=some (Ai T #[]))->sp [.ref a] H (λv H'=>v=.bl true/\∀T∈Ts,∃ps,H' T=some (Ai T ps)) λ_ _ _=>False) :
  adn (model P w) aek (.call (.ref fa) ⟨[.ref a],[]⟩) (λr s'=>r=.ok (.ret (.bool true))/\OldK s₁.heap s'.heap/\s'.os=s₁.os/\adD s'.gens) s₁:=by
 have rv:=ma hi;have O2:=hi.length;have Rj:a∉Ts:=λz=>by rw[hT a z]at ha;cases ha
 have core:∀H:Hp,(∀b,H b=none\/(∃o xs,H b=some (.Bf o (.lst xs)))\/b∈Ts)->Ar K H a (ns.map V.int)->(∀T∈Ts,H T=some (Ai T #[]))->Bc P w H s₁.heap->(∀b,H b≠none->b=a\/b∈Ts)->(H a≠none->K.lookup a=none) ->
   adn (model P w) aek (.call (.ref fa) ⟨[.ref a],[]⟩) (λr s'=>r=.ok (.ret (.bool true))/\OldK s₁.heap s'.heap/\s'.os=s₁.os/\adD s'.gens) s₁:=by
  intro H hO hS P2 yL hA hK;have DK:∀{b:Addr} {o:Obj},s₁.heap.get? b=some o->H b=none->(C7 s₁.heap H).get? b=some o:=λe n=>t5 e n;have plain:∀{b:Addr} {o:Obj},s₁.heap.get? b=some o->o≠{cls:=.type "list",data:=.seq vs.toArray}->o≠acW #[]->H b=none:=λ{b o} e n1 n2=>by
   cases q:H b with
   |none=>rfl
   |some u=>
    rcases hA b (by rw[q];simp)with z|z
    .rw[z,ha]at e;cases e;exact absurd rfl n1
    .rw[hT b z]at e;cases e;exact absurd rfl n2
  have LR:∀{b:Addr} {o:Obj} {es:Array DictEntry} {ep:Nat},s₁.heap.get? b=some o->o.data=.dict es ep->H b=none:=λ{b o es ep} e d=>plain e (λz=>by rw[z]at d;cases d) (λz=>by rw[z]at d;cases d);have Nu:∀{b:Addr} {m:Str->Option Value},s₁.heap.Ns b m->(C7 s₁.heap H).Ns b m:=λ{b m} ⟨o,es,ep,e,d,r⟩=>⟨o,es,ep,DK e (LR e d),d,r⟩
  have Rm:K.In (C7 s₁.heap H):=λb o e=>DK (KX b o e) (by
   cases q:H b with
   |none=>rfl
   |some u=>
    rcases hA b (by rw[q];simp)with z|z
    .subst z;rw[hK (by rw[q];simp)]at e;cases e
    .rw[PZ b z]at e;cases e)
  have Tq:BMain mg (C7 s₁.heap H):=by
   obtain⟨bm,o,b1,b2,b3,b4,b5,b6⟩:=hB.ex;exact⟨bm,o,b1,b2,DK b3 (plain b3 (λz=>by rw[z]at b6;cases b6) (λz=>by rw[z]at b6;cases b6)),b4,b5,b6⟩
  have hM:Mod K mg (C7 s₁.heap H):=⟨Rm,Nu FV,⟨mb,Nu hb,Tb⟩,let ⟨mc,h1,h2⟩:=JO;⟨mc,Nu h1,h2⟩⟩
  have e0:Ig P w K mg (C7 s₁.heap H) aek [] s₁ H:=⟨rfl,hM,λb o e=>vy e,ad7 (se _ _),trivial,λb hb=>absurd (show b∈([]:List Addr)from hb) (by simp),yL,.of_eq hg⟩
  refine codeAny_mono ((F _ Rm (Nu FV) Tq).run aek [] s₁ H ⟨[.ref a],[]⟩ [.ref a] [.ref a] _ _ hr e0 (MB s₁ (.ref a)) (.cons rfl .nil) (Ha H hS P2)) λr s' h=>?_;cases r with
  |error e=>exact(show False from h).elim
  |ok fl=>
   cases fl with
   |next=>exact ack h
   |brk=>exact ack h
   |cont=>exact ack h
   |ret u=>
    obtain⟨v,H',os,bare,un,Mt,r',q,NM⟩:=h;subst q;obtain rfl:u=Value.bool true:=r';have gT:∀T∈Ts,∃ps,s'.heap.get? T=some (acW ps):=λT h=>by
     obtain⟨ps,e⟩:=NM T h;exact⟨ps,(Mt T _ e).1⟩
    have keep:∀b o,s₁.heap.get? b=some o->b∉Ts->s'.heap.get? b=some o:=λb o e PN=>by
     cases q:H b with
     |none=>exact un.keep b o e q (by intro z;exact absurd (show b∈([]:List Addr)from z) (by simp)) (by simp)
     |some u=>
      rcases hO b with z|⟨ob,xs,z⟩|z
      .rw[q]at z;cases z
      .have z2:=un.DC b ob _ z;obtain⟨e1,_⟩:=yL b _ z;obtain⟨e2,_⟩:=Mt b _ z2;rw[e]at e1;cases e1;exact e2
      .exact absurd z PN
    refine⟨rfl,⟨λb o e=>?_,λb o e=>?_⟩,os,bare⟩
    .by_cases z:b∈Ts
     .obtain⟨c,hc⟩:=hC b z;obtain⟨ps,g⟩:=gT b z;rw[hT b z]at e;cases e;exact .inr (.inl ⟨((PySem.W.codeHd_of_K KX hc).tab (hT b z)).isCodeTable,rfl,#[],ps,rfl,by rw[Array.empty_append];exact g⟩)
     .exact .inl (keep b o e z)
    .by_cases z:b∈Ts
     .obtain⟨ps,g⟩:=gT b z;exact⟨_,g⟩
     .exact⟨o,keep b o e z⟩
 cases hk:K.lookup a with
 |some o=>
  have e:=KX a o hk;rw[ha]at e;cases e;refine core (λb=>if b∈Ts then some (Ai b #[])else none) (λb=>?_) (.inr ⟨_,vs.toArray,_,hk,rfl,rfl,rfl,by rw[aam,O2];exact hl,by simpa using rv⟩) (λT h=>if_pos h) (λb u z=>?_) (λb z=>?_) λz=>absurd (if_neg Rj) z
  .by_cases hb:b∈Ts
   .exact .inr (.inr hb)
   .exact .inl (if_neg hb)
  .by_cases hb:b∈Ts
   .have z':=(if_pos hb).symm.trans z;cases z';exact m4 (hT b hb)
   .have z':=(if_neg hb).symm.trans z;cases z'
  .by_cases hb:b∈Ts
   .exact .inr hb
   .exact absurd (if_neg hb) z
 |none=>
  refine core (λb=>if b∈Ts then some (Ai b #[])else if b=a then some (.Bf {cls:=.type "list",data:=.seq vs.toArray} (.lst (ns.map V.int)))else none) (λb=>?_) (.inl (.inr ⟨{cls:=.type "list",data:=.seq vs.toArray},(if_neg Rj).trans (if_pos rfl)⟩)) (λT h=>if_pos h) (λb u z=>?_) (λb z=>?_) λ_=>hk
  .by_cases hb:b∈Ts
   .exact .inr (.inr hb)
   .by_cases Eu:b=a
    .exact .inr (.inl ⟨_,_,(if_neg hb).trans (if_pos Eu)⟩)
    .exact .inl ((if_neg hb).trans (if_neg Eu))
  .by_cases hb:b∈Ts
   .have z':=(if_pos hb).symm.trans z;cases z';exact m4 (hT b hb)
   .have z:=(if_neg hb).symm.trans z;by_cases Eu:b=a
    .have z:=(if_pos Eu).symm.trans z;cases z;subst Eu;exact⟨ha,by rw[aae];exact hl,vs,_,rv,ha⟩
    .have z:=(if_neg Eu).symm.trans z;cases z
  .by_cases hb:b∈Ts
   .exact .inr hb
   .by_cases Eu:b=a
    .exact .inl Eu
    .exact absurd ((if_neg hb).trans (if_neg Eu)) z
variable{n:Nat}
def qM{l:aeo}{q:aaA}{loose:List Str}{XP:(Str->Option Value)->Heap->Prop}{YP:World->Heap->Prop}{d:DefRec}{K:Params->aaf}{sp:World->Sp}{Ts:List Addr}
  (hn:l.most=some n) (SK:n<=sizeLine) (MA:d.params.defaults=[]) (hr:y9 k aek)
  (hY:∀(w:World) (h:Heap),YP w h->(K w.params).In h/\∀T∈Ts,h.get? T=some (acW #[])) (PZ:∀(w:World),∀T∈Ts,(K w.params).lookup T=none)
  (F:∀(w:World) (mg:Str->Option Value) (fa:Addr) (h:Heap),(K w.params).In h->h.Ns aaJ mg->mg d.name=some (.ref fa) ->
   ∃fd:abl,(∀(s:Shared) (u:Value),BindsTo s fd ⟨[u],[]⟩ [(x,u)])/\(∀T∈Ts,∃c,aaN (K w.params) c T=true) /\
    ∀base:Heap,(K w.params).In base->base.Ns aaJ mg->BMain mg base->yG l.prog w (K w.params) mg base zB k fa fd [x] (sp w))
  (Ha:∀(w:World) (H:Hp) (a:Addr) (ns:List Int),ns.length<=n->Ar (K w.params) H a (ns.map V.int)->(∀T∈Ts,H T=some (Ai T #[]))->sp w [.ref a] H (λv H'=>v=.bl true/\∀T∈Ts,∃ps,H' T=some (Ai T ps)) λ_ _ _=>False) :
  PySem.W.WalkO q loose XP YP l.row.toRowW d [] (λf vs=>PySem.call f vs):=by
 refine Att.Ee hn MA λw s₀ s₁ mg mb fa o pm cd doc a vs ns G Y ho hd Cr hmg JM hints hlen hg=>?_;obtain⟨KX,hT⟩:=hY w _ Y;obtain⟨fd,hb,hC,hF⟩:=F w mg fa _ KX G.T.g hmg;have hB:BMain mg s₁.heap:=by
  obtain⟨bm,ob,b1,b2,b3,b4,b5,b6⟩:=G.T.bmain;exact⟨bm,ob,b1,b2,b3,b4,b5,b6⟩
 exact qx KX G.T.g G.T.b G.T.builtins G.T.nolimit hg JM hints (aa4 hlen SK) hr hC hT (PZ w) hB hF hb (λH hS P2=>Ha w H a ns hlen hS P2)
end L2
namespace Q
open PySem L2 PyProof.Rows PySem.W
inductive Ef:PV->PV->Prop where
 |one (x:PV):Ef x x
 |fst (x y:PV):Ef (.tup [x,y]) x
 |snd (x y:PV):Ef (.tup [y,x]) x
 |mid (x y z:PV):Ef (.tup [y,.tup [x,z]]) x
 |QD (x y z:PV):Ef (.tup [y,.tup [z,x]]) x
variable{lq:Str}{ln co:Nat}{T:Addr}{x y:PV}
def dZ(h:zm lq ln co T=.tup [x,y]):False:=by unfold zm at h;simp at h
variable{H:Hp}{a:Addr}{l:List Addr}
def cq(h:TabAt H a l (zm lq ln co T)):a=T:=by
 obtain⟨_,_,_,_,q,_⟩:=h;exact(ph q).2.2.2.symm
def sQ(h:TabsAt H a l (zm lq ln co T)):TabAt H a l (zm lq ln co T):=by
 cases h with
 |one h=>exact h
def jz(h:TabsAt H a l (.tup [x,y])):∃(T:Addr) (l1 l2:List Addr),l=l1++l2/\TabAt H a l1 x/\TabAt H T l2 y/\∀b∈l1,b∉l2:=by
 cases h with
 |one h=>
  obtain⟨_,_,_,_,q,_⟩:=h;exact(dZ q.symm).elim
 |two h1 h2 h3=>exact⟨_,_,_,rfl,h1,h2,h3⟩
variable{K:aaf}{F:Hp}
def sR{cc:PV}(hc:Ef cc (zm lq ln co T))(ho:(zT K).P F H a l cc):
  ∃l0 rest:List Addr,TabAt H T l0 (zm lq ln co T)/\(∀b,b∈l↔b∈l0\/b∈rest)/\(∀b∈l0,b∉rest)/\∀(H':Hp) (D6:List Addr),TabAt H' T D6 (zm lq ln co T)->(∀b∈rest,H' b=H b)->(∀b∈D6,b∉rest)->∃l',(zT K).P F H' a l' cc/\∀b,b∈l'↔b∈D6\/b∈rest:=by
 cases hc with
 |one=>
  rcases ho with (⟨q,_⟩|⟨_,_,q,_⟩)|⟨_,q,_⟩|ht|⟨_,_,_,_,_,q,_⟩
  .cases q
  .cases q
  .cases q
  .obtain rfl:=cq ht;exact⟨l,[],ht,λb=>by simp,λb _=>by simp,λH' D6 h _ _=>⟨D6,.inr (.inr (.inl h)),λb=>by simp⟩⟩
  .exact(dZ q).elim
 |fst _ y=>
  rcases ho with (⟨q,_⟩|⟨_,_,q,_⟩)|⟨_,q,_⟩|⟨_,_,_,_,q,_⟩|⟨x1,x2,T2,l1,l2,q,rfl,h1,h2,h3⟩
  .cases q
  .cases q
  .cases q
  .exact(dZ q.symm).elim
  .injection q with q;injection q with q1 q;injection q with q2 _;subst q1 q2;obtain rfl:=cq h1;exact⟨l1,l2,h1,λb=>aa9,h3,λH' D6 h e dj=>⟨D6++l2,.inr (.inr (.inr ⟨_,_,T2,D6,l2,rfl,rfl,h,h2.mono e,dj⟩)),λb=>aa9⟩⟩
 |snd _ y=>
  rcases ho with (⟨q,_⟩|⟨_,_,q,_⟩)|⟨_,q,_⟩|⟨_,_,_,_,q,_⟩|⟨x1,x2,T2,l1,l2,q,rfl,h1,h2,h3⟩
  .cases q
  .cases q
  .cases q
  .exact(dZ q.symm).elim
  .injection q with q;injection q with q1 q;injection q with q2 _;subst q1 q2;replace h2:=sQ h2;obtain rfl:=cq h2;exact⟨l2,l1,h2,λb=>by rw[aa9];exact Or.comm,λb hb z=>h3 b z hb,λH' D6 h e dj=>⟨l1++D6,.inr (.inr (.inr ⟨_,_,_,l1,D6,rfl,rfl,h1.mono e,.one h,λb hb z=>dj b z hb⟩)),λb=>by rw[aa9];exact Or.comm⟩⟩
 |mid _ y z=>
  rcases ho with (⟨q,_⟩|⟨_,_,q,_⟩)|⟨_,q,_⟩|⟨_,_,_,_,q,_⟩|⟨x1,x2,T2,l1,l2,q,rfl,h1,h2,h3⟩
  .cases q
  .cases q
  .cases q
  .exact(dZ q.symm).elim
  .injection q with q;injection q with q1 q;injection q with q2 _;subst q1 q2;obtain⟨T3,m1,m2,rfl,k1,k2,k3⟩:=jz h2;obtain rfl:=cq k1;refine⟨m1,l1++m2,k1,λb=>by simp only[aa9];exact⟨λz=>z.elim (λz=>.inr (.inl z)) λz=>z.elim .inl λz=>.inr (.inr z),λz=>z.elim (λz=>.inr (.inl z)) λz=>z.elim .inl λz=>.inr (.inr z)⟩,λb hb z=>(List.mem_append.mp z).elim (λz=>h3 b z (aaD _ hb)) (k3 b hb),λH' D6 h e dj=>⟨l1++(D6++m2),.inr (.inr (.inr ⟨_,_,_,l1,D6++m2,rfl,rfl,h1.mono λb hb=>e b (aaD _ hb),.two h (k2.mono λb hb=>e b (aao _ hb)) λb hb z=>dj b hb (aao _ z),λb hb z=>(List.mem_append.mp z).elim (λz=>dj b z (aaD _ hb)) λz=>h3 b hb (aao _ z)⟩)),λb=>by simp only[aa9];exact⟨λz=>z.elim (λz=>.inr (.inl z)) λz=>z.elim .inl λz=>.inr (.inr z),λz=>z.elim (λz=>.inr (.inl z)) λz=>z.elim .inl λz=>.inr (.inr z)⟩⟩⟩
 |QD _ y z=>
  rcases ho with (⟨q,_⟩|⟨_,_,q,_⟩)|⟨_,q,_⟩|⟨_,_,_,_,q,_⟩|⟨x1,x2,T2,l1,l2,q,rfl,h1,h2,h3⟩
  .cases q
  .cases q
  .cases q
  .exact(dZ q.symm).elim
  .injection q with q;injection q with q1 q;injection q with q2 _;subst q1 q2;obtain⟨T3,m1,m2,rfl,k1,k2,k3⟩:=jz h2;obtain rfl:=cq k2;refine⟨m2,l1++m1,k2,λb=>by simp only[aa9];exact⟨λz=>z.elim (λz=>.inr (.inl z)) λz=>z.elim (λz=>.inr (.inr z)) .inl,λz=>z.elim (λz=>.inr (.inr z)) λz=>z.elim .inl λz=>.inr (.inl z)⟩,λb hb z=>(List.mem_append.mp z).elim (λz=>h3 b z (aao _ hb)) λz=>k3 b z hb,λH' D6 h e dj=>⟨l1++(m1++D6),.inr (.inr (.inr ⟨_,_,_,l1,m1++D6,rfl,rfl,h1.mono λb hb=>e b (aaD _ hb),.two (k1.mono λb hb=>e b (aao _ hb)) h λb hb z=>dj b z (aao _ hb),λb hb z=>(List.mem_append.mp z).elim (λz=>h3 b hb (aaD _ z)) λz=>dj b z (aaD _ hb)⟩)),λb=>by simp only[aa9];exact⟨λz=>z.elim (λz=>.inr (.inl z)) λz=>z.elim (λz=>.inr (.inr z)) .inl,λz=>z.elim (λz=>.inr (.inr z)) λz=>z.elim .inl λz=>.inr (.inl z)⟩⟩⟩
variable{X:Cx}{Z:Zn}{F1:Hp}{σ:L2.St}{j:Nat}
theorem kR{H1:Hp}{e1:En}{cc:PV}{d:Str}{yH:Pos}{params:Arguments}{body:Expr}{scope:Scope}{R:Hp->Prop}(K1:yx (md (zT X.K) X) Z F1 σ H1 e1)(ej:e1[j]?=some (some ⟨2,cc⟩))(hc:Ef cc (zm lq yH.line yH.col T))
  (hR:∀H2,yx (md (zT X.K) X) Z F1 σ H2 e1->R H2):DY X lq d yH T params body scope σ H1 λ_ H2=>R H2:=by
 obtain⟨fp,L⟩:=K1.sl;obtain⟨vt,hσt,R7⟩:=L.at' j _ ej;obtain⟨a,rfl,ho⟩:∃a,vt=.ref a/\(zT X.K).P F1 H1 a (fp j) cc:=by
  rcases R7 with ⟨q,_⟩|⟨q,_⟩|⟨_,a,e,_,ho⟩|⟨q,_⟩
  .cases q
  .cases q
  .exact⟨a,e,ho⟩
  .cases q
 obtain⟨l0,rest,ht,hm,S9,Po⟩:=sR hc ho;obtain⟨O1,ln,co,ps,q,t1,t2,t3⟩:=ht;obtain⟨rfl,e2,e3,_⟩:=ph q;have ec:∀l,ace ⟨ln,co,0,0⟩ l=ace yH l:=jt e2.symm e3.symm;have NL:T∈l0:=by
  rcases t3 with ⟨q,_⟩|⟨_,_,q,_⟩<;>rw[q]<;>simp
 have al:∀b∈fp j,H1 b≠none/\F1 b=none:=L.al j;have Ro:F1 T=none:=(al T ((hm T).mpr (.inl NL))).2;refine⟨ps,t1,t2,?_⟩;rcases t3 with ⟨My,GH⟩|⟨c',hne,My,Mp,JT⟩
 .rw[ec]at GH;refine .inl ⟨GH,λc' f' ob a1 a2 a3 a4 a5 _=>hR _ ?_⟩;have old:∀b o,H1 b=some o->b≠T->(upd (upd (upd H1 T (Ai T (ps++#[rawInt yH.line,rawInt yH.col,.ref c']))) c' (zZ c' lq)) f' (Bz f' ob)) b=some o:=λb o hb PN=>by
   rw[ae (au hb a2),ae (au hb a1),ae PN];exact hb
  have eT:(upd (upd (upd H1 T (Ai T (ps++#[rawInt yH.line,rawInt yH.col,.ref c']))) c' (zZ c' lq)) f' (Bz f' ob)) T=some (Ai T (ps++#[rawInt yH.line,rawInt yH.col,.ref c'])):=by
   rw[ae (abm a5),ae (abm a4),aj]
  have eC:(upd (upd (upd H1 T (Ai T (ps++#[rawInt yH.line,rawInt yH.col,.ref c']))) c' (zZ c' lq)) f' (Bz f' ob)) c'=some (zZ c' lq):=by
   rw[ae a3,aj]
  generalize (upd (upd (upd H1 T (Ai T (ps++#[rawInt yH.line,rawInt yH.col,.ref c']))) c' (zZ c' lq)) f' (Bz f' ob))=H2 at old eT eC ⊢;have tl:(ps++#[rawInt yH.line,rawInt yH.col,aa0 c']).toList=ps.toList++[rawInt yH.line,rawInt yH.col,aa0 c']:=by simp
  have rs:∀b∈rest,b≠T/\∃o,H1 b=some o:=λb hb=>⟨λz=>S9 T NL (z ▸ hb),cg (al b ((hm b).mpr (.inr hb))).1⟩
  obtain⟨l',Cb,JN⟩:=Po H2 [T,c'] ⟨lq,yH.line,yH.col,_,rfl,eT,by rw[tl];exact TriplesOk_snoc _ _ _ _ t2,.inr ⟨c',a4,rfl,by rw[tl];exact(jt (p:=⟨yH.line,yH.col,0,0⟩) (q:=yH) rfl rfl _).trans (codeAmong_snoc _ t2 GH),eC⟩⟩
   (λb hb=>by
    obtain⟨z,o,e⟩:=rs b hb;rw[e,old b o e z]) (λb hb z=>by
    rcases List.mem_cons.mp hb with rfl|hb
    .exact(rs _ z).1 rfl
    .rw[List.mem_singleton.mp hb]at z;obtain⟨_,o,e⟩:=rs _ z;rw[a1]at e;cases e)
  have K2:=(K1.HE (.inl rfl) L ej hσt (l':=l') (F':=F1) (H':=H2) (c':=cc) (λb o hb hn=>old b o hb λz=>hn ((hm b).mpr (.inl (z ▸ NL)))) (λb hb=>?_) ak (λb o hb=>old b o (K1.sF b o hb) λz=>by rw[z,Ro]at hb;cases hb) (λb hb=>.inl hb) Cb (λb hb=>?_) (λb hb=>?_)).1
  .rw[sW ej]at K2;exact K2
  .by_cases z:b=T
   .rw[z,eT];simp
   .obtain⟨o,ho⟩:=cg hb;rw[old b o ho z];simp
  .rcases(JN b).mp hb with hb|hb
   .rcases List.mem_cons.mp hb with rfl|hb
    .exact⟨by rw[eT];simp,Ro⟩
    .rw[List.mem_singleton.mp hb];exact⟨by rw[eC];simp,eQ.none_of K1.sF a1⟩
   .obtain⟨z,o,e⟩:=rs b hb;exact⟨by rw[old b o e z];simp,(al b ((hm b).mpr (.inr hb))).2⟩
  .rcases(JN b).mp hb with hb|hb
   .rcases List.mem_cons.mp hb with rfl|hb
    .exact .inl ((hm _).mpr (.inl NL))
    .rw[List.mem_singleton.mp hb];exact .inr a1
   .exact .inl ((hm b).mpr (.inr hb))
 .refine .inr ⟨c',(ec _).symm.trans Mp,JT,λf' ob a1 _=>hR _ ?_⟩;have sH:eQ H1 (upd H1 f' (Bz f' ob)):=aA a1;exact K1.move ak (ah K1.sF sH) sH λ_ h=>.inl h
variable{i:Nat}
def lL{H1:Hp}{e1:En}{gE:List (Key×PV)}{ss:List Str}{ks:List (Int×Str)}(K1:yx (md (zT X.K) X) Z F1 σ H1 e1)(ei:e1[i]?=some (some ⟨0,.zh gE⟩))
  (Dz:∀m,m<ss.length->Ah gE (aas (ss.getD m ⟨#[]⟩))=some (.tup [.int (ks.getD m k0).1,.str (ks.getD m k0).2])) :
  ∃(dd:Addr) (vs:List (Key×V)) (ad:List Addr),σ[i]?=some (some (.ref dd))/\H1 dd=some (.dK vs)/\ad.length=ss.length/\∀m,m<ss.length->Az vs (aas (ss.getD m ⟨#[]⟩))=some (.ref (ad.getD m 0))/\AF X.K H1 (ad.getD m 0) [.int (ks.getD m k0).1,.str (ks.getD m k0).2]:=by
 obtain⟨fp,L⟩:=K1.sl;obtain⟨vr,hσ,R8⟩:=L.at' i _ ei;obtain⟨dd,E5,rfl,DA,rk⟩:∃dd E5,vr=.ref dd/\F1 dd=some (.dK E5)/\yC X.K F1 E5 gE:=by
  rcases R8 with ⟨_,_,r⟩|⟨q,_⟩|⟨q,_⟩|⟨q,_⟩
  .cases r with
   |zh a b=>exact⟨_,_,rfl,a,b⟩
  .cases q
  .rcases q with q|q<;>cases q
  .cases q
 have ex:∀m:Nat,∃a:Addr,m<ss.length->Az E5 (aas (ss.getD m ⟨#[]⟩))=some (.ref a)/\AF X.K F1 a [.int (ks.getD m k0).1,.str (ks.getD m k0).2]:=λm=>by
  by_cases hm:m<ss.length
  .have hv:=Dz m hm;rcases rk.val (k:=aas (ss.getD m ⟨#[]⟩))with ⟨_,q⟩|⟨v,x,q1,q2,q3⟩
   .rw[q]at hv;cases hv
   .rw[hv]at q2;cases q2;cases q3 with
    |tup g1 g2=>
     cases g2 with
     |cons g2 g3=>cases g3 with
      |cons g3 g4=>cases g4;cases g2;cases g3;exact⟨_,λ_=>⟨q1,g1⟩⟩
  .exact⟨0,λh=>absurd h hm⟩
 obtain⟨g,Rg⟩:=Classical.axiomOfChoice ex;have Up:∀m,m<ss.length->((aaZ ss.length).map g).getD m 0=g m:=λm hm=>by
  rw[aac,aah,abS hm];rfl
 exact⟨dd,E5,(aaZ ss.length).map g,hσ,K1.sF _ _ DA,by simp,λm hm=>by
  rw[Up m hm];exact⟨(Rg m hm).1,aw K1.sF (Rg m hm).2⟩⟩
def Kk(lq:Str)(ln co:Nat)(T:Addr)(c:PV)(ys:List PV)(gE:List (Key×PV))(ss:List Str)(ks:List (Int×Str)):Prop:=Ef c (zm lq ln co T)/\ys.mapM DZ=some ss/\ss.length<64/\ks.length=ss.length/\(ks.map (·.2)).Nodup /\
  ∀m,m<ss.length->Ah gE (aas (ss.getD m ⟨#[]⟩))=some (.tup [.int (ks.getD m k0).1,.str (ks.getD m k0).2])
def lS(j i:Nat)(lq:Str)(ln co:Nat)(T:Addr)(f:WE):WE:=λenv P=>f env λx e=>match x,e[i]?,e[j]? with
 |.tup ys,some (some ⟨0,.zh gE⟩),some (some ⟨2,c⟩)=>∃(ss:List Str) (ks:List (Int×Str)),Kk lq ln co T c ys gE ss ks/\∀ix,Ib ks ss.length ix->P (.lst (ix.map λm=>.str (ss.getD m ⟨#[]⟩))) e
 |_,_,_=>False
def E1(j i:Nat)(lq:Str)(ln co:Nat)(T:Addr)(f:WE):WE:=λenv P=>f env λx e=>match x,e[i]?,e[j]? with
 |.tup ys,some (some ⟨0,.zh gE⟩),some (some ⟨2,c⟩)=>∃(ss:List Str) (ks:List (Int×Str)),Kk lq ln co T c ys gE ss ks/\(ss.length=0->P .yB e)/\∀m,DP ks ss.length m->P (.str (ss.getD m ⟨#[]⟩)) e
 |_,_,_=>False
variable{d x:Str}{yH p p1 p2 p3 p4 AN Bh pos:Pos}{c:Addr}{params:Arguments}{scope:Scope}{e:Expr}{f:WE}{k:Nat}{ob:zP}{kd:_}
theorem sv(j i:Nat)(S:Bk x d params scope)(S2:Bl d params scope)(hr:y9 k X.A)(hg:Gl X "sorted")(hm:X.mg "sorted" = none)(hq:X.env.qual ++ "<lambda>" = lq)(Aw:X.env.code=.ref c)(hC:aaN X.K c T=true)(hB:BMain X.mg X.base)
  (hi:X.N[i]?=some d) (hd:X.env.kindOf d=some .cell) (hv:Cy X.env.scope d) (ha:yW ob X e f) (ER:ob=zT X.K:=by rfl)
  (hs:aag [e] X.env=(false,eval e X.env)::aag [] X.env:=by rfl)
  (h1:backTo pos (aag [e] X.env)=(false,eval e X.env)::backTo pos (aag [] X.env):=by rfl) (h2:(backTo pos (aag [e] X.env)).any (·.1)=false:=by rfl) :
  Ie ob X (.Call (.Name "sorted" p) [e] [⟨some "key",.Lambda params (.Subscript (.Name d p1) (.Name x p2) p3) scope yH,AN⟩] pos) (lS j i lq yH.line yH.col T f):=by
 subst ER;obtain⟨te,Mm,Mf⟩:=ha.ex;refine⟨_,tw (i:=i) S S2 hr hg hm hq Aw hC hB hi hd hv Mm hs h1 h2,λZ F σ H env Pp Q K hf kk=>?_⟩;refine Mf Z F σ H env _ _ K hf λy e1 v F1 H1 p s1 K1 r1=>?_;split at p;case h_2=>exact p.elim
 rename_i ys gE cc ei ej;obtain⟨ss,ks,⟨hc,Ky,Bi,l2,nd,Dz⟩,p⟩:=p;cases r1 with
 |tup hl JJ=>
 have:=cv fC Ky JJ;subst this;obtain⟨dd,E5,ad,hσ,DA,l1,hk⟩:=lL K1 ei Dz;have OL:∀ix:List Nat,yA X.K F1 (ix.map λm=>V.str (ss.getD m ⟨#[]⟩)) (ix.map λm=>PV.str (ss.getD m ⟨#[]⟩)):=λix=>by
  induction ix with
  |nil=>exact .nil
  |cons a r ih=>exact .cons (.str _) ih
 exact⟨_,ss,dd,E5,ad,ks,rfl,aw K1.sF hl,Bi,hσ,DA,l1,l2,nd,hk,kR K1 ej hc λH2 K2 D ix hD ok=>kk _ e1 _ F1 _ (p ix ok) s1 (λ_=>by simp) (K2.own hD ⟨_,aj,OL ix⟩)⟩
theorem ue(j i:Nat)(S:Bk x d params scope)(S2:Bl d params scope)(hr:y9 k X.A)(ID:X.calm=true)(hg:Gl X "max")(hm:X.mg "max" = none)(hq:X.env.qual ++ "<lambda>" = lq)(Aw:X.env.code=.ref c)(hC:aaN X.K c T=true)(hB:BMain X.mg X.base)
  (hi:X.N[i]?=some d) (hd:X.env.kindOf d=some .cell) (hv:Cy X.env.scope d) (ha:yW ob X e f) (ER:ob=zT X.K:=by rfl)
  (hs:aag [e] X.env=(false,eval e X.env)::aag [] X.env:=by rfl)
  (h1:backTo pos (aag [e] X.env)=(false,eval e X.env)::backTo pos (aag [] X.env):=by rfl) (h2:(backTo pos (aag [e] X.env)).any (·.1)=false:=by rfl) :
  yW ob X (.Call (.Name "max" p) [e] [⟨some "key",.Lambda params (.Subscript (.Name d p1) (.Name x p2) p3) scope yH,AN⟩,⟨some "default",.Constant .none kd p4,Bh⟩] pos) (E1 j i lq yH.line yH.col T f):=by
 subst ER;obtain⟨te,Mm,Mf⟩:=ha.ex;refine⟨_,uY (i:=i) S S2 hr ID hg hm hq Aw hC hB hi hd hv Mm hs h1 h2,λZ F σ H env Pp Q K hf kk=>?_⟩;refine Mf Z F σ H env _ _ K hf λy e1 v F1 H1 p s1 K1 r1=>?_;split at p;case h_2=>exact p.elim
 rename_i ys gE cc ei ej;obtain⟨ss,ks,⟨hc,Ky,Bi,l2,nd,Dz⟩,pn,pm⟩:=p;cases r1 with
 |tup hl JJ=>
 have:=cv fC Ky JJ;subst this;obtain⟨dd,E5,ad,hσ,DA,l1,hk⟩:=lL K1 ei Dz;exact⟨_,ss,dd,E5,ad,ks,rfl,aw K1.sF hl,Bi,hσ,DA,l1,l2,nd,hk,kR K1 ej hc λH2 K2=>⟨λz=>kk _ e1 _ F1 _ (pn z) s1 K2 .yB,λm mx=>kk _ e1 _ F1 _ (pm m mx) s1 K2 (.str _)⟩⟩
end Q
namespace L2
open PySem PySem.Spec PyProof.Rows
variable{prog:aaA}{w:World}{A:Around}{E:Value->Shared->Prop}{s:Shared}
variable{X:Cx}{e l:Expr}{te:TE}{tl:TO}{pos p2 p3:Pos}{c:Int}{j:_}
end L2
namespace Q
open PySem L2 PyProof.Rows
end Q
namespace L2
open PySem PySem.Spec PyProof.Rows
def sf(k l:Int×Str):(k.1=l.1/\k.2=l.2/\gtB k l=false)\/(k.1=l.1/\k.2≠l.2/\gtB k l=decide (l.2.cps.toList<k.2.cps.toList))\/(k.1≠l.1/\gtB k l=decide (l.1<k.1)):=by
 by_cases e:k.1=l.1
 .by_cases g:k.2=l.2
  .refine .inl ⟨e,g,decide_eq_false ?_⟩;rintro(z|⟨_,z⟩)
   .omega
   .rw[g]at z;exact acX _ z
  .refine .inr (.inl ⟨e,g,?_⟩);unfold gtB;rw[aa2,decide_eq_true_eq,decide_eq_true_eq];exact⟨λz=>z.elim (λq=>by omega) λq=>q.2,λz=>.inr ⟨e.symm,z⟩⟩
 .refine .inr (.inr ⟨e,?_⟩);unfold gtB;rw[aa2,decide_eq_true_eq,decide_eq_true_eq];exact⟨λz=>z.elim id λq=>absurd q.1.symm e,.inl⟩
variable{prog:aaA}{w:World}{A:Around}{R:Result->Shared->Prop}
def tV(k l:Int×Str):(k.1=l.1/\k.2=l.2/\gtB l k=false)\/(k.1=l.1/\k.2≠l.2/\gtB l k=decide (k.2.cps.toList<l.2.cps.toList))\/(k.1≠l.1/\gtB l k=decide (k.1<l.1)):=by
 rcases sf l k with ⟨a,b,c⟩|⟨a,b,c⟩|⟨a,c⟩
 .exact .inl ⟨a.symm,b.symm,c⟩
 .exact .inr (.inl ⟨a.symm,abm b,c⟩)
 .exact .inr (.inr ⟨abm a,c⟩)
variable{s:Shared}{x y:Addr}{k l:Int×Str}
def tF(hu:A.units<cLine)(hx:y3 s.heap x k)(hy:y3 s.heap y l):M9 A s (.ref x) (.ref y) (gtB l k):=λprog w E Q h=>by
 obtain⟨⟨cls,dd,data,sl⟩,n,t,u,ho,hc,hd⟩:=hx;obtain⟨⟨MS,Hh,data2,G6⟩,n2,t2,u2,Hb,IE,hd2⟩:=hy;subst hc hd IE hd2;refine richCompare_meets_room ⟨_,ho,rfl⟩ ⟨_,Hb,rfl⟩ PySem.F.slot_tuple_lt PySem.F.entry_tuple_lt (PySem.F.args_tuple_lt_2 _ _) (qO x y _ _ n n2 dd Hh sl G6 _)
  ⟨ho,Hb,?_,⟨(λx=>nomatch x),h⟩⟩ hu
 rcases tV k l with ⟨e,g,b⟩|⟨e,g,b⟩|⟨e,b⟩
 .rw[b];have e1:(k.1==l.1)=true:=by simp[e]
  have e2:(k.2==l.2)=true:=by simp[g]
  exact .eq (e1 ▸ ab0 k.1 t l.1 t2) (.eq (e2 ▸ acS k.2 u l.2 u2) .nn)
 .have e1:(k.1==l.1)=true:=by simp[e]
  have e2:(k.2==l.2)=false:=by simp[g]
  refine .eq (e1 ▸ ab0 k.1 t l.1 t2) (.lt (e2 ▸ acS k.2 u l.2 u2) λprog w E Q hq=>?_);rw[b]at hq;exact P.lt_str hq
 .have e1:(k.1==l.1)=false:=by simp[e]
  refine .lt (e1 ▸ ab0 k.1 t l.1 t2) λprog w E Q hq=>?_;rw[b]at hq;exact lt_int hq
end L2
namespace Q
open PySem L2 PyProof.Rows
variable{ob:zP}{X:Cx}
end Q
namespace L2
open PySem PySem.Spec PyProof.Rows PySem.W
variable{prog:aaA}{w:World}{A:Around}{E:Value->Shared->Prop}{s:Shared}
variable{X:Cx}{pins:List (Addr×Obj)}{σ:St}{H:Hp}
variable{k:Nat}{f:Addr}{fd:abl}{ps:List Str}{sp:Sp}
variable{e:Expr}{te:TE}{x:Str}{p p1 p2 pos AN Bh:Pos}{kd:_}
end L2
namespace Q
open PySem L2 PyProof.Rows
variable{ob:zP}{X:Cx}{k:Nat}{fa:Addr}{fd:abl}{ps:List Str}{D:Fd}{e:Expr}{f:WE}{x:Str}{p p1 p2 pos AN Bh:Pos}{kd:_}
open PySem L2
variable{ob:zP}{X:Cx}{k:Nat}{Bg:Addr}{fd:abl}{ps:List Str}{D:Fd}{x y:Str}{p p1 pos:Pos}{e:Expr}{f:WE}
end Q
namespace L2
open PySem PySem.Spec PyProof.Rows PySem.W
def Dd(tp:Bool)(h:Heap)(l:Addr)(vs:List Value):Prop:=if tp=true then h.IsTuple l vs.toArray else h.IsList l vs.toArray
def CW(tp:Bool)(h:Heap)(it l:Addr)(j:Nat):Prop:=if tp=true then h.IsTupleIter it l j else h.IsListIter it l j
variable{tp:Bool}{h:Heap}{it l:Addr}{j:Nat}
theorem CW.at(x:CW tp h it l j):∃o,h.get? it=some o/\(∀v,o.data≠.cell v)/\(o.cls==acx "tuple")=false/\(o.cls==acx "list")=false/\∀h':Heap,h'.get? it=some o->CW tp h' it l j:=by
 cases tp
 .obtain⟨o,e,c,d⟩:=x;exact⟨o,e,(λv z=>by simp_all),(by simp_all),(by simp_all),λh' g=>⟨o,g,c,d⟩⟩
 .obtain⟨o,e,c,d⟩:=x;exact⟨o,e,(λv z=>by simp_all),(by simp_all),(by simp_all),λh' g=>⟨o,g,c,d⟩⟩
def Ei(ks:List (Int×Str))(j i:Nat):Prop:=i<j/\∀m,m<j->m≠i->Dh ks i m=true
variable{prog:aaA}{w:World}{A:Around}{E:Value->Shared->Prop}{R:Result->Shared->Prop}
variable{s:Shared}{vs:List Value}{x:Value}
theorem pq{Q:Option Value->Shared->Prop}(hi:CW tp s.heap it l j)(hl:Dd tp s.heap l vs)(hx:vs[j]?=some x)
  (k:∀h':Heap,CW tp h' it l (j+1)->ads it s.heap h'->Q (some x) {s with heap:=h'}):wpAny (model prog w) A (pyNext (.ref it)) Q E s:=by
 cases tp
 .exact wpAny_pyNext_list_item hi hl (by simp_all) k
 .exact acm hi hl (by simp_all) k
def qU{Q:Option Value->Shared->Prop}(hA:A.handled=none)(hi:CW tp s.heap it l vs.length)(hl:Dd tp s.heap l vs)
  (k:∀h':Heap,Heap.ExtBut it s.heap h'->Q none {s with heap:=h'}):wpAny (model prog w) A (pyNext (.ref it)) Q E s:=by
 cases tp
 .exact wpAny_pyNext_list_end hA hi hl (by simp) k
 .exact acv hA hi hl (by simp) k
variable{b q:Addr}{d:Value}{n:Nat}{ks:List (Int×Str)}
theorem vE{kw:List (Str×Value)}{Pv:Nat->Value->Prop}(J:Shared->List (Addr×(Int×Str))->Prop)(l2:ks.length=n)(nd:(ks.map (·.2)).Nodup)(hA:A.in1.handled=none)(hu:A.in1.units<cLine)(Fx:b≠it)
  (SQ:(kw=[]/\n≠0)\/kw=[(aaG "default",d)])
  (sq:∀s L,J s L->∃vs:List Value,vs.length=n/\Dd tp s.heap l vs/\∀j,j<n->Pv j (vs.getD j .none)) (pr:∀s L,J s L->∀p∈L,y3 s.heap p.1 p.2)
  (step:∀(s:Shared) (L:List (Addr×(Int×Str))) (h':Heap),J s L->(∀c o,c≠it->c≠b->s.heap.get? c=some o->h'.get? c=some o)->J {s with heap:=h'} L)
  (turn:∀(j:Nat) (v:Value) (s:Shared) (L:List (Addr×(Int×Str))) (oi ob:Obj),j<n->Pv j v->J s L->s.heap.get? it=some oi->(∀v,oi.data≠.cell v)->s.heap.get? b=some ob->(∀v,ob.data≠.cell v) ->
   wpAny (model prog w) A.in1 (call (.ref q) [v]) (λr z=>∃a,r=.ref a/\J z ((a,ks.getD j (0,⟨#[]⟩))::L)/\z.heap.get? it=some oi/\z.heap.get? b=some ob) (λ_ _=>False) s)
  (fin:∀v s L,J s L->((n=0/\v=d)\/∃i,Ei ks n i/\Pv i v)->R (.ok (.ret v)) s) :
  ∀(k j:Nat) (s:Shared) (L:List (Addr×(Int×Str))),n - j=k->j<=n->J s L->CW tp s.heap it l j ->
  ((j=0/\∃c,s.heap.get? b=some (seqObj "list" #[] c))\/∃i c a u,Ei ks j i/\Pv i u/\(a,ks.getD i (0,⟨#[]⟩))∈L/\s.heap.get? b=some (seqObj "list" #[u,.ref a] c)) ->
  adn (model prog w) A (.builtin "min.loop" ⟨[.ref it,.ref q,.ref b],kw⟩) R s:=by
 intro k;induction k with
 |zero=>
  intro j s L hk hj hJ hi hb;have ej:n=j:=by omega
  subst ej;obtain⟨vs,lv,hs,_⟩:=sq s L hJ;rw[<- lv]at hi;refine adm PySem.F.entry_min_loop ?_;rw[acH abG _];show wpAny _ A.in1 (seqItems? (.ref b) >>= _) _ _ s;rcases hb with ⟨e0,c,hb⟩|⟨i,c,a,u,mx,hP,_,hb⟩
  .rcases SQ with ⟨_,ne⟩|rfl
   .exact absurd e0 ne
   refine aab (abV hb rfl ?_);show wpAny _ A.in1 (tryCatch (pyNext (.ref it)) _ >>= _) _ _ s;refine aab (abb (qU hA hi hs λh' kk=>?_));show wpAny _ A.in1 (rule _ >>= _) _ _ _;exact aab (adP (aal (fin d _ L (step s L h' hJ λc o c1 _ e=>kk _ _ c1 e) (.inl ⟨e0,rfl⟩))))
  .refine aab (abV hb rfl ?_);show wpAny _ A.in1 (tryCatch (pyNext (.ref it)) _ >>= _) _ _ s;refine aab (abb (qU hA hi hs λh' kk=>?_));show wpAny _ A.in1 (adE b _ >>= _) _ _ _;have PQ:=kk _ _ Fx hb;have s1:=aba h' b (abz λ_=>(#[]:Array Value));refine aab (acl PQ rfl ?_ (by show 2<=sizeLine;decide) (aaS _));show wpAny _ A.in1 (letGo _ _ >>= _) _ _ _;exact aab (aci (aal (fin _ _ L (step s L _ hJ λc o c1 c2 e=>(s1.2 c c2).trans (kk _ _ c1 e)) (.inr ⟨i,mx,hP⟩))))
 |succ k ih=>
  intro j s L hk hj hJ hi hb;have zR:j<n:=by omega
  obtain⟨vs,lv,hs,Th⟩:=sq s L hJ;have MD:=Th j zR;have ev:vs[j]?=some (vs.getD j .none):=by rw[aaa (by omega),aac,aaa (by omega)];rfl
  generalize vs.getD j aa5=x at MD ev;have o:=lH nd;rw[l2]at o;refine adm PySem.F.entry_min_loop ?_;rw[acH abG _];show wpAny _ A.in1 (seqItems? (.ref b) >>= _) _ _ s;rcases hb with ⟨e0,c,hb⟩|⟨i,c,a,u,mx,hP,ha,hb⟩
  .refine aab (abV hb rfl ?_);show wpAny _ A.in1 (tryCatch (pyNext (.ref it)) _ >>= _) _ _ s;refine aab (abb (pq hi hs ev λh1 I1 sb=>?_));have J1:=step s L h1 hJ λc o hc _ e=>(sb.2 c hc).trans e;obtain⟨oi,gi,ci,_,_,mi⟩:=I1.at;show wpAny _ A.in1 (tryCatch (acn _ (call (.ref q) [x])) _ >>= _) _ _ _;refine aab (abb (aaM (aaK (turn j x {s with heap:=h1} L oi _ zR MD J1 gi ci ((sb.2 b Fx).trans hb) (λv z=>by cases z)) (λv z hz=>?_) λ_ _ f=>f.elim)));obtain⟨a,rfl,J2,NN,KL⟩:=hz;show wpAny _ A.in1 (adE b _ >>= _) _ _ _;have s2:=aba z.heap b (abz λ_=>#[x,.ref a]);refine aab (acl KL rfl ?_ (aaS _) (by show 2<=sizeLine+1;decide));refine aal ⟨ab6 abG _,ih (j+1) _ _ (by omega) zR (step _ _ _ J2 λc o _ c2 e=>(s2.2 c c2).trans e) (mi _ ((s2.2 it Fx.symm).trans NN)) (.inr ⟨j,_,a,x,⟨aaU j,λm hm ne=>by omega⟩,MD,aar,abB KL λ_=>#[x,.ref a]⟩)⟩
  .have GK:i<n:=aax mx.1 hj;have Nw:j≠i:=ab3 mx.1;refine aab (abV hb rfl ?_);show wpAny _ A.in1 (tryCatch (pyNext (.ref it)) _ >>= _) _ _ s;refine aab (abb (pq hi hs ev λh1 I1 sb=>?_));have J1:=step s L h1 hJ λc o hc _ e=>(sb.2 c hc).trans e;obtain⟨oi,gi,ci,_,_,mi⟩:=I1.at;show wpAny _ A.in1 (tryCatch (acn _ (call (.ref q) [x])) _ >>= _) _ _ _;refine aab (abb (aaM (aaK (turn j x {s with heap:=h1} L oi _ zR MD J1 gi ci ((sb.2 b Fx).trans hb) (λv z=>by cases z)) (λv z hz=>?_) λ_ _ f=>f.elim)));obtain⟨a',rfl,J2,NN,KL⟩:=hz;have p1:=pr _ _ J2 _ aar;have p2:=pr _ _ J2 _ (aaj _ ha);refine aab (abb (aaM (aab (tF (s:=z) hu p1 p2 prog w _ _ ?_))));show wpAny _ A.in1 (acn _ (truthy (.bool _)) >>= _) _ _ _;refine aab (aaM (abf ?_));refine aab (aci (aal ?_));have eg:gtB (ks.getD i (0,⟨#[]⟩)) (ks.getD j (0,⟨#[]⟩))=Dh ks j i:=rfl;dsimp only;rw[eg];cases hg:Dh ks j i with
   |true=>
    show wpAny _ A.in1 (adE b _ >>= _) _ _ _;have s2:=aba z.heap b (abz λ_=>#[x,.ref a']);refine aab (acl KL rfl ?_ (by show 2<=sizeLine;decide) (by show 2<=sizeLine+1;decide));refine aab (aci ?_);refine aal ⟨ab6 abG _,ih (j+1) _ _ (by omega) zR (step _ _ _ J2 λc o _ c2 e=>(s2.2 c c2).trans e) (mi _ ((s2.2 it Fx.symm).trans NN)) (.inr ⟨j,_,a',x,⟨aaU j,λm hm ne=>?_⟩,MD,aar,abB KL λ_=>#[x,.ref a']⟩)⟩;by_cases z:m=i
    .rw[z];exact hg
    .exact o.tr j i m zR GK (by omega) hg (mx.2 m (by omega) z)
   |false=>
    show wpAny _ A.in1 (letGo _ _ >>= _) _ _ _;refine aab (aci ?_);refine aal ⟨ab6 abG _,ih (j+1) _ _ (by omega) zR J2 (mi _ NN) (.inr ⟨i,_,a,u,⟨abp mx.1,λm hm ne=>?_⟩,hP,aaj _ ha,KL⟩)⟩;by_cases z:m=j
    .rw[z];exact o.tot j i zR GK Nw hg
    .exact mx.2 m (by omega) ne
variable{h':Heap}
def Dd.keep(k:∀o,h.get? l=some o->h'.get? l=some o)(x:Dd tp h l vs):Dd tp h' l vs:=by
 cases tp
 .obtain⟨o,e,r⟩:=x;exact⟨o,k o e,r⟩
 .obtain⟨o,e,r⟩:=x;exact⟨o,k o e,r⟩
variable{Q:Value->Shared->Prop}
def uQ(hl:Dd tp s.heap l vs)
  (k:∀o:Obj,(∀h:Heap,h.get? s.heap.objs.size=some o->CW tp h s.heap.objs.size l 0)->(s.heap.push o).get? s.heap.objs.size=some o->Q (.ref s.heap.objs.size) {s with heap:=s.heap.push o}):wpAny (model prog w) A (pyIter (.ref l)) Q E s:=by
 cases tp
 .exact ac0 hl (k _ (λh g=>⟨_,g,rfl,rfl⟩) (aan _ rfl))
 .exact acQ hl (k _ (λh g=>⟨_,g,rfl,rfl⟩) (aan _ rfl))
def tU(a f d:Value):argsOk "min" {pos:=[a],kw:=[(aaG "key",f),(aaG "default",d)]}:=rfl
def tT(l f d:Value):Builtin.«min» ⟨[l],[(aaG "key",f),(aaG "default",d)]⟩=(do
  let it <- pyIter l;let b <- newList []
  again (Code.builtin "min.loop" ⟨[it,f,b],[(aaG "default",d)]⟩)):=by rfl
def vF{kw QW:List (Str×Value)}(ha:argsOk "min" ⟨[.ref l],kw⟩)
  (hb:Builtin.«min» ⟨[.ref l],kw⟩=(do
   let it <- pyIter (.ref l);let b <- newList []
   again (Code.builtin "min.loop" ⟨[it,.ref q,b],QW⟩))) (hl:Dd tp s.heap l vs)
  (k:∀(it b:Addr) (h:Heap),b≠it->s.heap.objs.size<=it->s.heap.objs.size<=b->(∀c o,s.heap.get? c=some o->h.get? c=some o)->CW tp h it l 0->h.get? b=some (seqObj "list" #[] 0) ->
   adn (model prog w) A (.builtin "min.loop" ⟨[.ref it,.ref q,.ref b],QW⟩) (λr s'=>match r with|.ok (.ret v)=>Q v s'|.ok _=>False|.error e=>E e s') {s with heap:=h}) :
  wpAny (model prog w) A (call (.builtin "min") [.ref l] kw) Q E s:=by
 refine kmb_tree PySem.F.kind_min PySem.F.plain_min PySem.F.entry_min ha ?_;rw[hb];refine aab (uQ hl λo mi go=>aab (ab5 ?_ (aaS _)));have hsz:(s.heap.push o).objs.size=s.heap.objs.size+1:=ach ..;refine aal ⟨ab6 abG _,?_⟩;exact k _ _ _ (by simp) (aak _) (by simp) (λc o g=>aad _ (aad _ g)) (mi _ (aad _ go)) (aan _ rfl)
variable{ad:List Addr}
theorem xv(hA:A.in1.handled=none)(hu:A.in1.units<cLine)(hl:Dd tp s.heap l vs)
  (l1:ad.length=vs.length) (l2:ks.length=vs.length) (nd:(ks.map (·.2)).Nodup) (hp:∀i,i<vs.length->y3 s.heap (ad.getD i 0) (ks.getD i (0,⟨#[]⟩)))
  (turn:∀i,i<vs.length->dW prog w A.in1 s (.ref q) (λ_=>True) (vs.getD i .none) (ad.getD i 0))
  (h:∀v h' tk,((vs.length=0/\v=d)\/∃i,Ei ks vs.length i/\v=vs.getD i .none)->(∀c o,s.heap.get? c=some o->h'.get? c=some o)->Q v {s with heap:=h',toks:=tk}) :
  wpAny (model prog w) A (call (.builtin "min") [.ref l] [(aaG "key",.ref q),(aaG "default",d)]) Q E s:=by
 refine vF (tU _ _ _) (tT _ _ _) hl λit b h0 Fx zi zb old hi hb=>?_;have lt:∀c o,s.heap.get? c=some o->c≠it/\c≠b:=λc o g=>by
  have:=aai g;exact⟨aay (aax this zi),aay (aax this zb)⟩
 refine vE (Pv:=λj v=>v=vs.getD j .none)
  (λz L=>∃h' tk,z={s with heap:=h',toks:=tk}/\(∀c o,s.heap.get? c=some o->h'.get? c=some o)/\∀p∈L,y3 s.heap p.1 p.2)
  l2 nd hA hu Fx (.inr rfl) ?_ ?_ ?_ ?_ ?_ vs.length 0 _ [] (by omega) (aaS _) ⟨h0,s.toks,rfl,old,λ_ hp=>nomatch hp⟩ hi (.inl ⟨rfl,0,hb⟩)
 .rintro _ L ⟨h',tk,rfl,kk,_⟩;exact⟨vs,rfl,hl.keep λo e=>kk _ o e,λ_ _=>rfl⟩
 .rintro _ L ⟨h',tk,rfl,kk,hL⟩ p JL;exact(hL p JL).mono λo g=>kk _ o g
 .rintro _ L h2 ⟨h',tk,rfl,kk,hL⟩ k2;exact⟨h2,tk,rfl,λc o e=>k2 c o (lt c o e).1 (lt c o e).2 (kk c o e),hL⟩
 .rintro j v _ L oi ob hj rfl ⟨h',tk,rfl,kk,hL⟩ gi _ gb _;refine aaK (turn j hj h' tk λc o _ e=>kk c o e) (λr z hz=>?_) λ_ _ f=>f;obtain⟨rfl,h2,Hr,rfl,g2⟩:=hz;refine⟨_,rfl,⟨h2,Hr,rfl,λc o e=>g2 _ _ (kk c o e),λp JL=>?_⟩,g2 _ _ gi,g2 _ _ gb⟩;rcases List.mem_cons.mp JL with rfl|JL
  .exact hp j hj
  .exact hL p JL
 .rintro v _ L ⟨h',tk,rfl,kk,_⟩ hv;exact h v h' tk hv kk
variable{X:Cx}{k:Nat}{f:Addr}{fd:abl}{ps:List Str}{sp:Sp}
def M3(tp:Bool)(K:aaf)(H:Hp)(l:Addr)(xs:List V):Prop:=if tp=true then AF K H l xs else Ar K H l xs
variable{pins:List (Addr×Obj)}{σ:St}{H:Hp}{xs:List V}
def wL(I:Inv X pins σ H s)(h:M3 tp X.K H l xs):∃nE,yz xs nE/\Dd tp s.heap l nE:=by
 cases tp
 .obtain⟨nE,rv,pl,_⟩:=I.list (h);exact⟨nE,rv,pl.isList⟩
 .obtain⟨nE,rv,tp,_⟩:=I.tuple (h);exact⟨nE,rv,tp⟩
variable{K:aaf}
def uP{H1 H2:Hp}{P:Addr}{ps:Array Value}(eP:H1 P=some (Ai P ps))(keep:∀b o,H1 b=some o->b≠P->H2 b=some o)(h:M3 tp K H1 l xs):M3 tp K H2 l xs:=by
 cases tp
 .rcases(h)with (h|⟨o,h⟩)|h
  .exact .inl (.inl (keep _ _ h λz=>by rw[z,eP]at h;cases h))
  .exact .inl (.inr ⟨o,keep _ _ h λz=>by rw[z,eP]at h;cases h⟩)
  .exact .inr h
 .exact(dM eP keep (h):AF K H2 l xs)
def Iv(tp:Bool)(X:Cx)(lq d:Str)(yH:Pos)(P:Addr)(params:Arguments)(body:Expr)(scope:Scope)(i:Nat)(σ:St)(Q:VK):VK:=λv H1=>∃(l:Addr) (ss:List Str) (dd:Addr) (gE:List (Key×V)) (ad:List Addr) (ks:List (Int×Str)),
 v=.ref l/\M3 tp X.K H1 l (ss.map V.str)/\ss.length<64/\σ[i]?=some (some (.ref dd))/\H1 dd=some (.dK gE)/\ad.length=ss.length/\ks.length=ss.length/\(ks.map (·.2)).Nodup /\
 (∀j,j<ss.length->Az gE (aas (ss.getD j ⟨#[]⟩))=some (.ref (ad.getD j 0))/\AF X.K H1 (ad.getD j 0) [.int (ks.getD j k0).1,.str (ks.getD j k0).2]) /\
 DY X lq d yH P params body scope σ H1 λ_ H2=>(ss.length=0->Q .yB H2)/\∀m,Ei ks ss.length m->Q (.str (ss.getD m ⟨#[]⟩)) H2
def Lh(tp:Bool)(X:Cx)(lq d:Str)(yH:Pos)(P:Addr)(params:Arguments)(body:Expr)(scope:Scope)(i:Nat)(te:TE):TE:=λσ H Q=>te σ H (Iv tp X lq d yH P params body scope i σ Q)
variable{lq d x:Str}{yH p p1 p2 p3 p4 AN Bh pos:Pos}{P c:Addr}{params:Arguments}{scope:Scope}{e:Expr}{te:TE}{i:Nat}{kd:_}
theorem uX(S:Bk x d params scope)(S2:Bl d params scope)(hr:y9 k X.A)(ID:X.calm=true)(hg:Gl X "min")(hm:X.mg "min" = none)(hq:X.env.qual ++ "<lambda>" = lq)(Aw:X.env.code=.ref c)(hC:aaN X.K c P=true)(hB:BMain X.mg X.base)
  (hi:X.N[i]?=some d) (hd:X.env.kindOf d=some .cell) (hv:Cy X.env.scope d) (he:PE X e te)
  (hs:aag [e] X.env=(false,eval e X.env)::aag [] X.env:=by rfl)
  (h1:backTo pos (aag [e] X.env)=(false,eval e X.env)::backTo pos (aag [] X.env):=by rfl) (h2:(backTo pos (aag [e] X.env)).any (·.1)=false:=by rfl) :
  PE X (.Call (.Name "min" p) [e] [⟨some "key",.Lambda params (.Subscript (.Name d p1) (.Name x p2) p3) scope yH,AN⟩,⟨some "default",.Constant .none kd p4,Bh⟩] pos) (Lh tp X lq d yH P params (.Subscript (.Name d p1) (.Name x p2) p3) scope i te):=by
 intro pins s σ H Q I h;refine abJ (er I hg hm boot_min ?_);refine callWith_kw (zk ((aY he be hs) pos pins s σ H (λvs H1=>match vs with|[v]=>Iv tp X lq d yH P params (.Subscript (.Name d p1) (.Name x p2) p3) scope i σ Q v H1|_=>False) I h) λus s1 ⟨vs,H1,I1,r1,q1⟩=>?_) h1 h2;dsimp only at q1;split at q1;case h_2=>exact q1.elim
 obtain⟨l,ss,dd,gE,ad,ks,rfl,hl,Bi,hσ,DA,l1,l2,nd,hk,hL⟩:=q1;obtain⟨u,rfl,ru⟩:=r1.one;cases ru;obtain⟨ps,eP,hL⟩:=hL;have MP:dd≠P:=λz=>by rw[z,eP]at DA;cases DA
 have lam:DY X lq d yH P params (.Subscript (.Name d p1) (.Name x p2) p3) scope σ H1 λfv H2=>∃f c' ob,fv=.ref f/\H2 f=some (Bz f ob)/\Cj X lq d params (.Subscript (.Name d p1) (.Name x p2) p3) scope c' ob/\H2 c'=some (zZ c' lq)/\(∀b o,H1 b=some o->b≠P->H2 b=some o) /\
   ((ss.length=0->Q .yB H2)/\∀m,Ei ks ss.length m->Q (.str (ss.getD m ⟨#[]⟩)) H2):=by
  refine⟨ps,eP,hL.1,?_⟩;rcases hL.2 with ⟨g1,g2⟩|⟨c',g1,g2,g3⟩
  .refine .inl ⟨g1,λc' f ob a1 a2 a3 a4 a5 a6=>⟨f,c',ob,rfl,aj,a6,?_,λb o hb hP=>?_,g2 c' f ob a1 a2 a3 a4 a5 a6⟩⟩
   .rw[ae a3,aj]
   .rw[ae (au hb a2),ae (au hb a1),ae hP];exact hb
  .refine .inr ⟨c',g1,g2,λf ob a1 a2=>⟨f,c',ob,rfl,aj,a2,?_,λb o hb _=>?_,g3 f ob a1 a2⟩⟩
   .rw[ae (au g2 a1)];exact g2
   .rw[ae (au hb a1)];exact hb
 refine zk ((fG (nH S2 hq Aw hC hB hd) (fG nG nA)) pos pins s1 σ H1 (λvs H2=>match vs with|[fv,dv]=>dv=.yB/\∃f c' ob,fv=.ref f/\H2 f=some (Bz f ob)/\Cj X lq d params (.Subscript (.Name d p1) (.Name x p2) p3) scope c' ob/\H2 c'=some (zZ c' lq)/\(∀b o,H1 b=some o->b≠P->H2 b=some o)/\((ss.length=0->Q .yB H2)/\∀m,Ei ks ss.length m->Q (.str (ss.getD m ⟨#[]⟩)) H2)|_=>False) I1 ?_) λws s2 ⟨zs,H2,I2,rz,q2⟩=>?_
 .obtain⟨Ir,e1,e2,e3⟩:=lam;refine⟨Ir,e1,e2,?_⟩;rcases e3 with ⟨g1,g2⟩|⟨c',g1,g2,g3⟩
  .exact .inl ⟨g1,λc' f ob a1 a2 a3 a4 a5 a6=>⟨rfl,g2 c' f ob a1 a2 a3 a4 a5 a6⟩⟩
  .exact .inr ⟨c',g1,g2,λf ob a1 a2=>⟨rfl,g3 f ob a1 a2⟩⟩
 dsimp only at q2;split at q2;case h_2=>exact q2.elim
 obtain⟨rfl,f,c',ob,rfl,ef,⟨cell,Hj,An,rfl⟩,ec,keep,PX,hQ⟩:=q2;obtain⟨u,u2,rfl,ru,OK⟩:=rz.two;cases ru;cases OK;obtain⟨nE,rv,Sx⟩:=wL I2 (uP eP keep hl);have hlen:nE.length=ss.length:=by have:=rv.length;rw[aae]at this;exact this.symm
 have JB:∀j,j<ss.length->∃t,nE.getD j aa5=.str (ss.getD j ⟨#[]⟩) t:=λj hj=>by
  obtain⟨u,hu,ru⟩:=rv.get (i:=j) (show (ss.map V.str)[j]?=some (.str (ss.getD j ⟨#[]⟩))by rw[aah,aaa hj,aac,aaa hj];rfl);obtain⟨t,rfl⟩:=ru;exact⟨t,by rw[aac,hu];rfl⟩
 have cellAt:s2.heap.IsCell cell (some (.ref dd)):=by
  obtain⟨m,_,GI⟩:=I2.loc;obtain⟨u,ru,lk⟩:=GI i d _ hi hσ hv;cases ru;rcases lk with ⟨y,_⟩|⟨_,c2,y1,y2⟩
  .rw[hd]at y;cases y
  .rw[An]at y1;cases y1;exact y2
 have lim:s2.heap.NoLimit:=I2.mod.nolimit.keeps I2.bk;refine xv (d:=.none) (vs:=nE) (ad:=ad) (ks:=ks) (I2.ok.hd ID) (by have:=hr.un;show X.A.units+1<cLine;omega) Sx (by omega) (by omega) nd (λj hj=>?_) (λj hj h tk kk=>?_) λv h' tk hv kk=>?_
 .obtain⟨Aa,Lu,Ld,_⟩:=I2.tuple (dM eP keep (hk j (by omega)).2);exact lw Lu Ld
 .obtain⟨t,et⟩:=JB j (by omega);rw[et];have D7  := λb o g=>kk b o trivial g;have I3:Inv X pins σ H2 {s2 with heap:=h,toks:=tk}:=I2.kept D7;refine jT S I3 ?_ (D7 _ _ (I2.yL f _ ef).1) ?_ (lim.keeps D7) ?_ (keep _ _ DA MP) (hk j (by omega)).1
  .have:=hr.dp;show X.A.depth<recursionLimit;omega
  .exact(I2.yL c' _ ec).2.2 _ _ (I2.yL c' _ ec).1 λo g=>D7 _ _ g
  .obtain⟨o,y,r⟩:=cellAt;exact⟨o,D7 _ _ y,r⟩
 .rcases hv with ⟨e0,rfl⟩|⟨m,mx,rfl⟩
  .exact⟨.yB,H2,I2.kept kk,rfl,PX (by omega)⟩
  .rw[hlen]at mx;obtain⟨t,et⟩:=JB m mx.1;rw[et];exact⟨.str _,H2,I2.kept kk,⟨t,rfl⟩,hQ m mx⟩
end L2
namespace Q
open PySem L2 PyProof.Rows PySem.W
def Lv:PV->Option (Bool×List PV)
 |.tup ys=>some (true,ys)
 |.lst ys=>some (false,ys)
 |_=>none
def EZ(j i:Nat)(lq:Str)(ln co:Nat)(T:Addr)(tp:Bool)(f:WE):WE:=λenv P=>f env λx e=>match Lv x,e[i]?,e[j]? with
 |some (b,ys),some (some ⟨0,.zh gE⟩),some (some ⟨2,c⟩)=>b=tp/\∃(ss:List Str) (ks:List (Int×Str)),Kk lq ln co T c ys gE ss ks/\(ss.length=0->P .yB e)/\∀m,Ei ks ss.length m->P (.str (ss.getD m ⟨#[]⟩)) e
 |_,_,_=>False
variable{X:Cx}{lq d x:Str}{yH p p1 p2 p3 p4 AN Bh pos:Pos}{T c:Addr}{params:Arguments}{scope:Scope}{e:Expr}{f:WE}{i j k:Nat}{ob:zP}{kd:_}
theorem uc(j i:Nat)(tp:Bool)(S:Bk x d params scope)(S2:Bl d params scope)(hr:y9 k X.A)(ID:X.calm=true)(hg:Gl X "min")(hm:X.mg "min" = none)(hq:X.env.qual ++ "<lambda>" = lq)(Aw:X.env.code=.ref c)(hC:aaN X.K c T=true)(hB:BMain X.mg X.base)
  (hi:X.N[i]?=some d) (hd:X.env.kindOf d=some .cell) (hv:Cy X.env.scope d) (ha:yW ob X e f) (ER:ob=zT X.K:=by rfl)
  (hs:aag [e] X.env=(false,eval e X.env)::aag [] X.env:=by rfl)
  (h1:backTo pos (aag [e] X.env)=(false,eval e X.env)::backTo pos (aag [] X.env):=by rfl) (h2:(backTo pos (aag [e] X.env)).any (·.1)=false:=by rfl) :
  yW ob X (.Call (.Name "min" p) [e] [⟨some "key",.Lambda params (.Subscript (.Name d p1) (.Name x p2) p3) scope yH,AN⟩,⟨some "default",.Constant .none kd p4,Bh⟩] pos) (EZ j i lq yH.line yH.col T tp f):=by
 subst ER;obtain⟨te,Mm,Mf⟩:=ha.ex;refine⟨_,uX (tp:=tp) S S2 hr ID hg hm hq Aw hC hB hi hd hv Mm hs h1 h2,λZ F σ H env Pp Q K hf kk=>?_⟩;refine Mf Z F σ H env _ _ K hf λy e1 v F1 H1 p s1 K1 r1=>?_;split at p;case h_2=>exact p.elim
 rename_i b ys gE cc JI ei ej;obtain⟨Ta,ss,ks,⟨hc,Ky,Bi,l2,nd,Dz⟩,pn,pm⟩:=p;obtain⟨a,rfl,hl⟩:∃a,v=.ref a/\M3 tp X.K H1 a _:=by
  rw[<- Ta];cases r1 with
  |tup hl JJ=>
   cases JI;have:=cv fC Ky JJ;subst this;exact⟨_,rfl,aw K1.sF hl⟩
  |lst hl JJ=>
   cases JI;have:=cv fC Ky JJ;subst this;exact⟨_,rfl,.inl (.inl (K1.sF _ _ hl))⟩
  |_=>cases JI
 obtain⟨dd,E5,ad,hσ,DA,l1,hk⟩:=lL K1 ei Dz;exact⟨_,ss,dd,E5,ad,ks,rfl,hl,Bi,hσ,DA,l1,l2,nd,hk,kR K1 ej hc λH2 K2=>⟨λz=>kk _ e1 _ F1 _ (pn z) s1 K2 .yB,λm mx=>kk _ e1 _ F1 _ (pm m mx) s1 K2 (.str _)⟩⟩
variable{fa:Addr}{fd:abl}{ps:List Str}{D:Fd}
end Q
namespace L2
open PySem PySem.Spec PyProof.Rows
variable{prog:aaA}{w:World}{A:Around}{E:Value->Shared->Prop}{s:Shared}
structure Uq(f1 f2:Bool)(h:Heap)(z u o i1 i2 t1 t2:Addr)(n:Nat):Prop where
 zz:IsZip h z u o .none
 uu:IsPair h u (.ref i1) (.ref i2)
 oo:∃a b,IsPair h o a b
 a1:CW f1 h i1 t1 n
 a2:CW f2 h i2 t2 n
variable{X:Cx}
end L2
namespace Q
open PySem L2
variable{ob:zP}{X:Cx}{a b:Expr}{fa:WA}{pos p:Pos}
end Q
namespace L2
open PySem PySem.Spec PyProof.Rows
variable{X:Cx}{tg elt iter QE Iz:Expr}{scope:Scope}{pos:Pos}{wi Uz:TI}{g:TG}{te:TE}{N:List Str}{js:List (Option Nat)}{kk:Nat}
end L2
namespace Q
open PySem L2 PyProof.Rows
variable{M:Md}{Z:Zn}{F H:Hp}{σ:L2.St}{env:En}
variable{ob:zP}{X:Cx}{tg elt iter QE Iz:Expr}{scope:Scope}{pos:Pos}{fi Tx:WA}{T:F8}{f:WE}{N:List Str}{js:List (Option Nat)}{kk:Nat}
end Q
namespace L2
open PySem PySem.Spec PyProof.Rows
variable{X:Cx}{pos:Pos}
end L2
namespace Q
open PySem L2
variable{ob:zP}{X:Cx}{a b c:Expr}{fa:WA}{pos:Pos}
end Q
namespace L2
open PySem PySem.Spec PyProof.Rows
variable{X:Cx}{pins:List (Addr×Obj)}{σ:St}{H:Hp}{s:Shared}
variable{tg elt iter:Expr}{ifs:List Expr}{scope:Scope}{pos:Pos}{wi:TI}{g:TG}{tc:TT}{te:TE}{N:List Str}{js:List (Option Nat)}{cx:Str}
end L2
namespace Q
open PySem L2
variable{ob:zP}{X:Cx}{tg elt iter kx vx:Expr}{ifs:List Expr}{scope:Scope}{pos:Pos}{fi:WA}{T:F8}{c:WT}{f fk:WE}{N:List Str}{js:List (Option Nat)}
end Q
namespace L2
open PySem PySem.Spec PyProof.Rows PySem.W
variable{prog:aaA}{w:World}{A:Around}{R:Result->Shared->Prop}
variable{X:Cx}{p p4 AN pos:Pos}{e:Expr}{te:TE}{n:Int}{kd:_}
end L2
namespace Q
open PySem L2 PyProof.Rows PySem.W
variable{X:Cx}{p p4 AN pos:Pos}{e:Expr}{f:WE}{n:Int}{ob:zP}{kd:_}
end Q
namespace L2
open PySem PySem.Spec PyProof.Rows
variable{X:Cx}
end L2
namespace Q
open PySem L2 PyProof.Rows
variable{ob:zP}{X:Cx}{a b c e:Expr}{es:List Expr}{f g h:WE}{fa:WA}{pos p:Pos}{x:Str}
end Q
namespace L2
open PySem PySem.Spec PyProof.Rows
variable{X:Cx}{tg:Expr}
end L2
namespace Q
open PySem L2 PyProof.Rows
variable{ob:zP}{X:Cx}{tg elt iter kx vx:Expr}{ifs:List Expr}{scope:Scope}{pos:Pos}{fi:WA}{T:F8}{c:WT}{f fk:WE}{N:List Str}{js:List (Option Nat)}
open PySem L2 PyProof.Rows PySem.W
def Cz(K:aaf)(T:Addr×Addr×Addr):Sp:=λvs H Q _=>∃(a:Addr) (ns:List Int),vs=[.ref a]/\Ar K H a (ns.map V.int)/\ns.length<=63/\[T.1,T.2.1,T.2.2].Nodup/\(∀t∈[T.1,T.2.1,T.2.2],H t=some (Ai t #[]))/\∀(H':Hp),(∀t∈[T.1,T.2.1,T.2.2],∃ps,H' t=some (Ai t ps))->Q (.bl true) H'
variable{P:aaA}{w:World}{K:aaf}{mg:Str->Option Value}{base:Heap}{D:BL}{k ln co:Nat}{Bg:Addr}{fd:abl}{ps:List Str}{lq:Str}
def vN{T:Addr×Addr×Addr}{Ny Nx:Str}{ln2 NT Nz NS:Nat}(F:yG P w K mg base zB k Bg fd ps (spT ⟨P,w,K,zT K⟩ 1 D))
  (h:∀(ns:List Int) (x:PV),ns.length<=63->(x=.Ba ns\/x=.lst (ns.map .int))->D (.tup [zm lq ln co T.1,.tup [zm Ny ln2 NT T.2.1,zm Nx Nz NS T.2.2]]) [x] λr c=>r=.bl true/\c=.tup [zm lq ln co T.1,.tup [zm Ny ln2 NT T.2.1,zm Nx Nz NS T.2.2]]):yG P w K mg base zB k Bg fd ps (Cz K T):=by
 refine F.imp λvs H Q E q=>?_;obtain⟨a,ns,rfl,hs,hn,hne,hT,kq⟩:=q;have t1:=hT T.1 (by simp);have t2:=hT T.2.1 (by simp);have t3:=hT T.2.2 (by simp);simp only[adp,aca,acD,or_false,not_or]at hne;obtain⟨⟨n1,n2⟩,n3,_⟩:=hne;let F0:Hp:=λb=>if b∈[T.1,T.2.1,T.2.2]then none else H b;have sF:eQ F0 H:=λb o e=>by
  by_cases z:b∈[T.1,T.2.1,T.2.2]
  .have:=(if_pos z).symm.trans e;cases this
  .exact(if_neg z).symm.trans e
 have f0:∀b o,H b=some o->b∉[T.1,T.2.1,T.2.2]->F0 b=some o:=λb o e z=>(if_neg z).trans e;have fin:∀x,(x=.Ba ns\/x=.lst (ns.map .int))->Rep K F0 (.ref a) x->spT ⟨P,w,K,zT K⟩ 1 D [.ref a] H Q E:=λx hx r=>
  ⟨F0,T.1,[T.1,T.2.1,T.2.2],.tup [zm lq ln co T.1,.tup [zm Ny ln2 NT T.2.1,zm Nx Nz NS T.2.2]],[x],_,sF,.cons r .nil,rfl,.inr (.inr (.inr ⟨_,_,T.2.1,[T.1],[T.2.1,T.2.2],rfl,rfl,⟨lq,ln,co,#[],rfl,t1,trivial,.inl ⟨rfl,rfl⟩⟩,.two (l1:=[T.2.1]) (l2:=[T.2.2]) ⟨Ny,ln2,NT,#[],rfl,t2,trivial,.inl ⟨rfl,rfl⟩⟩ ⟨Nx,Nz,NS,#[],rfl,t3,trivial,.inl ⟨rfl,rfl⟩⟩ (by simpa using n3),by simpa using ⟨n1,n2⟩⟩)),λb hb=>⟨by rw[hT b hb];simp,if_pos hb⟩,h ns x hn hx,λr c' v F' H' l' e _ _ _ _ _ ho _ _ rv=>by
   obtain⟨rfl,rfl⟩:=e;cases rv;rcases ho with (⟨q,_⟩|⟨_,_,q,_⟩)|⟨_,q,_⟩|⟨_,_,_,_,q,_⟩|⟨x1,x2,T2,l1,l2,q,rfl,h1,h2,_⟩
   .cases q
   .cases q
   .cases q
   .exact(dZ q.symm).elim
   .injection q with q;injection q with q1 q;injection q with q2 _;subst q1 q2;obtain⟨T3,m1,m2,rfl,k1,k2,_⟩:=jz h2;obtain rfl:=cq k1;obtain rfl:=cq k2;obtain⟨_,_,_,p1,_,u1,_⟩:=h1;obtain⟨_,_,_,p2,_,u2,_⟩:=k1;obtain⟨_,_,_,p3,_,u3,_⟩:=k2;refine kq H' λt ht=>?_;simp only[aca,acD,or_false]at ht;rcases ht with rfl|rfl|rfl
    .exact⟨p1,u1⟩
    .exact⟨p2,u2⟩
    .exact⟨p3,u3⟩⟩
 have no:∀o:HO,(∀T' ps,o≠Ai T' ps)->H a=some o->a∉[T.1,T.2.1,T.2.2]:=λo ho e z=>by
  rw[hT a z]at e;exact ho _ _ (aaq e).symm
 rcases hs with (hs|⟨o,hs⟩)|hs
 .exact fin _ (.inr rfl) (.lst (f0 _ _ hs (no _ (λ_ _ z=>by cases z) hs)) (g6 ns))
 .exact fin _ (.inl rfl) (.Ba (.inl ⟨o,f0 _ _ hs (no _ (λ_ _ z=>by cases z) hs)⟩))
 .exact fin _ (.inl rfl) (.Ba (.inr hs))
end Q
namespace Pre
open PySem L2
def top(i:Nat):Stmt:=PySem.Challenge.pw_cheaptree_k44_whole_at_the_told_cost.main.body.getD i (.Pass ⟨0,0,0,0⟩)
abbrev la:Stmt:=top 2
abbrev jE:Stmt:=top 3
abbrev lb:Stmt:=top 4
abbrev ft:Stmt:=top 5
abbrev gZ:Stmt:=top 6
abbrev EH:Stmt:=top 7
abbrev fw:Stmt:=top 8
abbrev gx:Stmt:=top 9
abbrev EI:Stmt:=top 10
abbrev dC:Stmt:=top 12
abbrev dz:Stmt:=top 13
abbrev g0:Stmt:=top 14
abbrev fu:Stmt:=top 22
abbrev li:Stmt:=top 23
abbrev jD:Stmt:=top 24
abbrev Gn:Stmt:=top 26
abbrev Jk:Stmt:=top 27
abbrev kY:Stmt:=top 29
abbrev dB:Stmt:=top 31
abbrev dA:Stmt:=top 32
abbrev cR:Stmt:=top 33
abbrev kZ:Stmt:=top 34
abbrev eY:Stmt:=top 36
abbrev lf:Stmt:=top 37
abbrev jk:Stmt:=top 38
abbrev gY:Stmt:=top 39
abbrev mo:Stmt:=top 40
abbrev m8:Stmt:=top 41
abbrev gX:Stmt:=top 42
abbrev jF:Stmt:=top 44
abbrev AA:Stmt:=top 46
abbrev Fc:Stmt:=top 47
abbrev EF:Stmt:=top 48
abbrev Gr:Stmt:=top 49
abbrev Gp:Stmt:=top 50
abbrev Jm:Stmt:=top 51
abbrev OH:Stmt:=top 52
abbrev kX:Stmt:=top 53
abbrev EG:Stmt:=top 54
abbrev Jn:Stmt:=top 55
structure Named(K:aaf)(mg:Str->Option Value)(x:Str)(f:Addr):Prop where
 mg:mg x=some (.ref f)
 kp:abx K (.ref f)=true
structure Df(K:aaf)(mg:Str->Option Value)(name:Str)(st:Stmt)(ps:List Str) where
 f:Addr
 fd:abl
 F:Fp K name name st f fd
 b:Binds K fd ps []
 n:Named K mg name f
structure TabAt(K:aaf)(mg:Str->Option Value)(x:Str)(D:List (Str×Addr)) where
 a:Addr
 mg:mg x=some (.ref a)
 tab:∀h:Heap,K.In h->Dn h a D
abbrev O4:Nat:=19
abbrev O5:Nat:=26
abbrev Mb:Nat:=22
abbrev Me:Nat:=26
abbrev Ma:Nat:=28
abbrev Mc:Nat:=29
section
set_option genInjectivity false
set_option genSizeOf false
structure Ev(K:aaf)(mg:Str->Option Value) where
 DF:Df K mg "is_word" la ["thing"]
 CL:Df K mg "is_whole" jE ["thing"]
 DG:Df K mg "is_open" lb ["net", "tie"]
 A5:Df K mg "ties_by_name" ft ["net"]
 B0:Df K mg "open_ties" gZ ["net"]
 EV:Df K mg "ranks" EH ["net"]
 zy:Df K mg "cheapest_of" fw ["net", "names"]
 zG:Df K mg "dearest_of" gx ["net", "names"]
 EW:Df K mg "out_of" EI ["net", "side"]
 zd:Df K mg "cheaper_first" dC ["net", "names"]
 AD:Df K mg "without_round" dz ["net", "names"]
 Ag:Df K mg "cheapest" g0 ["net"]
 A6:Df K mg "neighbours" fu ["net"]
 DI:Df K mg "came_by" li ["beside", "start"]
 CK:Df K mg "reached" jD ["beside", "start"]
 GS:Df K mg "only" Gn ["net", "names"]
 J7:Df K mg "way" Jk ["net", "forest", "one", "other"]
 DE:Df K mg "side_of" kY ["net", "tree", "tie"]
 AE:Df K mg "greatest_cost" dB ["net", "name", "other"]
 zo:Df K mg "margin_within" dA ["net", "tree", "tie"]
 zg:Df K mg "margin_without" cR ["net", "tree", "tie"]
 Bb:Df K mg "margin" kZ ["net", "name"]
 Ac:Df K mg "are_ends_and_cost" eY ["parts"]
 DH:Df K mg "is_deed" lf ["thing"]
 zx:Df K mg "place_comes" jk ["net", "deed"]
 zl:Df K mg "place_leaves" gY ["net", "deed"]
 zW:Df K mg "tie_comes" mo ["net", "deed"]
 Ap:Df K mg "tie_goes" m8 ["net", "deed"]
 zV:Df K mg "tie_costs" gX ["net", "deed"]
 CM:Df K mg "changed" jF ["net", "deed"]
 Bq:Df K mg "_law_begin" AA ["_law_script"]
 Fl:Df K mg "_law_next" Fc ["_law_state", "_law_many"]
 EU:Df K mg "_law_words" EF ["_law_state", "_law_many"]
 GV:Df K mg "_law_cost" Gr ["_law_state", "_law_sort"]
 GU:Df K mg "_law_ends" Gp ["_law_state", "_law_family", "_law_many", "_law_k"]
 J8:Df K mg "_law_net" Jm ["_law_state", "_law_most", "_law_ties_most"]
 KP:Df K mg "_law_at" OH ["_law_net_here", "_law_name", "_law_cost_here"]
 DD:Df K mg "_law_turned" kX ["_law_tree", "_law_name", "_law_other"]
 BZ:Df K mg "_law_right" EG ["_law_net_here", "_law_tree", "_law_name"]
 EX:Df K mg "law" Jn ["_law_script"]
 iF:Addr
 Bj:∃c,zy.fd.code=.ref c/\aaN K c iF=true
 oF:Addr
 BD:∃c,zG.fd.code=.ref c/\aaN K c oF=true
 bY:Addr
 AU:∃c,zd.fd.code=.ref c/\aaN K c bY=true
 Dr:TabAt K mg "DEEDS" [("place",zx.f),("leave",zl.f),("tie",zW.f),("untie",Ap.f),("cost",zV.f)]
 DL:mg "ValueError" = none
 GY:mg "abs" = none
 IP:mg "all" = none
 GX:mg "bool" = none
 IM:mg "int" = none
 zO:mg "isinstance" = none
 Ci:mg "len" = none
 Fn:mg "max" = none
 IL:mg "min" = none
 BG:mg "range" = none
 zN:mg "sorted" = none
 IK:mg "str" = none
 zA:mg "tuple" = none
 A8:∃t,mg "LONGEST_WORD" = some (.int 8 t)
end
variable{K:aaf}{a:Addr}{H:Hp}
def vM{l:Addr}{xs:List V}{js:List (Option Nat)}{σ:St}{QQ:Hp->Prop}{g:TG}{tc:TT}{te:TE}(Pv:Nat->List V->Hp->Prop)(h0:Pv 0 [] H)(hl:∀i ys H,i<=xs.length->Pv i ys H->Ar K H a xs)
  (hs:∀i x ys H (N:List V->Hp->Prop),xs[i]?=some x->Pv i ys H->(∀ys' H',Pv (i+1) ys' H'->N ys' H')->g x (zv js σ) H λσ4 H4=>tc σ4 H4 λb H5=>if b=true then te σ4 H5 λy H6=>H6 l=some (.lst ys)/\ys.length<sizeLine/\N (ys++[y]) (upd H6 l (.lst (ys++[y])))else N ys H5)
  (hd:∀ys H,Pv xs.length ys H->QQ H) :
  ∃W:Nat->Nat->List V->Hp->Prop,(∃m,W 0 m [] H)/\∀i m ys H2,W i m ys H2 ->
  ((Hm K a).stop i H2/\QQ H2)\/((Hm K a).go i H2/\∀x H3,(Hm K a).yld i H2 x H3->g x (zv js σ) H3 λσ4 H4=>tc σ4 H4 λb H5=>
   if b=true then te σ4 H5 λy H6=>H6 l=some (.lst ys)/\ys.length<sizeLine/\∃m',m'<m/\W (i+1) m' (ys++[y]) (upd H6 l (.lst (ys++[y])))else ∃m',m'<m/\W (i+1) m' ys H5):=by
 refine⟨λi m ys H=>m=xs.length - i/\i<=xs.length/\Pv i ys H,⟨xs.length,by simp,aaS _,h0⟩,?_⟩;rintro i m ys H2 ⟨rfl,hi,p⟩;have q:=hl i ys H2 hi p;by_cases zR:i<xs.length
 .refine .inr ⟨⟨xs,xs[i],q,by simp[zR]⟩,λx H3 y=>?_⟩;obtain⟨e,y⟩:=y;subst e;exact hs i x ys _ (λys' H'=>∃m',m'<xs.length - i/\m'=xs.length - (i+1)/\i+1<=xs.length/\Pv (i+1) ys' H') (y xs q) p λys' H' h=>⟨_,by omega,rfl,zR,h⟩
 .have e:i=xs.length:=by omega
  subst e;exact .inl ⟨⟨xs,q,aak _⟩,hd ys _ p⟩
def vz:(["_law_cell"]:List Str).Nodup:=by decide +kernel
variable{P:aaA}{w:World}{mg:Str->Option Value}{base:Heap}
def sq{xs:List V}(h:H a=some (.lst xs)):Ar K H a xs:=.inl (.inl h)
def Gm:av ["_law_state", "_law_many", "_law_digit"] ["_law_state", "_law_many"] (ap Fc):=⟨rfl,rfl,rfl,by decide +kernel,rfl,by decide +kernel,by decide +kernel⟩
variable{fd:abl}
theorem vq{f:Addr}(F:Fp K "_law_next" "_law_next" Fc f fd):yG P w K mg base zB 1 f fd ["_law_state", "_law_many"] Gj:=by
 refine F.ok Gm (λvs H Q E h=>?_) (λy6 A outer s H vs Q E hr h=>?_)
 .obtain⟨a,b,m,rfl,_⟩:=h;rfl
 .obtain⟨a,b,m,rfl,S,m0,m1,k⟩:=h;have hu:=hr.IW;refine⟨_,bH (nq abr (PW.pt (pw_and (fE (jL hu) (bI zq (pv 0) aC (λ_ _=>rfl)) (hU be) (BS _)) (pw_and1 (fE yj (bI zq (bI zq (pv 0) aC (λ_ _=>rfl)) aC (λ_ _=>rfl)) aC (BS _)))))
    (cT (lr (qm aco PySem.F.slot_list_pop PySem.F.type_list_pop tS (bI zq (pv 0) aC (λ_ _=>rfl)) (aY aC be)))))
   (bH (uz (fE (jL hu) (bI zq (pv 0) aC (λ_ _=>rfl)) (hU be) (BS _))
    (bH (d0 (i:=2) Gm.nd rfl (Or.inl rfl) (bj ee (bI zq (bI zq (pv 0) aC (λ_ _=>rfl)) aC (λ_ _=>rfl)) (pv 1)))
    (bH (j6 (bj lB (bI zq (bI zq (pv 0) aC (λ_ _=>rfl)) aC (λ_ _=>rfl)) (pv 1)) (nC (bI zq (pv 0) aC (λ_ _=>rfl)) aC jB))
    (cT (fF (pv 2)))))
    pD)
   (bH (j6 (bj ee (bj hX (bj j9 (bI zq (pv 0) aC (λ_ _=>rfl)) aC) aC) aC) (nC (pv 0) aC jB))
   (cT (fF (bj ee (bj lB (bj ee (bj j9 (bI zq (pv 0) aC (λ_ _=>rfl)) (bI zq (pv 0) aC (λ_ _=>rfl))) aC) aC) (pv 1)))))),?_⟩
  refine⟨λn σ' H'=>σ'=[some (.ref a),some (.int m),none]/\Eo a b H H'/\∃(ns:List Int) (z:Int),H' a=some (.lst [.ref b,.int z])/\H' b=some (.lst (ns.map V.int))/\(∀n∈ns,0<=n)/\0<=z/\z<2305843009213693951/\ns.length=n,?_,?_⟩
  .obtain⟨ns,z,h1,h2,h3,h4,h5⟩:=S.st;exact⟨_,rfl,Eo.refl a b H,ns,z,h1,h2,h3,h4,h5,rfl⟩
  rintro n σ' H' ⟨rfl,hB,ns,z,ha,hb,hn,z0,z1,hl⟩;have S':DM H' a b:=⟨ns,z,ha,hb,hn,z0,z1⟩
  have behind:∀(H1:Hp),Eo a b H H1->DM H1 a b->Gi (Lj (E9 (Cn (Dw K) (Cn (CD K) (zt 0) (tC (.int 0))) (Jb Ht))) (Gi (EA (Cn (rI (λ_ j=>0<j) λi j=>.int (i % j)) (Cn (CD K) (Cn (CD K) (zt 0) (tC (.int 0))) (tC (.int 0))) (zt 1)) (Ax 2))
    (Gi (EA (Cn (rI Kp λi j=>.int (i / j)) (Cn (CD K) (Cn (CD K) (zt 0) (tC (.int 0))) (tC (.int 0))) (zt 1)) (JY (Cn (CD K) (zt 0) (tC (.int 0))) (tC (.int 0)) Fe)) (Ja (zt 2)))) Ij)
    (Gi (EA (Cn (rI (λ_ j=>0<j) λi j=>.int (i % j)) (Cn (Ep λi j=>.int (i+j)) (Cn (rI FP λi j=>.int (i*j)) (Cn (CD K) (zt 0) (tC (.int 1))) (tC (.int 6364136223846793))) (tC (.int 1442695040888963))) (tC (.int 2305843009213693951))) (JY (zt 0) (tC (.int 1)) Fe))
     (Ja (Cn (rI (λ_ j=>0<j) λi j=>.int (i % j)) (Cn (rI Kp λi j=>.int (i / j)) (Cn (rI (λ_ j=>0<j) λi j=>.int (i % j)) (Cn (rI FP λi j=>.int (i*j)) (Cn (CD K) (zt 0) (tC (.int 1))) (Cn (CD K) (zt 0) (tC (.int 1)))) (tC (.int 2305843009213693921))) (tC (.int 65537))) (zt 1))))
    {nx:=λ_ H'=>Q .yB H',rt:=Q} [some (.ref a),some (.int m),none] H1:=by
   intro H1 AR S1;have hne:=S1.ne;obtain⟨ns,z,ha,hb,hn,z0,z1⟩:=S1.st;refine⟨_,rfl,a,_,_,_,rfl,rfl,sq ha,ao (j:=0) rfl,aaS _,λp hp=>?_⟩;have HR:∀o,(upd H1 p o) a=some (.lst [.ref b,.int z]):=λo=>by rw[ae (au ha hp)];exact ha
   have C0:∀o,(upd H1 p o) b=some (.lst (ns.map V.int)):=λo=>by rw[ae (au hb hp)];exact hb
   have S2:=S1.grow (o:=.lst []) hp;have B2:=AR.grow (o:=.lst []) hp;refine⟨b,p,_,rfl,rfl,sq (C0 _),sq aj,_,rfl,?_⟩;cases ns with
   |nil=>
    refine BW ?_;refine⟨_,rfl,a,_,_,_,rfl,rfl,sq (HR _),ao (j:=1) rfl,_,_,rfl,rfl,.inr ⟨by decide,by decide⟩,_,_,rfl,rfl,_,_,rfl,rfl,(by show (0:Int)<_;decide),_,rfl,a,_,_,1,rfl,rfl,HR _,rfl,?_⟩;have z2:0<=(z*6364136223846793+1442695040888963) % 2305843009213693951:=abP _ (by decide);have z3:(z*6364136223846793+1442695040888963) % 2305843009213693951<2305843009213693951:=abA _ (by decide);have S3:=S2.Ji z2 z3;have B3:Eo a b H (upd (upd H1 p (.lst [])) a (.lst [.ref b,.int ((z*6364136223846793+1442695040888963) % 2305843009213693951)])):=B2.Ji;refine⟨_,rfl,a,_,_,_,rfl,rfl,sq aj,ao (j:=1) rfl,_,rfl,a,_,_,_,rfl,rfl,sq aj,ao (j:=1) rfl,_,_,rfl,rfl,.inl ⟨by omega,by omega⟩,_,_,rfl,rfl,(by show (0:Int)<_;decide),_,_,rfl,rfl,⟨by decide,by decide⟩,_,rfl,_,_,rfl,rfl,m0,?_⟩;exact k _ _ (abP _ (by omega)) (abA _ m0) S3 B3
   |cons x r=>
    refine Cq ?_;have x0:0<=x:=hn x aar;refine⟨_,rfl,a,_,_,_,rfl,rfl,sq (HR _),ao (j:=0) rfl,b,_,_,_,rfl,rfl,sq (C0 _),ao (j:=0) rfl,_,rfl,_,_,rfl,rfl,m0,?_⟩;refine⟨_,rfl,a,_,_,_,rfl,rfl,sq (HR _),ao (j:=0) rfl,b,_,_,_,rfl,rfl,sq (C0 _),ao (j:=0) rfl,_,rfl,_,_,rfl,rfl,⟨m0,m1⟩,_,rfl,a,_,_,_,rfl,rfl,sq (HR _),ao (j:=0) rfl,b,_,_,0,rfl,rfl,C0 _,(by simp[G9]),_,rfl,?_⟩;refine k _ _ (abP _ (by omega)) (abA _ m0) (S2.Hw (ns:=x / m::r) λn hm=>?_) B2.Hw;rcases List.mem_cons.mp hm with rfl|hm
    .exact Int.ediv_nonneg x0 (by omega)
    .exact hn n (aaj _ hm)
  refine⟨_,rfl,a,_,_,_,rfl,rfl,sq ha,ao (j:=0) rfl,aaS _,λp hp=>?_⟩;have HR:∀o,(upd H' p o) a=some (.lst [.ref b,.int z]):=λo=>by rw[ae (au ha hp)];exact ha
  have C0:∀o,(upd H' p o) b=some (.lst (ns.map V.int)):=λo=>by rw[ae (au hb hp)];exact hb
  have S2:=S'.grow (o:=.lst []) hp;have B2:=hB.grow (o:=.lst []) hp;refine⟨b,p,_,rfl,rfl,sq (C0 _),sq aj,_,rfl,?_⟩;cases ns with
  |nil=>
   refine BW (BW ?_);exact behind _ B2 S2
  |cons x r=>
   refine Cq ?_;refine⟨_,rfl,a,_,_,_,rfl,rfl,sq (HR _),ao (j:=0) rfl,b,_,_,_,rfl,rfl,sq (C0 _),ao (j:=0) rfl,rfl,_,rfl,?_⟩;refine Mi (λ_=>?_) (λ_=>behind _ B2 S2);refine⟨λσ' N0=>σ'=[some (.ref a),some (.int m),none]/\Eo a b H N0/\N0 a=some (.lst [.ref b,.int z])/\N0 b=some (.lst (r.map V.int)),λσ' N0 h=>⟨r.length,by rw[<- hl,aaI];exact aaU _,h.1,h.2.1,r,z,h.2.2.1,h.2.2.2,λn hm=>hn n (aaj _ hm),z0,z1,rfl⟩,?_⟩;refine⟨_,rfl,a,_,_,_,rfl,rfl,sq (HR _),ao (j:=0) rfl,.inl ⟨rfl,_,Ar.of (C0 _)⟩,b,_,0,0,_,rfl,rfl,C0 _,by decide,by decide,?_,rfl,rfl,B2.Hw,by rw[ae S'.ne];exact HR _,aj⟩;simp[seqIndex?]
structure Bt(mg:Str->Option Value):Prop where
 len:mg "len" = none
 abs:mg "abs" = none
 range:mg "range" = none
 max:mg "max" = none
 sorted:mg "sorted" = none
 tuple:mg "tuple" = none
def Cu:av ["_law_script", "_law_seed", "_law_cell"] ["_law_script"] (ap AA):=⟨rfl,rfl,rfl,by decide +kernel,rfl,by decide +kernel,by decide +kernel⟩
def tN{f:Addr}(F:Fp K "_law_begin" "_law_begin" AA f fd)(B:Bt mg):yG P w K mg base zB 1 f fd ["_law_script"] (iC K):=by
 refine F.ok Cu (λvs H Q E h=>?_) (λy6 A outer s H vs Q E hr h=>?_)
 .obtain⟨a,ns,rfl,_⟩:=h;rfl
 .obtain⟨a,ns,rfl,hS,hlen,k⟩:=h;refine⟨_,bH (d0 (i:=1) Cu.nd rfl (Or.inl rfl) (bj hX (cw ir (by rfl) B.len acf (aY (pv 0) be)) aC))
   (bH (rj abr rfl (pE (jJ kU (pv 0) lu (ls aC))) (aP (i:=2) Cu.nd rfl (Or.inl rfl))
    (cT (d0 (i:=1) Cu.nd rfl (Or.inl rfl) (bj ee (bj hX (bj hX (bj j9 (pv 1) aC) (bj ee (pv 2) (bj nM aC aC))) aC) aC))))
   (cT (fF (hU (aY (uB (N:=["_law_cell"]) (js:=[none]) (pE (jJ kU (pv 0) lu (ls aC))) (λ_ _ _ _ _=>aP (i:=0) vz rfl (Or.inl rfl))
    (λ_ _ _ _ _=>rp (fE uC (cw jW (by rfl) B.abs ado (aY (pv 0) be)) (bj nM aC aC) (BS _)))
    (λ_ _ _ _ _=>cw jW (by rfl) B.abs ado (aY (pv 0) be)) iM) (aY (pv 1) be)))))),?_⟩
  refine⟨_,rfl,a,_,rfl,.inl hS,_,_,rfl,rfl,?_⟩;have cut:∀(H':Hp),eQ H H'->CT (ns.map V.int) none (some 63)=ns.map V.int:=λ_ _=>by
   unfold CT;rw[HT.CA];have e:HT.Ae (ns.map V.int).length (ns.map V.int).length (some 63)=(ns.map V.int).length:=by
    have:=HT.Du (ns.map V.int).length (ns.map V.int).length 63;refine this.trans ?_;rw[aae];omega
   rw[e,Nat.sub_zero,List.drop_zero,abU]
  have grow:∀{H':Hp} {p:Addr} {o:HO},eQ H H'->H' p=none->eQ H (upd H' p o):=λ{H' p o} hs hp c u h=>by
   have q:=hs c u h;rw[ae (au q hp)];exact q
  refine⟨_,rfl,63,rfl,a,_,rfl,hS,λp hp=>?_⟩;rw[cut H (eQ.refl H)];have Q4:Ar K (upd H p (.lst (ns.map V.int))) p (ns.map V.int):=sq aj;refine⟨p,rfl,⟨_,Q4⟩,t8 (K:=K) (a:=p) (xs:=ns.map V.int) (λi σ H2=>∃(z:Int) (v:Option V),σ=[some (.ref a),some (.int z),v]/\H2=upd H p (.lst (ns.map V.int))/\0<=z/\z<2305843009213693951)
   ⟨_,none,rfl,rfl,by show (0:Int)<=((ns.map V.int).length:Nat)+3;omega,by show ((ns.map V.int).length:Nat)+(3:Int)<_;rw[aae];omega⟩ (λi σ H2 _ ⟨_,_,_,e,_⟩=>by rw[e];exact Q4) ?_ ?_⟩
  .rintro i y σ H2 hi ⟨z,v,rfl,rfl,z0,z1⟩;obtain⟨c,rfl⟩:∃c,y=V.int c:=by
    rw[aah]at hi;cases e:ns[i]? with
    |none=>rw[e]at hi;cases hi
    |some c=>rw[e]at hi;exact⟨c,(aaq hi).symm⟩
   refine⟨_,rfl,_,_,rfl,rfl,.inr ⟨by decide,by decide⟩,_,rfl,_,_,rfl,rfl,⟨by decide,by decide,by decide⟩,_,_,rfl,rfl,(by show (0:Int)<10 ^ 30;decide),_,_,rfl,rfl,_,_,rfl,rfl,_,_,rfl,rfl,(by show (0:Int)<_;decide),?_⟩;exact⟨_,_,rfl,rfl,abP _ (by decide),abA _ (by decide)⟩
  .rintro σ H2 ⟨z,v,rfl,rfl,z0,z1⟩;have Q0:eQ H (upd H p (.lst (ns.map V.int))):=grow (eQ.refl H) hp;refine⟨_,rfl,63,rfl,a,_,rfl,Q0.seq hS,λp2 Kz=>?_⟩;rw[cut H (eQ.refl H)];have NF:eQ H (upd (upd H p (.lst (ns.map V.int))) p2 (.lst (ns.map V.int))):=grow Q0 Kz;refine⟨p2,rfl,⟨_,sq aj⟩,λl hl=>?_⟩;generalize HS:upd (upd H p (.lst (ns.map V.int))) p2 (.lst (ns.map V.int))=H3 at NF hl ⊢;have Mr:H3 p2=some (.lst (ns.map V.int)):=by rw[<- HS];exact aj
   refine vM (K:=K) (a:=p2) (l:=l) (xs:=ns.map V.int) (λi ys H4=>∃ms:List Int,ys=ms.map V.int/\(∀n∈ms,0<=n)/\ms.length<=i/\H4=upd H3 l (.lst ys))
    ⟨[],rfl,(λ_ h=>nomatch h),aak _,rfl⟩ (λi ys H4 _ ⟨_,_,_,_,e⟩=>by rw[e];exact sq (by rw[ae (au Mr hl)];exact Mr)) ?_ ?_
   .rintro i x ys H4 N hi ⟨ms,rfl,hm,SM,rfl⟩ hN;obtain⟨c,rfl⟩:∃c,x=V.int c:=by
     rw[aah]at hi;cases e:ns[i]? with
     |none=>rw[e]at hi;cases hi
     |some c=>rw[e]at hi;exact⟨c,(aaq hi).symm⟩
    have GK:i<(ns.map V.int).length:=(List.getElem?_eq_some_iff.mp hi).1;rw[aae]at GK;refine⟨_,rfl,_,rfl,_,_,rfl,rfl,⟨by decide,by decide,by decide⟩,_,_,rfl,rfl,_,rfl,?_⟩;refine Mi (λ_=>?_) (λ_=>hN _ _ ⟨ms,rfl,hm,by omega,rfl⟩);refine⟨_,rfl,c,rfl,aj,by rw[aae,aaB];omega,hN _ _ ⟨ms++[if c<0 then -c else c],by simp,λn hn=>?_,by rw[aa3,acC];omega,by rw[uK]⟩⟩;rcases List.mem_append.mp hn with q|q
    .exact hm n q
    .have:n=if c<0 then -c else c:=by simpa using q
     rw[this];split<;>omega
   .rintro ys H4 ⟨ms,rfl,hm,SM,rfl⟩;refine⟨_,rfl,(by show 2<=sizeLine;decide),λq hq=>?_⟩;have Mw:l≠q:=λe=>by rw[e,aj]at hq;cases hq
    refine k q l _ ((grow NF hl).free hq) (NF.free hl) ⟨ms,z,aj,by rw[ae Mw,aj],hm,z0,z1⟩ (grow (grow NF hl) hq)
open PySem L2 Q
structure zQ(x:Str):Prop where
 lo:1<=x.cps.toList.length
 hi:x.cps.toList.length<=8
 ok:∀c∈x.cps.toList,97<=c/\c<=122
def ch(i:Nat):Str:=⟨#[97+i]⟩
def wl(b s t f n k:Nat):List Nat:=if n<8/\s=6 then aaC (k+1) (97+b)else (aaC t (97+b)++[97+(f+5*k) % 26,97+(f+k / 26) % 26])++aaC (s - t) (97+b)
def wd(b s t f n k:Nat):Str:=⟨(wl b s t f n k).toArray⟩
variable{b s t f n k:Nat}
def uJ(hb:b<26)(hs:s<7)(ht:t<=s)(hk:k<n):zQ (wd b s t f n k):=by
 have e:(wd b s t f n k).cps.toList=wl b s t f n k:=by simp[wd]
 refine⟨?_,?_,?_⟩
 .rw[e];unfold wl;split
  .simp
  .simp;omega
 .rw[e];unfold wl;split
  .simp;omega
  .simp;omega
 .rw[e];unfold wl;intro c hc;split at hc
  .have:=ac4 hc;omega
  .rcases List.mem_append.mp hc with h|h
   .rcases List.mem_append.mp h with h|h
    .have:=ac4 h;omega
    .simp only[aca,acD,or_false]at h;have:=Nat.mod_lt (f+5*k) (show 0<26 by decide);have:=Nat.mod_lt (f+k / 26) (show 0<26 by decide);omega
   .have:=ac4 h;omega
def pI(f a b:Nat)(h:(f+a) % 26=(f+b) % 26):a % 26=b % 26:=by omega
def wE:∀k:Nat,k<60->∀k':Nat,k'<60->(5*k) % 26=(5*k') % 26->(k / 26) % 26=(k' / 26) % 26->k=k':=by decide +kernel
def wD{k':Nat}(hk:k<60)(SU:k'<60)(h:wd b s t f n k=wd b s t f n k'):k=k':=by
 have e:wl b s t f n k=wl b s t f n k':=by
  have:=congrArg (λx:Str=>x.cps.toList) h;simpa[wd]using this
 unfold wl at e;split at e
 .have:=congrArg ada e;rw[abL,abL]at this;exact aaW this
 .have e1:=List.append_cancel_right e;have e2:=List.append_cancel_left e1;simp only[List.cons.injEq,and_true]at e2;exact wE k hk k' SU (pI f _ _ (Nat.add_left_cancel e2.1)) (pI f _ _ (Nat.add_left_cancel e2.2))
def FQ(b s t f n:Nat)(m:Nat):List Str:=(aaZ m).map (wd b s t f n)
variable{m:Nat}
def qL(hm:m<=60):(FQ b s t f n m).Nodup:=by
 unfold FQ;rw[acd,ad1];have:=(List.nodup_iff_pairwise_ne.mp (adb (n:=m)))
 refine List.Pairwise.imp_of_mem (λ{x y} hx hy hne e=>?_) this;exact hne (wD (by have:=List.mem_range.mp hx;omega) (by have:=List.mem_range.mp hy;omega) e)
def sM(hb:b<26)(hs:s<7)(ht:t<=s):∀x∈FQ b s t f n n,zQ x:=λx hx=>by
 obtain⟨k,hk,rfl⟩:=List.mem_map.mp hx;exact uJ hb hs ht (List.mem_range.mp hk)
def sN(b s t f n m:Nat):FQ b s t f n (m+1)=FQ b s t f n m++[wd b s t f n m]:=by
 unfold FQ;rw[aeq,aaP];rfl
variable{x y:Str}
def kT(h:x.cps.toList=y.cps.toList):x=y:=by
 obtain⟨x⟩:=x;obtain⟨y⟩:=y;exact congrArg Str.mk (Array.toList_inj.mp h)
def j3(b m:Nat):(CC (ch b) m).cps.toList=aaC m (97+b):=by
 unfold CC ch;induction m with
 |zero=>rfl
 |succ m ih=>
  simp only[abD,List.flatten_cons]at ih ⊢;simpa using ih
def gI(x y:Str):(x++y).cps.toList=x.cps.toList++y.cps.toList:=by
 show (x.cps++y.cps).toList=_;simp
def Kh:Str := "abcdefghijklmnopqrstuvwxyz"
def x9:∀i:Nat,i<26->Kh.cps.toList[i]?=some (97+i):=by decide +kernel
structure lT where
 nm:Str
 one:Str
 yK:Str
 cost:Int
def t0:lT:=⟨⟨#[]⟩,⟨#[]⟩,⟨#[]⟩,0⟩
structure IS(t:lT):Prop where
 nm:zQ t.nm
 one:zQ t.one
 yK:zQ t.yK
 lt:zw t.one t.yK
structure AL(ps:List Str)(ts:List lT):Prop where
 rise:ps.Pairwise zw
 word:∀x∈ps,zQ x
 names:(ts.map lT.nm).Pairwise zw
 tie:∀t∈ts,IS t
def kh(h1:¬ zw y x)(h2:x≠y):zw x y:=by
 unfold zw at *;rcases List.le_iff_lt_or_eq.mp (List.not_lt.mp h1)with z|z
 .exact z
 .exact absurd (kT z) h2
variable{l:List Str}
def wI(hp:l.Perm [x,y])(hs:l.Pairwise λa b=>¬ zw b a)(hn:x≠y):∃u v,l=[u,v]/\zw u v/\(u=x\/u=y)/\(v=x\/v=y):=by
 have hl:=hp.length_eq
 match l,hl with
 |[u,v],_=>
  have hu:u=x\/u=y:=by simpa using hp.mem_iff.mp (show u∈[u,v]by simp)
  have hv:v=x\/v=y:=by simpa using hp.mem_iff.mp (show v∈[u,v]by simp)
  have nd:[u,v].Nodup:=hp.nodup_iff.mpr (by simp[hn]);have hne:u≠v:=by simpa using nd
  refine⟨u,v,rfl,kh ?_ hne,hu,hv⟩;have:=List.rel_of_pairwise_cons hs (show v∈[v]by simp);exact this
def iE(hs:l.Pairwise λa b=>¬ zw b a)(hn:l.Nodup):l.Pairwise zw:=by
 have:=List.nodup_iff_pairwise_ne.mp hn;exact(hs.and this).imp λ⟨h1,h2⟩=>kh h1 h2
def oR(t:lT):PV:=.tup [.str t.nm,.str t.one,.str t.yK,.int t.cost]
def lE(ps:List Str)(ts:List lT):PV:=.tup [.tup (ps.map .str),.tup (ts.map oR)]
def e8:BL:=λc xs P=>c=.yB/\∃n:Nat,xs=[.int n]/\n<=60/\∀ws:List Str,ws.length=n->ws.Nodup->(∀x∈ws,zQ x)->P (.lst (ws.map .str)) .yB
def jY:BL:=λc xs P=>c=.yB/\∃q:Int,xs=[.int q]/\∀c:Int,-(10 ^ 30)<c->c<10 ^ 30->P (.int c) .yB
def lY:BL:=λc xs P=>c=.yB/\∃M T:Int,xs=[.int M,.int T]/\0<=M/\M<=40/\0<=T/\T<=50/\∀(ps:List Str) (ts:List lT),AL ps ts->(ps.length:Int)<=M->(ts.length:Int)<=T->P (lE ps ts) .yB
def jX:BL:=λc xs P=>c=.yB/\∃f m k:Int,xs=[.int f,.int m,.int k]/\2<=m/\m<=100/\∀i j:Int,0<=i->i<m->0<=j->j<m->i≠j->P (.tup [.int i,.int j]) .yB
variable{P:aaA}{w:World}{K:aaf}{mg:Str->Option Value}{base:Heap}
def vB(Y:Ev K mg):Bt mg:=⟨Y.Ci,Y.GY,Y.BG,Y.Fn,Y.zN,Y.zA⟩
def aI(Y:Ev K mg):yG P w K mg base zB 1 Y.Fl.f Y.Fl.fd ["_law_state", "_law_many"] (G5 ⟨P,w,K,zT K⟩ 2 aE):=tR (vq Y.Fl.F)
def si(Y:Ev K mg):yG P w K mg base zB 1 Y.Bq.f Y.Bq.fd ["_law_script"] (iC K):=tN Y.Bq.F (vB Y)
open PySem L2
def yN(ps:List Str)(t:lT):Bool:=decide (t.one∈ps) && decide (t.yK∈ps)
variable{ps:List Str}{t:lT}
def zp:yN ps t=true↔t.one∈ps/\t.yK∈ps:=by unfold yN;simp
def AM(ns:List Str)(t:lT):Bool:=decide (t.nm∈ns)
variable{ns:List Str}
def jN:AM ns t=true↔t.nm∈ns:=by unfold AM;simp
variable{x y:Str}
def hZ(h:zw x y):x≠y:=λe=>by subst e;exact acX _ h
variable{ts:List lT}
def aM(h:AL ps ts):(ts.map lT.nm).Nodup:=List.nodup_iff_pairwise_ne.mpr (h.names.imp λz=>hZ z)
variable{α:Type}{i:Nat}
def pf{f:α->Bool}{ts:List α}(hi:i<ts.length):(ts.take (i+1)).filter f=(ts.take i).filter f++(if f ts[i]=true then [ts[i]]else []):=by
 rw[acB,aaa hi,List.filter_append];congr 1;show List.filter f [ts[i]]=_;rw[acF];rfl
def ends(p:Str)(t:lT):List (Str×Str):=(if t.one=p then [(t.nm,t.yK)]else [])++(if t.yK=p then [(t.nm,t.one)]else [])
def zc(ps:List Str)(ts:List lT)(p:Str):List (Str×Str):=(ts.filter (yN ps)).flatMap (ends p)
def ux(hi:i<ts.length)(p:Str):zc ps (ts.take (i+1)) p=zc ps (ts.take i) p++(if yN ps ts[i]=true then ends p ts[i]else []):=by
 unfold zc;rw[pf hi]
 split<;>simp
def o7(p:Str)(t:lT):(ends p t).length<=2:=by
 unfold ends
 split<;>split<;>simp
def qw(ps:List Str)(ts:List lT)(p:Str):(zc ps ts p).length<=2*ts.length:=by
 unfold zc;have h1:∀us:List lT,(us.flatMap (ends p)).length<=2*us.length:=λus=>by
  induction us with
  |nil=>simp
  |cons t r ih=>
   rw[List.flatMap_cons,aa3,aaI];have:=o7 p t;omega
 have h2:=h1 (ts.filter (yN ps));have h3:=aaF (yN ps) ts;omega
inductive yX (g:Str->List (Str×Str)) (s:Str):Str->Prop where
 |refl:yX g s s
 |step {x y nm:Str}:yX g s x->(nm,y)∈g x->yX g s y
abbrev Cs:=List (Str×Option (Str×Str))
abbrev Au(cs:Cs):List Str:=cs.map (·.1)
structure B7(g:Str->List (Str×Str))(start:Str)(cs:Cs):Prop where
 nd:(Au cs).Nodup
 tree:∀(i:Nat) (c:Str×Option (Str×Str)),cs[i]?=some c->(i=0/\c=(start,none))\/(0<i/\∃nm x,c.2=some (nm,x)/\(nm,c.1)∈g x/\x∈Au (cs.take i))
 ne:cs≠[]
variable{g:Str->List (Str×Str)}{cs:Cs}
def B7.start{start:Str}(x:B7 g start cs):start∈Au cs:=by
 cases cs with
 |nil=>exact absurd rfl x.ne
 |cons c r=>
  rcases x.tree 0 c rfl with ⟨_,e⟩|⟨e,_⟩
  .subst e;exact aar
  .exact absurd e (abg _)
def B7.sound{start:Str}(x:B7 g start cs):∀(i:Nat),∀y∈Au (cs.take i),yX g start y
 |0,y,h=>by simp_all
 |i+1,y,h=>by
  rw[acB]at h;unfold Au at h;rw[aaP]at h;rcases List.mem_append.mp h with h|h
  .exact B7.sound x i y h
  .cases e:cs[i]? with
   |none=>rw[e]at h;simp at h
   |some c=>
    rw[e]at h;have hy:y=c.1:=by simp_all
    subst hy;rcases x.tree i c e with ⟨_,e⟩|⟨_,nm,z,e1,e2,e3⟩
    .subst e;exact .refl
    .exact .step (B7.sound x i z e3) e2
def B7.iff{start:Str}(x:B7 g start cs)(cl:∀y∈Au cs,∀q∈g y,q.2∈Au cs):y∈Au cs↔yX g start y:=by
 constructor
 .refine λh=>x.sound cs.length y ?_;rw[abU];exact h
 .intro h;induction h with
  |refl=>exact x.start
  |step _ h ih=>exact cl _ ih _ h
variable{nm:Str}
def B7.snoc{start:Str}(h:B7 g start cs)(hy:y∉Au cs)(hx:x∈Au cs)(hg:(nm,y)∈g x):B7 g start (cs++[(y,some (nm,x))]):=by
 refine⟨?_,λi c hc=>?_,by simp⟩
 .unfold Au;rw[aaP,ab9];refine⟨h.nd,by simp,λa ha b hb=>?_⟩;have:b=y:=by simp_all
  intro z;exact hy (by simp_all)
 .rcases adZ i cs.length with z|z|z
  .rw[aat z]at hc;rw[aec (by omega)];exact h.tree i c hc
  .subst z;have e  :=by simpa using hc.symm
   subst e;refine .inr ⟨?_,nm,x,rfl,hg,?_⟩
   .cases cs with
    |nil=>exact absurd rfl h.ne
    |cons _ _=>simp
   .rw[aec (aak _),abU];exact hx
  .rw[aap (by simp;omega)]at hc;cases hc
def bF[DecidableEq α]:∀{xs ys:List α},xs.Nodup->(∀x∈xs,x∈ys)->xs.length<=ys.length
 |[],_,_,_=>aaS _
 |x::r,ys,nd,h=>by
  obtain⟨n1,n2⟩:=List.nodup_cons.mp nd;have hx:=h x aar;have:=bF n2 λz hz=>by
   have Sj:z≠x:=λe=>n1 (by simp_all);exact(List.mem_erase_of_ne Sj).mpr (h z (aaj _ hz))
  rw[List.length_erase_of_mem hx]at this;have hp:=List.length_pos_of_mem hx;rw[aaI];omega
def nV{z:Str}(a:zw x y)(b:zw y z):zw x z:=List.lt_trans a b
def fM(x:Str):¬ zw x x:=acX _
def xr(a:zw x y):¬ zw y x:=λb=>fM x (nV a b)
def vI(x y:Str):zw x y\/x=y\/zw y x:=by
 by_cases h:zw y x
 .exact .inr (.inr h)
 .by_cases e:x=y
  .exact .inr (.inl e)
  .exact .inl (kh h e)
def ng:∀{xs ys:List Str},xs.Pairwise zw->ys.Pairwise zw->(∀z,z∈xs↔z∈ys)->xs=ys
 |[],[],_,_,_=>rfl
 |[],y::ys,_,_,h=>absurd ((h y).mpr aar) (by simp)
 |x::xs,[],_,_,h=>absurd ((h x).mp aar) (by simp)
 |x::xs,y::ys,hx,hy,h=>by
  obtain⟨x1,x2⟩:=List.pairwise_cons.mp hx;obtain⟨y1,y2⟩:=List.pairwise_cons.mp hy;have e:x=y:=by
   rcases List.mem_cons.mp ((h x).mp aar)with e|e
   .exact e
   .rcases List.mem_cons.mp ((h y).mpr aar)with e'|e'
    .exact e'.symm
    .exact absurd (x1 y e') (xr (y1 x e))
  subst e;rw[ng x2 y2 λz=>?_];constructor
  .intro hz;rcases List.mem_cons.mp ((h z).mp (aaj _ hz))with e|e
   .subst e;exact absurd (x1 z hz) (fM z)
   .exact e
  .intro hz;rcases List.mem_cons.mp ((h z).mpr (aaj _ hz))with e|e
   .subst e;exact absurd (y1 z hz) (fM z)
   .exact e
def cz{xs:List Str}(h:xs.Pairwise zw):xs.Nodup:=List.nodup_iff_pairwise_ne.mpr (h.imp λz=>hZ z)
open Classical in
noncomputable def rb(g:Str->List (Str×Str))(s y:Str):Bool:=decide (yX g s y)
def rg{s:Str}:rb g s y=true↔yX g s y:=by unfold rb;simp
def yX.FC{s:Str}(h:yX g s y)(hs:s∈ps)(Dj:∀p∈ps,∀q∈g p,q.2∈ps):y∈ps:=by
 induction h with
 |refl=>exact hs
 |step _ h ih=>exact Dj _ ih _ h
variable{p:Str}
def AO{q:Str}:(nm,q)∈zc ps ts p↔∃t∈ts,yN ps t=true/\nm=t.nm/\((t.one=p/\t.yK=q)\/(t.yK=p/\t.one=q)):=by
 unfold zc;rw[List.mem_flatMap];constructor
 .rintro⟨t,ht,h⟩;obtain⟨h1,h2⟩:=List.mem_filter.mp ht;rcases List.mem_append.mp h with z|z
  .split at z
   .rename_i e;have:(nm,q)=(t.nm,t.yK):=by simp_all
    cases this;exact⟨t,h1,h2,rfl,.inl ⟨e,rfl⟩⟩
   .simp at z
  .split at z
   .rename_i e;have:(nm,q)=(t.nm,t.one):=by simp_all
    cases this;exact⟨t,h1,h2,rfl,.inr ⟨e,rfl⟩⟩
   .simp at z
 .rintro⟨t,h1,h2,rfl,h3⟩;refine⟨t,List.mem_filter.mpr ⟨h1,h2⟩,?_⟩;rcases h3 with ⟨e1,e2⟩|⟨e1,e2⟩
  .exact aaD _ (by simp_all)
  .exact aao _ (by simp_all)
def qb:∀q∈zc ps ts p,q.2∈ps:=λ⟨nm,q⟩ h=>by
 obtain⟨t,h1,h2,h3,h4⟩:=AO.mp h;obtain⟨o1,o2⟩:=zp.mp h2;rcases h4 with ⟨a,b⟩|⟨a,b⟩
 .rw[<- b];exact o2
 .rw[<- b];exact o1
structure Fo(ps:List Str)(os:List lT)(g:Str->List (Str×Str)):Prop where
 mem:∀p nm q,(nm,q)∈g p↔∃t∈os,nm=t.nm/\((t.one=p/\t.yK=q)\/(t.yK=p/\t.one=q))
 FC:∀t∈os,t.one∈ps/\t.yK∈ps
variable{os:List lT}
def Fo.sym(G:Fo ps os g){q:Str}(h:(nm,q)∈g p):(nm,p)∈g q:=by
 obtain⟨t,a,b,c⟩:=(G.mem _ _ _).mp h;refine(G.mem _ _ _).mpr ⟨t,a,b,?_⟩;rcases c with ⟨x,y⟩|⟨x,y⟩
 .exact .inr ⟨y,x⟩
 .exact .inl ⟨y,x⟩
def yX.trans{z:Str}(a:yX g x y)(b:yX g y z):yX g x z:=by
 induction b with
 |refl=>exact a
 |step _ h ih=>exact .step ih h
def Fo.EJ(G:Fo ps os g)(h:yX g x y):yX g y x:=by
 induction h with
 |refl=>exact .refl
 |step _ h ih=>exact yX.trans (.step .refl (G.sym h)) ih
def f9(ps:List Str)(ts:List lT):Fo ps (ts.filter (yN ps)) (zc ps ts):=by
 refine⟨λp nm q=>?_,λt ht=>zp.mp (List.mem_filter.mp ht).2⟩;rw[AO];constructor
 .rintro⟨t,a,b,c⟩;exact⟨t,List.mem_filter.mpr ⟨a,b⟩,c⟩
 .rintro⟨t,a,c⟩;obtain⟨a,b⟩:=List.mem_filter.mp a;exact⟨t,a,b,c⟩
def mD(ps ns:List Str)(ts:List lT):(ts.filter (yN ps)).filter (AM ns)=(ts.filter (AM ns)).filter (yN ps):=by
 rw[acr,acr];exact acy λt _=>Bool.and_comm _ _
variable{EK:List lT}{g':Str->List (Str×Str)}
def pi(G:Fo ps os g)(G':Fo ps EK g')(h:∀t∈os,t∈EK)(r:yX g x y):yX g' x y:=by
 induction r with
 |refl=>exact .refl
 |step _ e ih=>
  obtain⟨t,a,b,c⟩:=(G.mem _ _ _).mp e;exact .step ih ((G'.mem _ _ _).mpr ⟨t,h t a,b,c⟩)
def gD{p q:α->Bool}:∀{l:List α},(∀x∈l,p x=true->q x=true)->(l.filter p).Sublist (l.filter q)
 |[],_=>List.Sublist.refl _
 |x::l,h=>by
  have ih:=gD (l:=l) λy hy=>h y (by simp_all);rw[acF,acF];cases e:p x with
  |false=>
   rw[if_neg (by simp)];split
   .exact ih.cons _
   .exact ih
  |true=>
   rw[if_pos (h x (by simp) e)];exact ih.cons_cons _
def cV(G:Fo ps os g)(G':Fo ps EK g')(h:∀u,u∈EK↔u∈os\/u=t)(r:yX g' x y):yX g x y\/(yX g x t.one/\yX g t.yK y)\/(yX g x t.yK/\yX g t.one y):=by
 induction r with
 |refl=>exact .inl .refl
 |step _ e ih=>
  obtain⟨u,a,b,c⟩:=(G'.mem _ _ _).mp e;rcases(h u).mp a with a|rfl
  .have e':=(G.mem _ _ _).mpr ⟨u,a,b,c⟩;rcases ih with ih|⟨i1,i2⟩|⟨i1,i2⟩
   .exact .inl (.step ih e')
   .exact .inr (.inl ⟨i1,.step i2 e'⟩)
   .exact .inr (.inr ⟨i1,.step i2 e'⟩)
  .rcases c with ⟨c1,c2⟩|⟨c1,c2⟩
   .subst c1 c2;rcases ih with ih|⟨i1,i2⟩|⟨i1,i2⟩
    .exact .inr (.inl ⟨ih,.refl⟩)
    .exact .inr (.inl ⟨i1,.refl⟩)
    .exact .inl i1
   .subst c1 c2;rcases ih with ih|⟨i1,i2⟩|⟨i1,i2⟩
    .exact .inr (.inr ⟨ih,.refl⟩)
    .exact .inl i1
    .exact .inr (.inr ⟨i1,.refl⟩)
def rM(nd:ps.Nodup)(G:Fo ps os g)(G':Fo ps EK g')(h:∀u,u∈EK↔u∈os\/u=t)(hc:yX g t.one t.yK)(r:yX g' x y):yX g x y:=by
 rcases cV G G' h r with z|⟨z1,z2⟩|⟨z1,z2⟩
 .exact z
 .exact z1.trans (hc.trans z2)
 .exact z1.trans ((G.EJ hc).trans z2)
open PySem L2 Q
def yT(q:Str×Str):PV:=.tup [.str q.1,.str q.2]
def A9(ps:List Str)(g:Str->List (Str×Str)):PV:=.zh (ps.map λp=>(aas p,.lst ((g p).map yT)))
def DJ:Option (Str×Str)->PV
 |none=>.yB
 |some q=>yT q
def zX(cs:Cs):PV:=.zh (cs.map λc=>(aas c.1,DJ c.2))
structure Nt(ps:List Str)(ts:List lT):Prop where
 rise:ps.Pairwise zw
 ne:∀t∈ts,t.one≠t.yK
 pl:ps.length<=60
 tl:ts.length<=1000
def iK(ps:List Str)(ts:List lT):List Str:=(ts.filter (yN ps)).map lT.nm
def bN:Fd:=λxs P=>∃(ps:List Str) (ts:List lT) (t:lT),xs=[lE ps ts,oR t]/\P (.bl (yN ps t))
def dF:Fd:=λxs P=>∃(ps:List Str) (ts:List lT),xs=[lE ps ts]/\ts.length<=1000/\P (.tup ((iK ps ts).map .str))
def b0:Fd:=λxs P=>∃(ps:List Str) (ts:List lT),xs=[lE ps ts]/\Nt ps ts/\P (A9 ps (zc ps ts))
def di:Fd:=λxs P=>∃(ps:List Str) (g:Str->List (Str×Str)) (start:Str),xs=[A9 ps g,.str start]/\ps.Nodup/\start∈ps/\(∀p∈ps,∀q∈g p,q.2∈ps)/\ps.length<=1000 /\
 ∀cs,B7 g start cs->(∀y∈Au cs,y∈ps)->(∀y∈Au cs,∀q∈g y,q.2∈Au cs)->P (zX cs)
def fz:Fd:=λxs P=>∃(ps:List Str) (g:Str->List (Str×Str)) (start:Str),xs=[A9 ps g,.str start]/\ps.Pairwise zw/\start∈ps/\(∀p∈ps,∀q∈g p,q.2∈ps)/\ps.length<=60/\P (.tup ((ps.filter (rb g start)).map .str))
def D5(ps:List Str)(L:Str->Str):PV:=.zh (ps.map λp=>(aas p,.str (L p)))
def B8(ps ns:List Str)(ts:List lT):List lT:=(ts.filter (yN ps)).filter (AM ns)
variable{ps:List Str}{ts:List lT}
def aF:∀{l:List lT},(l.map lT.nm).Nodup->∀{a b:lT},a∈l->b∈l->a.nm=b.nm->a=b
 |t::l,h,a,b,ha,hb,e=>by
  rw[aaz,adp]at h;rcases List.mem_cons.mp ha with h1|h1
  .rcases List.mem_cons.mp hb with h2|h2
   .exact h1.trans h2.symm
   .exact absurd (h1 ▸ e ▸ aaO (f:=lT.nm) h2) h.1
  .rcases List.mem_cons.mp hb with h2|h2
   .exact absurd (h2 ▸ e ▸ aaO (f:=lT.nm) h1) h.1
   .exact aF h.2 h1 h2 e
def n4(ps ns:List Str)(ts:List lT):Fo ps (B8 ps ns ts) (zc ps (ts.filter (AM ns))):=by
 unfold B8;rw[mD];exact f9 ps _
def zI(t u:lT):Prop:=t.cost<u.cost\/(t.cost=u.cost/\zw t.nm u.nm)
def cZ(t:lT):¬ zI t t:=by
 rintro(h|⟨_,h⟩)
 .omega
 .exact fM _ h
variable{t u v:lT}
def dr(h:zI t u)(k:zI u v):zI t v:=by
 rcases h with h|⟨h1,h2⟩<;>rcases k with k|⟨k1,k2⟩
 .exact .inl (by omega)
 .exact .inl (by omega)
 .exact .inl (by omega)
 .exact .inr ⟨by omega,nV h2 k2⟩
def lU(h:t.nm≠u.nm):zI t u\/zI u t:=by
 rcases Int.lt_trichotomy t.cost u.cost with z|z|z
 .exact .inl (.inl z)
 .rcases vI t.nm u.nm with w|w|w
  .exact .inl (.inr ⟨z,w⟩)
  .exact absurd w h
  .exact .inr (.inr ⟨z.symm,w⟩)
 .exact .inr (.inl z)
def sD(h:zI t u):¬ zI u t:=λk=>cZ t (dr h k)
instance (t u:lT):Decidable (zI t u):=inferInstanceAs (Decidable (t.cost<u.cost\/(t.cost=u.cost/\zw t.nm u.nm)))
def below(os:List lT)(t:lT):List lT:=os.filter λu=>decide (zI u t)
variable{os:List lT}
def yQ:u∈below os t↔u∈os/\zI u t:=by
 unfold below;rw[abE,decide_eq_true_eq]
def Min(ps:List Str)(os:List lT)(t:lT):Prop:=¬ yX (zc ps (below os t)) t.one t.yK
def AK(h:∀u∈os,yN ps u=true):Fo ps os (zc ps os):=by
 have:=f9 ps os
 rwa [List.filter_eq_self.mpr h]at this
variable{x y:Str}
def cS{EK:List lT}(h:∀u∈os,yN ps u=true)(h':∀u∈EK,yN ps u=true)(k:∀u∈os,u∈EK)(r:yX (zc ps os) x y):yX (zc ps EK) x y:=pi (AK h) (AK h') k r
def bc(h:∀u∈os,yN ps u=true)(ht:t∈os):yX (zc ps os) t.one t.yK:=.step .refl (((AK h).mem _ _ _).mpr ⟨t,ht,rfl,.inl ⟨rfl,rfl⟩⟩)
def less(os:List lT)(t:lT):List lT:=os.filter λu=>decide (u.nm≠t.nm)
def rW:u∈less os t↔u∈os/\u.nm≠t.nm:=by
 unfold less;rw[abE,decide_eq_true_eq]
def nh{L B:List lT}(hL:∀u∈L,yN ps u=true)(ht:t∈L)(hB:∀u∈B,u∈L):∀D:List lT,(D.map lT.nm).Nodup->(∀d∈D,d∈L/\(∀u∈B,u.nm≠d.nm)/\t.nm≠d.nm/\¬ yX (zc ps (less L d)) d.one d.yK)->yX (zc ps (B++D)) t.one t.yK->yX (zc ps B) t.one t.yK
 |[],_,_,r=>by simp_all
 |d::D,nd,hD,r=>by
  rw[aaz,adp]at nd;have P6:=λu hu=>hD u (aaj d hu);obtain⟨d1,d2,d3,d4⟩:=hD d aar;have Nr  := λu hu=>hL u (by
   rcases List.mem_append.mp hu with z|z
   .exact hB u z
   .exact(P6 u z).1)
  have OV:∀u∈B++d::D,yN ps u=true:=λu hu=>by
   rcases List.mem_append.mp hu with z|z
   .exact Nr u (aaD _ z)
   .rcases List.mem_cons.mp z with rfl|z
    .exact hL _ d1
    .exact Nr u (aao _ z)
  have hm:∀u,u∈B++d::D↔u∈B++D\/u=d:=λu=>by
   simp only[aa9,aca];constructor
   .rintro(h|h|h)
    .exact .inl (.inl h)
    .exact .inr h
    .exact .inl (.inr h)
   .rintro((h|h)|h)
    .exact .inl h
    .exact .inr (.inr h)
    .exact .inr (.inl h)
  have OU:∀u∈less L d,yN ps u=true:=λu hu=>hL u (rW.mp hu).1;have up:∀{x y:Str},yX _ x y->yX _ x y:=cS Nr OU λu hu=>rW.mpr (by
   rcases List.mem_append.mp hu with z|z
   .exact⟨hB u z,d2 u z⟩
   .exact⟨(P6 u z).1,λe=>nd.1 (by simp_all)⟩)
  have te  := bc OU (rW.mpr ⟨ht,d3⟩);have G:=AK OU;rcases cV (AK Nr) (AK OV) hm r with z|⟨z1,z2⟩|⟨z1,z2⟩
  .exact nh hL ht hB D nd.2 P6 z
  .exact absurd ((G.EJ (up z1)).trans (te.trans (G.EJ (up z2)))) d4
  .exact absurd ((up z2).trans ((G.EJ te).trans (up z1))) d4
def Kr(ps:List Str)(X:List lT)(G:Str->Str):Prop:=∀x∈ps,∀y∈ps,G x=G y↔yX (zc ps X) x y
def Kr.nil:Kr ps [] id:=λx _ y _=>by
 constructor
 .intro e;have  := e;subst this;exact .refl
 .intro r;induction r with
  |refl=>rfl
  |step _ e _=>cases e
variable{X:List lT}
def Kr.step{G:Str->Str}(oX:∀u∈X,yN ps u=true)(ot:yN ps t=true)(pn:ps.Nodup)(h:Kr ps X G):
  (G t.one=G t.yK->Kr ps (X++[t]) G)/\(G t.one≠G t.yK->Kr ps (X++[t]) λp=>if G p=G t.yK then G t.one else G p):=by
 have OT:∀u∈X++[t],yN ps u=true:=λu hu=>by
  rcases List.mem_append.mp hu with z|z
  .exact oX u z
  .rw[List.mem_singleton.mp z];exact ot
 have A:=AK oX;have A':=AK OT;have hm:∀u,u∈X++[t]↔u∈X\/u=t:=λu=>by simp_all
 have up:∀{x y:Str},yX _ x y->yX _ x y:=cS oX OT λu hu=>aaD _ hu;have te:yX _ t.one t.yK:=bc OT (by simp);obtain⟨o1,o2⟩:=zp.mp ot;refine⟨λe x hx y hy=>(h x hx y hy).trans ⟨up,rM pn A A' hm ((h _ o1 _ o2).mp e)⟩,λe x hx y hy=>?_⟩;constructor
 .intro q;by_cases x1:G x=G t.yK<;>by_cases y1:G y=G t.yK
  .exact up ((h x hx y hy).mp (x1.trans y1.symm))
  .simp only[if_pos x1,if_neg y1]at q;exact(up ((h x hx _ o2).mp x1)).trans ((A'.EJ te).trans (up ((h _ o1 y hy).mp q)))
  .simp only[if_neg x1,if_pos y1]at q;exact(up ((h x hx _ o1).mp q)).trans (te.trans (up ((h _ o2 y hy).mp y1.symm)))
  .simp only[if_neg x1,if_neg y1]at q;exact up ((h x hx y hy).mp q)
 .intro r;show (if G x=G t.yK then G t.one else G x)=if G y=G t.yK then G t.one else G y;rcases cV A A' hm r with z|⟨z1,z2⟩|⟨z1,z2⟩
  .rw[(h x hx y hy).mpr z]
  .have a:=(h x hx _ o1).mpr z1;have b:=(h _ o2 y hy).mpr z2;rw[if_neg (by simp_all),if_pos b.symm,a]
  .have a:=(h x hx _ o2).mpr z1;have b:=(h _ o1 y hy).mpr z2;rw[if_pos a,if_neg (by simp_all),b]
def Kr.min{G:Str->Str}(oX:∀u∈X,yN ps u=true)(oo:∀u∈os,yN ps u=true)(ot:yN ps t=true)(h:Kr ps X G)(hm:∀u,u∈X↔u∈below os t):G t.one≠G t.yK↔Min ps os t:=by
 obtain⟨o1,o2⟩:=zp.mp ot;have oB:∀u∈below os t,yN ps u=true:=λu hu=>oo u (yQ.mp hu).1;rw[Ne,h _ o1 _ o2];exact⟨λk r=>k (cS oB oX (λu hu=>(hm u).mpr hu) r),λk r=>k (cS oX oB (λu hu=>(hm u).mp hu) r)⟩
abbrev O3:Str := "cheaper_first.<locals>.<lambda>"
abbrev L9:Str := "cheapest_of.<locals>.<lambda>"
abbrev L8:Str := "dearest_of.<locals>.<lambda>"
def yR(T:Addr×Addr×Addr):PV:=.tup [zm L9 O4 O5 T.1,.tup [zm L8 Mb Me T.2.1,zm O3 Ma Mc T.2.2]]
open Classical in
noncomputable def AW(ps:List Str)(os:List lT)(t:lT):Bool:=decide (Min ps os t)
noncomputable def yF(ps:List Str)(ts:List lT):List Str:=((ts.filter (yN ps)).filter (AW ps (ts.filter (yN ps)))).map lT.nm
def AI:AW ps os t=true↔Min ps os t:=by unfold AW;simp
def lj:∀{a b:List Str},a.Perm b->a.Pairwise zw->b.Pairwise zw->a=b
 |[],b,p,_,_=>(List.nil_perm.mp p).symm
 |x::a,[],p,_,_=>by have:=p.length_eq;simp at this
 |x::a,y::b,p,ha,hb=>by
  have e:x=y:=abM λne=>by
   rw[List.pairwise_cons]at ha hb;have h1:x∈b:=by
    rcases List.mem_cons.mp (p.mem_iff.mp aar)with z|z
    .exact absurd z ne
    .exact z
   have h2:y∈a:=by
    rcases List.mem_cons.mp (p.mem_iff.mpr aar)with z|z
    .exact absurd z.symm ne
    .exact z
   exact fM _ (nV (ha.1 y h2) (hb.1 x h1))
  subst e;rw[lj (List.perm_cons _ |>.mp p) (List.pairwise_cons.mp ha).2 (List.pairwise_cons.mp hb).2]
def ba:Fd:=λxs P=>∃(ps:List Str) (ts:List lT),xs=[lE ps ts]/\ts.length<=1000/\(ts.map lT.nm).Nodup/\P (.zh (ts.map λt=>(aas t.nm,oR t)))
def du:Fd:=λxs P=>∃(ps:List Str) (ts:List lT),xs=[lE ps ts]/\ts.length<=1000/\(ts.map lT.nm).Nodup/\P (.zh (ts.map λt=>(aas t.nm,.tup [.int t.cost,.str t.nm])))
def ce(T:Addr×Addr×Addr):BL:=λc xs P=>c=yR T/\∃(ps:List Str) (ts us:List lT),xs=[lE ps ts,.tup ((us.map lT.nm).map .str)]/\ts.length<=1000/\(ts.map lT.nm).Nodup/\us.length<64/\(us.map lT.nm).Nodup/\(∀u∈us,u∈ts) /\
 ∀vs:List lT,vs.Perm us->vs.Pairwise zI->P (.lst ((vs.map lT.nm).map .str)) (yR T)
def b9:Fd:=λxs P=>∃(ps:List Str) (ts vs:List lT),xs=[lE ps ts,.lst ((vs.map lT.nm).map .str)]/\AL ps ts/\ps.length<=60/\ts.length<=60/\vs.Perm (ts.filter (yN ps))/\vs.Pairwise zI/\P (.tup ((yF ps ts).map .str))
def bS(T:Addr×Addr×Addr):BL:=λc xs P=>c=yR T/\∃(ps:List Str) (ts:List lT),xs=[lE ps ts]/\AL ps ts/\ps.length<=60/\ts.length<=60/\P (.tup ((yF ps ts).map .str)) (yR T)
variable{α:Type}
def eM{g:WG}{fk ff:WE}{js:List (Option Nat)}{P:PV->En->Prop}{env:En}(f:α->Str)(v:α->PV)(X:α->PV):∀{l done:List α},((done++l).map f).Nodup ->
  (∀a∈l,∀R:PV->PV->En->Prop,R (.str (f a)) (v a) env->g (X a) (C9 js env) λb1=>fk b1 λkk b3=>ff b3 λy b4=>R kk y (Ad js env b4))->done.length+l.length<=100000 ->
  P (.zh ((done++l).map λx=>((aas (f x):Key),v x))) env->CQ g FU fk ff js P (l.map X) env (done.map λx=>((aas (f x):Key),v x))
 |[],done,_,_,_,k=>by rw[abO]at k;exact k
 |a::l,done,nd,h,hl,k=>by
  have FX:done.length+l.length+1<=100000:=by simpa[acJ]using hl
  rw[aaz];simp only[CQ,FU,if_true];refine h a (by simp) (λkk y e=>(done.map λx=>((aas (f x):Key),v x)).length<=100000/\opt (BV kk) λkey=>CQ g FU fk ff js P (l.map X) e (C5 (done.map λx=>((aas (f x):Key),v x)) key y)) ⟨by rw[aae];omega,ab (z:=aas (f a)) rfl ?_⟩;have hn:f a∉done.map f:=λz=>by
   rw[aaP,ab9]at nd;exact nd.2.2 _ z _ (by simp) rfl
  rw[np hn];have e:(done.map λx=>((aas (f x):Key),v x))++[(aas (f a),v a)]=(done++[a]).map λx=>((aas (f x):Key),v x):=by rw[aaP];rfl
  rw[e];refine eM f v X (by rwa [ad3]) (λb hb=>h b (aaj _ hb)) (by simp;omega) ?_;rw[ad3];exact k
def Ends(t:lT)(a c:Str):Prop:=(t.one=a/\t.yK=c)\/(t.yK=a/\t.one=c)
def Wk(os:List lT):Str->List Str->Str->Prop
 |a,[],b=>a=b
 |a,n::ns,b=>∃t∈os,t.nm=n/\∃c,Ends t a c/\Wk os c ns b
variable{a:Str}
def Ends.sym{c:Str}(h:Ends t a c):Ends t c a:=by
 rcases h with ⟨h1,h2⟩|⟨h1,h2⟩
 .exact .inr ⟨h2,h1⟩
 .exact .inl ⟨h2,h1⟩
def Ends.two{c e f:Str}(h:Ends t a c)(k:Ends t e f):(e=a/\f=c)\/(e=c/\f=a):=by
 rcases h with ⟨h1,h2⟩|⟨h1,h2⟩<;>rcases k with ⟨k1,k2⟩|⟨k1,k2⟩
 .exact .inl ⟨k1.symm.trans h1,k2.symm.trans h2⟩
 .exact .inr ⟨k1.symm.trans h2,k2.symm.trans h1⟩
 .exact .inr ⟨k1.symm.trans h2,k2.symm.trans h1⟩
 .exact .inl ⟨k1.symm.trans h1,k2.symm.trans h2⟩
def m6{n:Str}:∀{l:List Str},n∈l->∃p q,l=p++n::q/\n∉p
 |x::l,h=>by
  by_cases e:x=n
  .exact⟨[],l,by simp_all,by simp⟩
  .obtain⟨p,q,rfl,hp⟩:=m6 ((List.mem_cons.mp h).resolve_left λz=>e z.symm);exact⟨x::p,q,rfl,λz=>by simp_all⟩
def Wk.app:∀{ns ms:List Str} {a b c:Str},Wk os a ns b->Wk os b ms c->Wk os a (ns++ms) c
 |[],_,_,_,_,h,k=>by cases h;exact k
 |n::ns,_,_,_,_,⟨t,ht,e,c,q,h⟩,k=>⟨t,ht,e,c,q,h.app k⟩
def Wk.cut:∀{ns ms:List Str} {a c:Str},Wk os a (ns++ms) c->∃b,Wk os a ns b/\Wk os b ms c
 |[],_,a,_,h=>⟨a,rfl,h⟩
 |n::ns,_,_,_,⟨t,ht,e,c,q,h⟩=>by
  obtain⟨b,h1,h2⟩:=h.cut;exact⟨b,⟨t,ht,e,c,q,h1⟩,h2⟩
def Wk.mem:∀{ns:List Str} {a b:Str},Wk os a ns b->∀n∈ns,∃t∈os,t.nm=n
 |n::ns,_,_,⟨t,ht,e,c,q,h⟩,m,hm=>by
  rcases List.mem_cons.mp hm with rfl|hm
  .exact⟨t,ht,e⟩
  .exact h.mem m hm
variable{g:Str->List (Str×Str)}
def gP(G:Fo ps os g):∀{ns:List Str} {a b:Str},Wk os a ns b->yX g a b
 |[],_,_,h=>by cases h;exact .refl
 |n::ns,a,b,⟨t,ht,e,c,q,h⟩=>yX.trans (.step .refl ((G.mem _ _ _).mpr ⟨t,ht,e.symm,q⟩)) (gP G h)
noncomputable def iN(ps:List Str)(ts:List lT):List lT:=(ts.filter (yN ps)).filter (AW ps (ts.filter (yN ps)))
def az(h:t∈iN ps ts):t∈ts/\yN ps t=true/\AW ps (ts.filter (yN ps)) t=true:=by
 obtain⟨h1,h2⟩:=List.mem_filter.mp h;obtain⟨h3,h4⟩:=List.mem_filter.mp h1;exact⟨h3,h4,h2⟩
def aL:∀t∈iN ps ts,yN ps t=true:=λt h=>(az h).2.1
def aJ(ps:List Str)(ts:List lT):yF ps ts=(iN ps ts).map lT.nm:=rfl
def dY(ps:List Str)(ts:List lT):(iN ps ts).length<=ts.length:=aa4 (aaF _ _) (aaF _ _)
def gn(nd:(ts.map lT.nm).Nodup):ts.filter (AM (yF ps ts))=iN ps ts:=by
 unfold iN;rw[acr];refine acy λu hu=>?_;rw[aa2,jN,aaR];constructor
 .intro h;obtain⟨v,hv,e⟩:=List.mem_map.mp (aJ ps ts ▸ h);obtain⟨v1,v2,v3⟩:=az hv;rw[<- aF nd v1 hu e];exact⟨v3,v2⟩
 .rintro⟨h1,h2⟩;exact List.mem_map.mpr ⟨u,List.mem_filter.mpr ⟨List.mem_filter.mpr ⟨hu,h2⟩,h1⟩,rfl⟩
def iB(nd:(ts.map lT.nm).Nodup):((iN ps ts).map lT.nm).Nodup:=nd.sublist ((List.filter_sublist.trans abT).map _)
variable{d:lT}
def wg{L:List lT}(hd:d∈L)(h:zI t d):(L.filter λu=>decide (zI d u)).length<(L.filter λu=>decide (zI t u)).length:=by
 have s:(L.filter λu=>decide (zI d u)).Sublist _:=gD λx _ q=>decide_eq_true (dr h (of_decide_eq_true q));rcases aaX _ _ with z|z
 .exact z
 .have e:=s.eq_of_length_le z;have m:d∈L.filter λu=>decide _:=List.mem_filter.mpr ⟨hd,decide_eq_true h⟩;rw[<- e]at m;exact absurd (of_decide_eq_true (List.mem_filter.mp m).2) (cZ _)
def cf(nd:(ts.map lT.nm).Nodup):∀(n:Nat) (t:lT),t∈iN ps ts->((iN ps ts).filter λu=>decide (zI t u)).length<n->¬ yX (zc ps (less (iN ps ts) t)) t.one t.yK
 |0,_,_,h=>by omega
 |n+1,t,ht,h=>by
  intro r;have tn:=iB (ps:=ps) nd;have oL:∀u∈iN ps ts,yN ps u=true:=aL;have oB:∀u∈below _ t,u∈iN ps ts:=λu hu=>(yQ.mp hu).1;have hne:∀u∈iN ps ts,∀d∈iN ps ts,zI u d->u.nm≠d.nm:=λu hu d hd c e=>by
   have:=aF tn hu hd e;subst this;exact cZ _ c
  have r2:yX (zc ps (below (iN ps ts) t++(iN ps ts).filter λu=>decide (zI t u))) t.one t.yK:=by
   refine cS (λu hu=>oL u (rW.mp hu).1) (λu hu=>?_) (λu hu=>?_) r
   .rcases List.mem_append.mp hu with z|z
    .exact oL u (oB u z)
    .exact oL u (List.mem_filter.mp z).1
   .obtain⟨u1,u2⟩:=rW.mp hu;rcases lU u2 with z|z
    .exact aaD _ (yQ.mpr ⟨u1,z⟩)
    .exact aao _ (List.mem_filter.mpr ⟨u1,decide_eq_true z⟩)
  have r3:=nh oL ht oB _ (tn.sublist (List.filter_sublist.map _)) (λd hd=>by
   obtain⟨d1,d2⟩:=List.mem_filter.mp hd;have d2:=of_decide_eq_true d2;refine⟨d1,λu hu=>?_,hne t ht d d1 d2,cf nd n d d1 ?_⟩
   .obtain⟨u1,u2⟩:=yQ.mp hu;exact hne u u1 d d1 (dr u2 d2)
   .have:=wg d1 d2
    omega) r2
  have mn:=AI.mp (az ht).2.2;refine mn (cS (λu hu=>oL u (oB u hu)) (λu hu=>(List.mem_filter.mp (yQ.mp hu).1).2) (λu hu=>?_) r3);obtain⟨u1,u2⟩:=yQ.mp hu;exact yQ.mpr ⟨(List.mem_filter.mp u1).1,u2⟩
def iz:∀{ns:List Str} {a b:Str},Wk os a ns b->t.nm∉ns->Wk (less os t) a ns b
 |[],_,_,h,_=>h
 |n::ns,a,b,⟨u,hu,e,c,q,h⟩,hn=>by
  rw[aca,not_or]at hn;exact⟨u,rW.mpr ⟨hu,λz=>hn.1 (z ▸ e)⟩,e,c,q,iz h hn.2⟩
def qW(nd:(ts.map lT.nm).Nodup):B8 ps (yF ps ts) ts=iN ps ts:=by
 unfold B8;rw[mD,gn nd];exact List.filter_eq_self.mpr aL
variable{b:Str}{ns:List Str}
def wF(w:Wk os a ns b)(d:ns.Nodup):ns.length<=os.length:=by
 have:=bF d λn hn=>by obtain⟨t,ht,e⟩:=w.mem n hn;exact List.mem_map.mpr ⟨t,ht,e⟩
 rwa [aae]at this
def cG(oX:∀u∈X,yN ps u=true)(sym:∀{x y},yX g x y->yX g y x)(h:∀u∈X,yX g u.one u.yK)(r:yX (zc ps X) x y):yX g x y:=by
 induction r with
 |refl=>exact .refl
 |step _ e ih=>
  obtain⟨t,ht,_,z⟩:=((AK oX).mem _ _ _).mp e;rcases z with ⟨rfl,rfl⟩|⟨rfl,rfl⟩
  .exact ih.trans (h t ht)
  .exact ih.trans (sym (h t ht))
noncomputable def upTo(ps:List Str)(os:List lT)(u:lT):List lT:=os.filter λv=>AW ps os v && !decide (zI u v)
def zJ:v∈upTo ps os u↔v∈os/\AW ps os v=true/\¬ zI u v:=by
 unfold upTo;rw[abE,aaR,acb,decide_eq_false_iff_not]
def uq(hv:v∈below os u):(below os v).length<(below os u).length:=by
 have s:(below os v).Sublist (below os u):=gD λx _ h=>decide_eq_true (dr (of_decide_eq_true h) (yQ.mp hv).2);rcases aaX _ _ with z|z
 .exact z
 .have e:=s.eq_of_length_le z;rw[<- e]at hv;exact absurd (yQ.mp hv).2 (cZ _)
def gA(oo:∀u∈os,yN ps u=true):∀(n:Nat) (u:lT),u∈os->(below os u).length<n->yX (zc ps (upTo ps os u)) u.one u.yK
 |0,_,_,h=>by omega
 |n+1,u,hu,h=>by
  have oU:∀v∈upTo ps os u,yN ps v=true:=λv hv=>oo v (zJ.mp hv).1;by_cases hm:Min ps os u
  .exact bc oU (zJ.mpr ⟨hu,AI.mpr hm,cZ u⟩)
  .have r  := abM hm;refine cG (λv hv=>oo v (yQ.mp hv).1) (λr=>(AK oU).EJ r) (λv hv=>?_) r;have hb:=yQ.mp hv;have ih:=gA oo n v hb.1 (by have:=uq hv;omega);exact cS (λw hw=>oo w (zJ.mp hw).1) oU (λw hw=>by
    obtain⟨a,b,c⟩:=zJ.mp hw;exact zJ.mpr ⟨a,b,λz=>c (dr hb.2 z)⟩) ih
def lW(ps:List Str)(ts:List lT):zc ps (ts.filter (yN ps))=zc ps ts:=by
 unfold zc;rw[acr];simp only[Bool.and_self]
structure G4(ps:List Str)(ts:List lT)(one yK:Str)(ns:List Str)(t:lT):Prop where
 w:Wk (iN ps ts) one ns yK
 nd:ns.Nodup
 ht:t∈iN ps ts
 hn:t.nm∈ns
 mx:∀u∈iN ps ts,u.nm∈ns->u.nm≠t.nm->zI u t
def oE(nd:(ts.map lT.nm).Nodup)(hu:u∈ts)(ht:t∈ts)(c:zI u t):u.nm≠t.nm:=λe=>by
 have:=aF nd hu ht e;subst this;exact cZ _ c
def Cw(r:yX (zc ps X) x y):yX (zc ps X) y x:=(f9 ps X).EJ r
def bh{Y:List lT}(h:∀u∈X,yN ps u=true->u∈Y)(r:yX (zc ps X) x y):yX (zc ps Y) x y :=
 pi (f9 ps X) (f9 ps Y) (λu hu=>by
  obtain⟨a,b⟩:=List.mem_filter.mp hu;exact List.mem_filter.mpr ⟨h u a b,b⟩) r
def DW:yX (zc ps (iN ps ts)) x y↔yX (zc ps ts) x y:=by
 constructor
 .exact bh λu hu _=>(az hu).1
 .intro r;rw[<- lW]at r;have oo:∀u∈ts.filter (yN ps),yN ps u=true:=λu hu=>(List.mem_filter.mp hu).2;refine cG oo Cw (λu hu=>?_) r;refine bh (λv hv _=>?_) (gA oo _ u hu (aaU _));obtain⟨v1,v2,v3⟩:=zJ.mp hv;exact List.mem_filter.mpr ⟨v1,v2⟩
def qJ{EK:List lT}:∀{ns:List Str} {a b:Str},(∀u∈os,u.nm∈ns->u∈EK)->Wk os a ns b->Wk EK a ns b
 |[],_,_,_,h=>h
 |n::ns,a,b,k,⟨u,hu,e,c,q,h⟩=>⟨u,k u hu (by rw[e];exact aar),e,c,q,qJ (λv hv hn=>k v hv (aaj _ hn)) h⟩
noncomputable def bU(ps:List Str)(ts:List lT)(a:Str):List Str:=ps.filter (rb (zc ps ts) a)
def y4:x∈bU ps ts a↔x∈ps/\yX (zc ps ts) a x:=by
 unfold bU;rw[abE,rg]
def gK:Fd:=λxs P=>∃(ps ns:List Str) (ts:List lT),(xs=[lE ps ts,.tup (ns.map .str)]\/xs=[lE ps ts,.lst (ns.map .str)])/\ts.length<=1000/\ns.length<=1000/\P (lE ps (ts.filter (AM ns)))
def zY(ps side:List Str)(t:lT):Bool:=yN ps t && !decide (decide (t.one∈side)=decide (t.yK∈side))
def gJ:Fd:=λxs P=>∃(ps side:List Str) (ts:List lT),xs=[lE ps ts,.tup (side.map .str)]/\ts.length<=1000/\P (.tup (((ts.filter (zY ps side)).map lT.nm).map .str))
def Tr:Nat->PV->Prop
 |0,_=>False
 |d+1,x=>(∃s,x=.str s)\/(∃n,x=.int n)\/x=.yB\/∃l,x=.tup l/\l.length<=1000/\∀y∈l,Tr d y
def lX:Fd:=λxs P=>∃(ps:List Str) (ts:List lT) (fs:List Str) (one yK:Str),xs=[lE ps ts,.tup (fs.map .str),.str one,.str yK]/\Nt ps ts/\(ts.map lT.nm).Nodup/\fs.length<=1000/\one∈ps/\yK∈ps /\
 (¬ yX (zc ps (ts.filter (AM fs))) yK one->P .yB)/\∀ns:List Str,Wk (B8 ps fs ts) one ns yK->ns.Nodup->ns.length<=1000->P (.tup (ns.map .str))
def Top(us:List lT)(t:lT):Prop:=t∈us/\∀u∈us,u.nm≠t.nm->zI u t
def da(T:Addr×Addr×Addr):BL:=λc xs P=>c=yR T/\∃(ps:List Str) (ts us:List lT),xs=[lE ps ts,.tup ((us.map lT.nm).map .str)]/\ts.length<=1000/\(ts.map lT.nm).Nodup/\us.length<64/\(us.map lT.nm).Nodup/\(∀u∈us,u∈ts)/\us≠[] /\
 ∀t,Top us t->P (.str t.nm) (yR T)
noncomputable def Ak(ps:List Str)(ts:List lT)(t:lT):List Str:=bU ps (less (iN ps ts) t) t.one
noncomputable def outs(ps:List Str)(ts:List lT)(t:lT):List lT:=(ts.filter (zY ps (Ak ps ts t))).filter λu=>decide (u.nm≠t.nm)
def Hl(us:List lT)(t:lT):Prop:=t∈us/\∀u∈us,u.nm≠t.nm->zI t u
def rK(nd:(ts.map lT.nm).Nodup):ts.filter (AM ((yF ps ts).filter λn=>decide (n≠t.nm)))=less (iN ps ts) t:=by
 unfold less;rw[<- gn nd,acr];refine acy λu _=>?_;rw[aa2,jN,abE,aaR,jN];exact And.comm
def nK(h:u∈outs ps ts t):u∈ts/\u.nm≠t.nm:=by
 obtain⟨a,b⟩:=List.mem_filter.mp h;exact⟨(List.mem_filter.mp a).1,of_decide_eq_true b⟩
def tJ:(outs ps ts t).length<=ts.length:=aa4 (aaF _ _) (aaF _ _)
def vd(nd:(ts.map lT.nm).Nodup):((outs ps ts t).map lT.nm).Nodup:=nd.sublist ((List.filter_sublist.trans abT).map _)
def qK(nd:(ts.map lT.nm).Nodup)(w:Wk (iN ps ts) a ns b)(d:ns.Nodup)(ht:t∈iN ps ts)(hn:t.nm∈ns):¬ yX (zc ps (less (iN ps ts) t)) a b:=by
 intro r2;have tn:=iB (ps:=ps) nd;obtain⟨p,q,rfl,hp⟩:=m6 hn;obtain⟨x,w1,t',JH,e',y,q',w2⟩:=w.cut;have  := aF tn JH ht e';subst this;have hq  := λz=>by
  have:=(List.nodup_append.mp d).2.1;exact(List.nodup_cons.mp this).1 z
 have oL:∀u∈less (iN ps ts) t',yN ps u=true:=λu hu=>aL u (rW.mp hu).1;have s1:=gP (AK oL) (iz w1 hp);have s2:=gP (AK oL) (iz w2 hq);have s3  := ((Cw s1).trans r2).trans (Cw s2);refine cf nd _ t' ht (aaU _) ?_;rcases q' with ⟨rfl,rfl⟩|⟨rfl,rfl⟩
 .exact s3
 .exact Cw s3
def tY(nd:(ts.map lT.nm).Nodup)(ht:t∈ts)(hu:u∈ts)(o:yN ps u=true)(c:zI u t):yX (zc ps (less (iN ps ts) t)) u.one u.yK:=by
 have oo:∀u∈ts.filter _,yN ps u=true:=λu hu=>(List.mem_filter.mp hu).2;refine bh (λv hv _=>?_) (gA oo _ u (List.mem_filter.mpr ⟨hu,o⟩) (aaU _));obtain⟨v1,v2,v3⟩:=zJ.mp hv;refine rW.mpr ⟨List.mem_filter.mpr ⟨v1,v2⟩,λe=>?_⟩;have:=aF nd (List.mem_filter.mp v1).1 ht e;subst this;exact v3 c
def sV(ht:t∈iN ps ts):t.one∈Ak ps ts t:=y4.mpr ⟨(zp.mp (aL t ht)).1,.refl⟩
def sU(nd:(ts.map lT.nm).Nodup)(ht:t∈iN ps ts):t.yK∉Ak ps ts t:=λh=>cf nd _ t ht (aaU _) (y4.mp h).2
def jA(nd:(ts.map lT.nm).Nodup)(ht:t∈iN ps ts):Hl (ts.filter (zY ps (Ak ps ts t))) t:=by
 refine⟨List.mem_filter.mpr ⟨(az ht).1,?_⟩,λu hu ne=>?_⟩
 .unfold zY;rw[aL t ht,decide_eq_true (sV ht),decide_eq_false (sU nd ht)];rfl
 .obtain⟨u1,u2⟩:=List.mem_filter.mp hu;unfold zY at u2;rw[aaR,acb,decide_eq_false_iff_not,decide_eq_decide]at u2;refine(lU ne).resolve_left λc=>u2.2 ?_;have r:=tY nd (az ht).1 u1 u2.1 c;obtain⟨o1,o2⟩:=zp.mp u2.1;unfold Ak;rw[y4,y4];exact⟨λh=>⟨o2,h.2.trans r⟩,λh=>⟨o1,h.2.trans (Cw r)⟩⟩
structure Sp(ps:List Str)(ts T:List lT):Prop where
 sub:∀t∈T,t∈ts/\yN ps t=true
 nd:(T.map lT.nm).Nodup
 br:∀t∈T,¬ yX (zc ps (less T t)) t.one t.yK
 sp:∀x y,yX (zc ps ts) x y->yX (zc ps T) x y
variable{T:List lT}
def Sp.yN(h:Sp ps ts T):∀t∈T,yN ps t=true:=λt ht=>(h.sub t ht).2
def Sp.MM(h:Sp ps ts T)(hu:u∈ts)(o:Pre.yN ps u=true):yX (zc ps T) u.one u.yK:=by
 refine h.sp _ _ ?_;rw[<- lW];exact bc (λu hu=>(List.mem_filter.mp hu).2) (List.mem_filter.mpr ⟨hu,o⟩)
def dL(nd:(ts.map lT.nm).Nodup):Sp ps ts (iN ps ts) where
 sub:=λt ht=>⟨(az ht).1,aL t ht⟩
 nd:=iB nd
 br:=λt ht=>cf nd _ t ht (aaU _)
 sp:=λ_ _ r=>DW.mpr r
def Sp.RO(h:Sp ps ts T)(hd:d∈T)(r:yX (zc ps T) x y):yX (zc ps (less T d)) x y\/(yX (zc ps (less T d)) x d.one/\yX (zc ps (less T d)) d.yK y)\/(yX (zc ps (less T d)) x d.yK/\yX (zc ps (less T d)) d.one y):=by
 refine cV (AK λu hu=>h.yN u (rW.mp hu).1) (AK h.yN) (λv=>?_) r;rw[rW];constructor
 .intro hv;by_cases e:v.nm=d.nm
  .exact .inr (aF h.nd hv hd e)
  .exact .inl ⟨hv,e⟩
 .rintro(⟨hv,_⟩|rfl)
  .exact hv
  .exact hd
def Sp.MQ(h:Sp ps ts T)(hd:d∈T)(hu:u∈ts)(o:Pre.yN ps u=true)(c:¬ (u.one∈bU ps (less T d) d.one↔u.yK∈bU ps (less T d) d.one)):
  ¬ yX (zc ps (less T d)) u.one u.yK/\((yX (zc ps (less T d)) d.one u.one/\yX (zc ps (less T d)) u.yK d.yK)\/(yX (zc ps (less T d)) d.one u.yK/\yX (zc ps (less T d)) u.one d.yK)):=by
 obtain⟨o1,o2⟩:=zp.mp o;have n  := λr=>c (by
  rw[y4,y4];exact⟨λz=>⟨o2,z.2.trans r⟩,λz=>⟨o1,z.2.trans (Cw r)⟩⟩)
 refine⟨n,?_⟩;rcases h.RO hd (h.MM hu o)with z|⟨z1,z2⟩|⟨z1,z2⟩
 .exact absurd z n
 .exact .inl ⟨Cw z1,Cw z2⟩
 .exact .inr ⟨z2,z1⟩
def Sp.swap(h:Sp ps ts T)(nd:(ts.map lT.nm).Nodup){T':List lT}(hd:d∈T)(hu:u∈ts)(o:Pre.yN ps u=true)(c:¬ (u.one∈bU ps (less T d) d.one↔u.yK∈bU ps (less T d) d.one))(p:T'.Perm (less T d++[u])):Sp ps ts T':=by
 obtain⟨n,q⟩:=h.MQ hd hu o c;have oL:∀v∈less T d,Pre.yN ps v=true:=λv hv=>h.yN v (rW.mp hv).1;have m:∀v,v∈T'↔v∈less T d\/v=u:=λv=>by rw[p.mem_iff,aa9,adL]
 have oT:∀v∈T',Pre.yN ps v=true:=λv hv=>by
  rcases(m v).mp hv with z|rfl
  .exact oL v z
  .exact o
 have nu:∀v∈less T d,v.nm≠u.nm:=λv hv e=>by
  have:=aF nd (h.sub v (rW.mp hv).1).1 hu e;subst this;exact n (bc oL hv)
 have up:∀{x y:Str},yX _ x y->yX (zc ps T') x y:=λr=>bh (λv hv _=>(m v).mpr (.inl hv)) r;refine⟨λv hv=>?_,?_,λv hv r=>?_,λx y r=>?_⟩
 .rcases(m v).mp hv with z|rfl
  .exact h.sub v (rW.mp z).1
  .exact⟨hu,o⟩
 .rw[(p.map lT.nm).nodup_iff,aaP,ab9];refine⟨h.nd.sublist (List.filter_sublist.map _),by simp,λa ha b hb=>?_⟩;obtain⟨v,hv,rfl⟩:=List.mem_map.mp ha;simp at hb;subst hb;exact nu v hv
 .rcases(m v).mp hv with z|rfl
  .have mv:∀w,w∈less T' v↔w∈less (less T d) v\/w=u:=λw=>by
    rw[rW,rW,m];constructor
    .rintro⟨a|rfl,b⟩
     .exact .inl ⟨a,b⟩
     .exact .inr rfl
    .rintro(⟨a,b⟩|rfl)
     .exact⟨.inl a,b⟩
     .exact⟨.inr rfl,abm (nu v z)⟩
   have oM:∀w∈less _ v,Pre.yN ps w=true:=λw hw=>oL w (rW.mp hw).1;have dn:∀{x y:Str},yX (zc ps (less (less T d) v)) x y->yX _ x y:=λr=>bh (λw hw _=>(rW.mp hw).1) r;have ev  := bc oL z;rcases cV (AK oM) (AK λw hw=>oT w (rW.mp hw).1) mv r with z1|⟨z1,z2⟩|⟨z1,z2⟩
   .refine h.br v (rW.mp z).1 (bh (λw hw _=>?_) z1);obtain⟨a,b⟩:=rW.mp hw;exact rW.mpr ⟨(rW.mp a).1,b⟩
   .exact n (((Cw (dn z1)).trans ev).trans (Cw (dn z2)))
   .exact n (Cw (((Cw (dn z1)).trans ev).trans (Cw (dn z2))))
  .refine n (bh (λw hw _=>?_) r);obtain⟨a,b⟩:=rW.mp hw;rcases(m w).mp a with z|rfl
   .exact z
   .exact absurd rfl b
 .have eu  := bc oT ((m u).mpr (.inr rfl));refine cG h.yN Cw (λv hv=>?_) (h.sp x y r);by_cases e:v.nm=d.nm
  .have:=aF h.nd hv hd e;subst this;rcases q with ⟨q1,q2⟩|⟨q1,q2⟩
   .exact((up q1).trans eu).trans (up q2)
   .exact((up q1).trans (Cw eu)).trans (up q2)
  .exact bc oT ((m v).mpr (.inl (rW.mpr ⟨hv,e⟩)))
def Sp.one{S:List lT}(h:Sp ps ts T)(k:Sp ps ts S)(s:∀t∈T,t∈S):∀t∈S,t∈T:=λt ht=>abM λn=>by
 refine k.br t ht (bh (λv hv _=>rW.mpr ⟨s v hv,λe=>?_⟩) (h.MM (k.sub t ht).1 (k.sub t ht).2));exact n (aF k.nd (s v hv) ht e ▸ hv)
variable{side:List Str}
def re(r:yX (zc ps X) x y)(c:¬ (x∈side↔y∈side)):∃u∈X,Pre.yN ps u=true/\¬ (u.one∈side↔u.yK∈side):=by
 induction r with
 |refl=>exact absurd Iff.rfl c
 |@step y z nm _ e ih=>
  by_cases q:x∈side↔y∈side
  .obtain⟨u,hu,o,_,w⟩:=AO.mp e;refine⟨u,hu,o,λi=>c (q.trans ?_)⟩;rcases w with ⟨rfl,rfl⟩|⟨rfl,rfl⟩
   .exact i
   .exact i.symm
  .exact ih q
def wk(nd:(ts.map lT.nm).Nodup)(h:Hl (ts.filter (zY ps side)) t):t∈iN ps ts:=by
 obtain⟨h1,h2⟩:=List.mem_filter.mp h.1;unfold zY at h2;rw[aaR,acb,decide_eq_false_iff_not,decide_eq_decide]at h2;refine List.mem_filter.mpr ⟨List.mem_filter.mpr ⟨h1,h2.1⟩,AI.mpr λr=>?_⟩;obtain⟨u,hu,o,c⟩:=re r h2.2;obtain⟨u1,u2⟩:=yQ.mp hu;have ut:=(List.mem_filter.mp u1).1;refine sD u2 (h.2 u (List.mem_filter.mpr ⟨ut,?_⟩) (oE nd ut h1 u2));unfold zY;rw[o,adM,acb,decide_eq_false_iff_not,decide_eq_decide];exact c
def Sp.Kd(h:Sp ps ts T)(nd:(ts.map lT.nm).Nodup)(c:∀t∈T,∃side,Hl (ts.filter (zY ps side)) t):∀t,t∈T↔t∈iN ps ts:=by
 have s:∀t∈T,t∈iN ps ts:=λt ht=>by
  obtain⟨side,l⟩:=c t ht;exact wk nd l
 exact λt=>⟨s t,h.one (dL nd) s t⟩
def fc(n:Str)(c:Int)(u:lT):lT:=if u.nm=n then {u with cost:=c}else u
section
variable{n:Str}{c:Int}
def ck(n:Str)(c:Int)(u:lT):(fc n c u).nm=u.nm/\(fc n c u).one=u.one/\(fc n c u).yK=u.yK:=by
 unfold fc;split<;>exact⟨rfl,rfl,rfl⟩
def bZ(h:u.nm≠n):fc n c u=u:=by unfold fc;rw[if_neg h]
def n9(u:lT):yN ps (fc n c u)=yN ps u:=by
 obtain⟨_,a,b⟩:=ck n c u;unfold yN;rw[a,b]
def kE(X:List lT):(X.map (fc n c)).map lT.nm=X.map lT.nm:=by
 rw[aaH];exact aaY λu _=>(ck n c u).1
def vY(X:List lT)(u:lT):less (X.map (fc n c)) (fc n c u)=(less X u).map (fc n c):=by
 unfold less;rw[aet];congr 1;refine acy λv _=>?_;show decide ((fc n c v).nm≠(fc n c u).nm)=_;rw[(ck n c v).1,(ck n c u).1]
def ET:yX (zc ps (X.map (fc n c))) x y↔yX (zc ps X) x y:=by
 constructor
 .intro r;induction r with
  |refl=>exact .refl
  |step _ e ih=>
   obtain⟨u,hu,o,a,w⟩:=AO.mp e;obtain⟨v,hv,rfl⟩:=List.mem_map.mp hu;obtain⟨e1,e2,e3⟩:=ck n c v;rw[e2,e3]at w;rw[n9]at o;exact .step ih (AO.mpr ⟨v,hv,o,a.trans e1,w⟩)
 .intro r;induction r with
  |refl=>exact .refl
  |step _ e ih=>
   obtain⟨v,hv,o,a,w⟩:=AO.mp e;obtain⟨e1,e2,e3⟩:=ck n c v;refine .step ih (AO.mpr ⟨fc n c v,aaO hv,by rw[n9];exact o,a.trans e1.symm,?_⟩);rw[e2,e3];exact w
def Sp.fc(h:Sp ps ts X):Sp ps (ts.map (Pre.fc n c)) (X.map (Pre.fc n c)):=by
 refine⟨λu hu=>?_,by rw[kE];exact h.nd,λu hu r=>?_,λx y r=>ET.mpr (h.sp x y (ET.mp r))⟩
 .obtain⟨v,hv,rfl⟩:=List.mem_map.mp hu;exact⟨aaO (h.sub v hv).1,by rw[n9];exact(h.sub v hv).2⟩
 .obtain⟨v,hv,rfl⟩:=List.mem_map.mp hu;obtain⟨_,e2,e3⟩:=ck n c v;rw[vY,e2,e3]at r;exact h.br v hv (ET.mp r)
def Sp.K9(h:Sp ps ts X)(nd:(ts.map lT.nm).Nodup)(k:∀v∈ts,Pre.yN ps v=true->v∉X->yX (zc ps (X.filter λu=>decide (zI u v))) v.one v.yK):∀t,t∈X↔t∈iN ps ts:=by
 have s:∀t∈iN ps ts,t∈X:=λt ht=>abM λz=>by
  refine AI.mp (az ht).2.2 (bh (λu hu _=>?_) (k t (az ht).1 (aL t ht) z));obtain⟨a,b⟩:=List.mem_filter.mp hu;exact yQ.mpr ⟨List.mem_filter.mpr (h.sub u a),of_decide_eq_true b⟩
 exact λt=>⟨(dL nd).one h s t,s t⟩
def rE(u:lT):zY ps side (fc n c u)=zY ps side u:=by
 obtain⟨_,a,b⟩:=ck n c u;unfold zY;rw[n9,a,b]
def kW(nd:(ts.map lT.nm).Nodup)(ht:t∈iN ps ts)(hd:d∈iN ps ts)(ne:t.nm≠d.nm):zY ps (Ak ps ts d) t=false:=by
 have r:yX (zc ps (less (iN ps ts) d)) t.one t.yK:=bc (λu hu=>aL u (rW.mp hu).1) (rW.mpr ⟨ht,ne⟩);obtain⟨o1,o2⟩:=zp.mp (aL t ht);have e:t.one∈Ak ps ts d↔t.yK∈Ak ps ts d:=by
  unfold Ak;rw[y4,y4];exact⟨λz=>⟨o2,z.2.trans r⟩,λz=>⟨o1,z.2.trans (Cw r)⟩⟩
 unfold zY;simp[e]
def ki(hu:u∈ts.filter (zY ps side))(h:∀w∈ts.filter (zY ps side),w.nm≠u.nm->zI (fc n c u) (fc n c w)):Hl ((ts.map (fc n c)).filter (zY ps side)) (fc n c u):=by
 obtain⟨a,b⟩:=List.mem_filter.mp hu;refine⟨List.mem_filter.mpr ⟨aaO a,by rw[rE];exact b⟩,λw hw ne=>?_⟩;obtain⟨w1,w2⟩:=List.mem_filter.mp hw;obtain⟨v,hv,rfl⟩:=List.mem_map.mp w1;rw[rE]at w2;rw[(ck n c v).1,(ck n c u).1]at ne;exact h v (List.mem_filter.mpr ⟨hv,w2⟩) ne
def kf{Y:List lT}(ok:AL ps ts)(k:∀t,t∈Y.map (fc n c)↔t∈iN ps (ts.map (fc n c)))(x:Str):x∈yF ps (ts.map (fc n c))↔x∈Y.map lT.nm:=by
 rw[aJ,<- kE (n:=n) (c:=c) Y,acU,acU];exact⟨λ⟨u,a,b⟩=>⟨u,(k u).mpr a,b⟩,λ⟨u,a,b⟩=>⟨u,(k u).mp a,b⟩⟩
variable(ok:AL ps ts)
include ok
def mY:((ts.map (fc n c)).map lT.nm).Nodup:=by rw[kE];exact aM ok
def wz(ht:t∈iN ps ts)(h:∀w∈outs ps ts t,zI (fc t.nm c t) w)(x:Str):x∈yF ps (ts.map (fc t.nm c))↔x∈yF ps ts:=by
 have nd:=aM ok;rw[aJ ps ts];refine kf ok (Sp.Kd (dL nd).fc (mY ok) λv hv=>?_) x;obtain⟨u,hu,rfl⟩:=List.mem_map.mp hv;have lo:=jA nd hu;refine⟨_,ki lo.1 λw hw ne=>?_⟩;by_cases e:u.nm=t.nm
 .have:=aF nd (az hu).1 (az ht).1 e;subst this;rw[bZ (n:=u.nm) ne];exact h w (List.mem_filter.mpr ⟨hw,by simpa using ne⟩)
 .rw[bZ e];by_cases e2:w.nm=t.nm
  .have:=aF nd (List.mem_filter.mp hw).1 (az ht).1 e2;subst this;have:=(List.mem_filter.mp hw).2;rw[kW nd ht hu (abm e)]at this;cases this
  .rw[bZ e2];exact lo.2 w hw ne
def ur(ht:t∈iN ps ts)(lo:Hl (outs ps ts t) d)(h:zI d (fc t.nm c t))(x:Str):x∈yF ps (ts.map (fc t.nm c))↔(x∈yF ps ts/\x≠t.nm)\/x=d.nm:=by
 have nd:=aM ok;obtain⟨l1,l2⟩:=List.mem_filter.mp lo.1;obtain⟨l3,l4⟩:=List.mem_filter.mp l1;have l2:d.nm≠t.nm:=by simpa using l2
 have l5:=l4;unfold zY at l5;rw[aaR,acb,decide_eq_false_iff_not,decide_eq_decide]at l5;have sp:=(dL (ps:=ps) nd).swap nd ht l3 l5.1 l5.2 (.refl _);have k:=kf (n:=t.nm) (c:=c) ok (Sp.Kd sp.fc (mY ok) λv hv=>?_) x
 .rw[k,aaP,aa9,aJ];refine or_congr ?_ (by simp);rw[acU,acU];constructor
  .rintro⟨u,a,rfl⟩;obtain⟨a,b⟩:=rW.mp a;exact⟨⟨u,a,rfl⟩,b⟩
  .rintro⟨⟨u,a,rfl⟩,b⟩;exact⟨u,rW.mpr ⟨a,b⟩,rfl⟩
 obtain⟨u,hu,rfl⟩:=List.mem_map.mp hv;rcases List.mem_append.mp hu with hu|hu
 .obtain⟨u1,u2⟩:=rW.mp hu;have low:=jA nd u1;refine⟨_,ki low.1 λw hw ne=>?_⟩;rw[bZ u2];by_cases e2:w.nm=t.nm
  .have:=aF nd (List.mem_filter.mp hw).1 (az ht).1 e2;subst this;have:=(List.mem_filter.mp hw).2;rw[kW nd ht u1 (abm u2)]at this;cases this
  .rw[bZ e2];exact low.2 w hw ne
 .have:u=d:=by simpa using hu
  subst this;refine⟨Ak ps ts t,ki l1 λw hw ne=>?_⟩;rw[bZ l2];by_cases e2:w.nm=t.nm
  .have:=aF nd (List.mem_filter.mp hw).1 (az ht).1 e2;subst this;exact h
  .rw[bZ e2];exact lo.2 w (List.mem_filter.mpr ⟨hw,by simpa using e2⟩) ne
def wA(ht:t∈ts)(nt:t∉iN ps ts)(D:G4 ps ts t.one t.yK ns d)(h:zI d (fc t.nm c t))(x:Str):x∈yF ps (ts.map (fc t.nm c))↔x∈yF ps ts:=by
 have nd:=aM ok;have ne:∀u∈iN ps ts,u.nm≠t.nm:=λu hu e=>nt (aF nd (az hu).1 ht e ▸ hu);rw[aJ ps ts];refine kf ok (Sp.Kd (dL nd).fc (mY ok) λv hv=>?_) x;obtain⟨u,hu,rfl⟩:=List.mem_map.mp hv;have lo:=jA nd hu;refine⟨_,ki lo.1 λw hw nw=>?_⟩;rw[bZ (ne u hu)];by_cases e2:w.nm=t.nm
 .have:=aF nd (List.mem_filter.mp hw).1 ht e2;subst this;by_cases un:u.nm∈ns
  .by_cases ud:u.nm=d.nm
   .rw[aF nd (az hu).1 (az D.ht).1 ud];exact h
   .exact dr (D.mx u hu un ud) h
  .have r:=gP (AK λu' Ph=>aL u' (rW.mp Ph).1) (iz D.w un);have:=(List.mem_filter.mp hw).2;unfold zY at this;rw[aaR,acb,decide_eq_false_iff_not,decide_eq_decide]at this;obtain⟨o1,o2⟩:=zp.mp this.1;refine absurd ?_ this.2;unfold Ak;rw[y4,y4];exact⟨λz=>⟨o2,z.2.trans r⟩,λz=>⟨o1,z.2.trans (Cw r)⟩⟩
 .rw[bZ e2];exact lo.2 w hw nw
def wB(ht:t∈ts)(ot:yN ps t=true)(nt:t∉iN ps ts)(D:G4 ps ts t.one t.yK ns d)(h:zI (fc t.nm c t) d)(x:Str):x∈yF ps (ts.map (fc t.nm c))↔(x∈yF ps ts/\x≠d.nm)\/x=t.nm:=by
 have nd:=aM ok;have ne:∀u∈iN ps ts,u.nm≠t.nm:=λu hu e=>nt (aF nd (az hu).1 ht e ▸ hu);have dt:=ne d D.ht;have oA:∀v,∀u∈(iN ps ts).filter (λu=>decide (zI u v)),yN ps u=true:=λv u hu=>aL u (List.mem_filter.mp hu).1;have br:=cf nd _ d D.ht (aaU _);have up:∀{a b:Str},yX (zc ps ((iN ps ts).filter λu=>decide (zI u d))) a b->yX (zc ps (less (iN ps ts) d)) a b:=λr=>bh (λu hu _=>by
  obtain⟨a,b⟩:=List.mem_filter.mp hu;exact rW.mpr ⟨a,oE nd (az a).1 (az D.ht).1 (of_decide_eq_true b)⟩) r
 have nb:=qK nd D.w D.nd D.ht D.hn;have w2:yX (zc ps ((iN ps ts).filter λu=>decide (zI u d) || decide (u.nm=d.nm))) t.one t.yK:=by
  refine gP (AK λu hu=>aL u (List.mem_filter.mp hu).1) (qJ (λu hu hn=>List.mem_filter.mpr ⟨hu,?_⟩) D.w);by_cases e:u.nm=d.nm
  .simp[e]
  .simp[D.mx u hu hn e]
 have q:(yX (zc ps ((iN ps ts).filter λu=>decide (zI u d))) t.one d.one/\yX (zc ps ((iN ps ts).filter λu=>decide (zI u d))) d.yK t.yK)\/(yX (zc ps ((iN ps ts).filter λu=>decide (zI u d))) t.one d.yK/\yX (zc ps ((iN ps ts).filter λu=>decide (zI u d))) d.one t.yK):=by
  have mm:∀u,u∈(iN ps ts).filter (λu=>decide (zI u d) || decide (u.nm=d.nm))↔u∈(iN ps ts).filter (λu=>decide (zI u d))\/u=d:=λu=>by
   rw[abE,abE,acO,decide_eq_true_eq,decide_eq_true_eq];constructor
   .rintro⟨a,b|b⟩
    .exact .inl ⟨a,b⟩
    .exact .inr (aF nd (az a).1 (az D.ht).1 b)
   .rintro(⟨a,b⟩|rfl)
    .exact⟨a,.inl b⟩
    .exact⟨D.ht,.inr rfl⟩
  rcases cV (AK (oA d)) (AK λu hu=>aL u (List.mem_filter.mp hu).1) (t:=d) mm w2 with z|z
  .exact absurd (up z) nb
  .exact z
 obtain⟨o1,o2⟩:=zp.mp ot;have cr:¬ (t.one∈bU ps (less (iN ps ts) d) d.one↔t.yK∈bU ps (less (iN ps ts) d) d.one):=λi=>by
  rw[y4,y4]at i;rcases q with ⟨q1,q2⟩|⟨q1,q2⟩
  .exact br ((i.mp ⟨o1,Cw (up q1)⟩).2.trans (Cw (up q2)))
  .exact br ((i.mpr ⟨o2,up q2⟩).2.trans (up q1))
 have sp:=(dL (ps:=ps) nd).swap nd D.ht ht ot cr (.refl _);have k:=kf (n:=t.nm) (c:=c) ok (Sp.K9 sp.fc (mY ok) λv hv ov nv=>?_) x
 .rw[k,aaP,aa9,aJ];refine or_congr ?_ (by simp);rw[acU,acU];constructor
  .rintro⟨u,a,rfl⟩;obtain⟨a,b⟩:=rW.mp a;exact⟨⟨u,a,rfl⟩,b⟩
  .rintro⟨⟨u,a,rfl⟩,b⟩;exact⟨u,rW.mpr ⟨a,b⟩,rfl⟩
 have tm:fc t.nm c t∈(less (iN ps ts) d++[t]).map (fc t.nm c):=aaO (by simp);have om:∀u∈((less (iN ps ts) d++[t]).map (fc t.nm c)).filter (λu=>decide (zI u v)),yN ps u=true:=λu hu=>sp.fc.yN u (List.mem_filter.mp hu).1;have QY:∀u∈iN ps ts,u.nm≠d.nm->zI u v->u∈((less (iN ps ts) d++[t]).map (fc t.nm c)).filter λu=>decide (zI u v):=λu hu nu cu=>List.mem_filter.mpr ⟨List.mem_map.mpr ⟨u,aaD _ (rW.mpr ⟨hu,nu⟩),bZ (ne u hu)⟩,decide_eq_true cu⟩;have Lc:(v=d\/zI d v)->yX (zc ps (((less (iN ps ts) d++[t]).map (fc t.nm c)).filter λu=>decide (zI u v))) d.one d.yK:=λdv=>by
  have lt:∀u,zI u d->zI u v:=λu cu=>dv.elim (λe=>e ▸ cu) λz=>dr cu z;have mv:∀{a b:Str},yX (zc ps ((iN ps ts).filter λu=>decide (zI u d))) a b->yX (zc ps (((less (iN ps ts) d++[t]).map (fc t.nm c)).filter λu=>decide (zI u v))) a b:=λr=>bh (λu hu _=>by
   obtain⟨a,b⟩:=List.mem_filter.mp hu;have b:=of_decide_eq_true b;exact QY u a (oE nd (az a).1 (az D.ht).1 b) (lt u b)) r
  have et:yX (zc ps (((less (iN ps ts) d++[t]).map (fc t.nm c)).filter λu=>decide (zI u v))) t.one t.yK:=by
   obtain⟨_,e2,e3⟩:=ck t.nm c t;have:=bc om (List.mem_filter.mpr ⟨tm,decide_eq_true (lt _ h)⟩)
   rwa [e2,e3]at this
  rcases q with ⟨q1,q2⟩|⟨q1,q2⟩
  .exact((Cw (mv q1)).trans et).trans (Cw (mv q2))
  .exact((mv q2).trans (Cw et)).trans (mv q1)
 obtain⟨w,hw,rfl⟩:=List.mem_map.mp hv;have wt:w.nm≠t.nm:=λe=>nv (by
  rw[aF nd hw ht e];exact tm)
 rw[bZ wt]at *;by_cases wd:w.nm=d.nm
 .have:=aF nd hw (az D.ht).1 wd;subst this;exact Lc (.inl rfl)
 have wT:w∉iN ps ts:=λz=>nv (List.mem_map.mpr ⟨w,aaD _ (rW.mpr ⟨z,wd⟩),bZ wt⟩);have r:=gA (ps:=ps) (os:=ts.filter (yN ps)) (λu hu=>(List.mem_filter.mp hu).2) _ w (List.mem_filter.mpr ⟨hw,ov⟩) (aaU _);refine cG (λu hu=>(List.mem_filter.mp (zJ.mp hu).1).2) Cw (λu hu=>?_) r;obtain⟨u1,u2,u3⟩:=zJ.mp hu;have ut:u∈iN ps ts:=List.mem_filter.mpr ⟨u1,u2⟩;have cu:zI u w:=(lU λe=>wT (aF nd (az ut).1 hw e ▸ ut)).resolve_right u3;by_cases ud:u.nm=d.nm
 .have:=aF nd (az ut).1 (az D.ht).1 ud;subst this;exact Lc (.inr cu)
 .exact bc om (QY u ut ud cu)
omit ok in
def wy(ht:t∈ts)(nd:(ts.map lT.nm).Nodup)(ot:yN ps t=false):yF ps (ts.map (fc t.nm c))=yF ps ts:=by
 have e:(ts.map (fc t.nm c)).filter (yN ps)=ts.filter (yN ps):=by
  rw[aet];have e1:ts.filter (yN ps ∘ fc t.nm c)=ts.filter (yN ps):=acy λu _=>n9 u;rw[e1];refine(aaY λu hu=>?_).trans (List.map_id _);obtain⟨a,b⟩:=List.mem_filter.mp hu;refine bZ λz=>?_;rw[aF nd a ht z,ot]at b;cases b
 unfold yF;rw[e]
end
def lim(n:Str)(d:lT):Int:=if decide (zw n d.nm)=true then d.cost else d.cost - 1
def cQ(t d:lT):PV:=.tup [.str "stays",.int (lim t.nm d),.str d.nm]
def EC:PV:=.tup [.str "stays",.yB,.yB]
structure RI(ps:List Str)(ts:List lT)(t:lT):Prop where
 ok:AL ps ts
 pl:ps.length<=60
 tl:ts.length<=60
 FC:t∈iN ps ts
def Uu(ps:List Str)(ts:List lT)(t:lT)(P:PV->Prop):Prop:=(outs ps ts t=[]->P EC)/\∀u,Hl (outs ps ts t) u->P (cQ t u)
def bD:Fd:=λxs P=>∃(ps:List Str) (ts:List lT) (n:Str) (d:lT),xs=[lE ps ts,.str n,.str d.nm]/\ts.length<=1000/\(ts.map lT.nm).Nodup/\d∈ts/\P (.int (lim n d))
def cY(t d:lT):PV:=.tup [.str "comes",.int (lim t.nm d),.str d.nm]
structure Out(ps:List Str)(ts:List lT)(t:lT):Prop where
 ok:AL ps ts
 pl:ps.length<=60
 tl:ts.length<=60
 mem:t∈ts
 yN:yN ps t=true
 out:t∉iN ps ts
instance Ou:DecidableEq lT:=λa b=>decidable_of_iff (a.nm=b.nm/\a.one=b.one/\a.yK=b.yK/\a.cost=b.cost) ⟨λh=>by
 cases a;cases b;obtain⟨h1,h2,h3,h4⟩:=h;cases h1;cases h2;cases h3;cases h4;rfl,λh=>by subst h;exact⟨rfl,rfl,rfl,rfl⟩⟩
structure Nk(ps:List Str)(ts:List lT):Prop where
 ok:AL ps ts
 pl:ps.length<=60
 tl:ts.length<=60
inductive Tells (ps:List Str) (ts:List lT) (t:lT):PV->Prop
 |wait (o:yN ps t=false):Tells ps ts t (.tup [.str "waits"])
 |Co (h:t∈iN ps ts) (e:outs ps ts t=[]):Tells ps ts t EC
 |low (h:t∈iN ps ts) (u:lT) (l:Hl (outs ps ts t) u):Tells ps ts t (cQ t u)
 |come (o:yN ps t=true) (h:t∉iN ps ts) (ns:List Str) (d:lT) (D:G4 ps ts t.one t.yK ns d):Tells ps ts t (cY t d)
def CV(n:Str)(c:Int):PV:=.tup [.str "cost",.str n,.int c]
def dh:Fd:=λxs P=>∃x:Str,xs=[.str x]/\zQ x/\P (.bl true)
def eS:Fd:=λxs P=>∃n:Int,xs=[.int n]/\P (.bl true)
def fA:Fd:=λxs P=>∃(n:Str) (c:Int),xs=[CV n c]/\zQ n/\P (.bl true)
def cm:Fd:=λxs P=>∃(ps:List Str) (ts:List lT) (t:lT) (c:Int),xs=[lE ps ts,CV t.nm c]/\(ts.map lT.nm).Nodup/\ts.length<=60/\t∈ts/\P (lE ps (ts.map (fc t.nm c)))
def fB:Fd:=λxs P=>∃(ps:List Str) (ts:List lT) (t:lT) (c:Int),xs=[lE ps ts,CV t.nm c]/\(ts.map lT.nm).Nodup/\ts.length<=60/\t∈ts/\zQ t.nm/\P (lE ps (ts.map (fc t.nm c)))
def cN(T:Addr×Addr×Addr):BL:=λc xs P=>c=yR T/\∃(ps:List Str) (ts us:List lT),xs=[lE ps ts,.lst ((us.map lT.nm).map .str)]/\ts.length<=1000/\(ts.map lT.nm).Nodup/\us.length<64/\(us.map lT.nm).Nodup/\(∀u∈us,u∈ts)/\us≠[] /\
 ∀t,Hl us t->P (.str t.nm) (yR T)
def fy:Fd:=λxs P=>∃(ps:List Str) (ts:List lT) (t:lT),xs=[lE ps ts,.tup ((yF ps ts).map .str),oR t]/\RI ps ts t/\P (.tup ((Ak ps ts t).map .str))
def cb(T:Addr×Addr×Addr):BL:=λc xs P=>c=yR T/\∃(ps:List Str) (ts:List lT) (t:lT),xs=[lE ps ts,.tup ((yF ps ts).map .str),oR t]/\RI ps ts t/\Uu ps ts t λr=>P r (yR T)
def bR(T:Addr×Addr×Addr):BL:=λc xs P=>c=yR T/\∃(ps:List Str) (ts:List lT) (t:lT),xs=[lE ps ts,.tup ((yF ps ts).map .str),oR t]/\Out ps ts t/\∀ns d,G4 ps ts t.one t.yK ns d->P (cY t d) (yR T)
def gL(T:Addr×Addr×Addr):BL:=λc xs P=>c=yR T/\∃(ps:List Str) (ts:List lT) (t:lT),xs=[lE ps ts,.str t.nm]/\Nk ps ts/\t∈ts/\∀r,Tells ps ts t r->P r (yR T)
def gc(T:Addr×Addr×Addr):BL:=λc xs P=>c=yR T/\∃(ps:List Str) (ts:List lT) (t:lT) (z:Int),xs=[lE ps ts,.str t.nm,.int z]/\Nk ps ts/\t∈ts/\P (.tup ((yF ps (ts.map (fc t.nm z))).map .str)) (yR T)
def dJ:Fd:=λxs P=>∃(ms:List Str) (a b:Str),xs=[.tup (ms.map .str),.str a,.str b]/\ms.length<=60/\ms.Pairwise zw/\∀gs:List Str,gs.Pairwise (λx y=>¬ zw y x)->gs.Perm ((ms.filter λx=>decide (x≠a))++[b])->P (.tup (gs.map .str))
def iy(T:Addr×Addr×Addr):BL:=λc xs P=>c=yR T/\∃(ps:List Str) (ts:List lT) (t:lT),xs=[lE ps ts,.tup ((yF ps ts).map .str),.str t.nm]/\Nk ps ts/\t∈ts/\P (.bl true) (yR T)
def cD:Fd:=λ_ _=>False
def cM:Fd:=λ_ _=>False
def cy:Fd:=λ_ _=>False
def dE:Fd:=λ_ _=>False
def eR:Fd:=λ_ _=>False
def fh:WS :=
  (yy (Br (Hs (BN (Bu (FJ "str" (zH 0)))) (BN (yM (B4 EO EO (eC (.int 1)) (BJ Bx (a1 (zH 0))) (eC (.int 8)))))) (yJ (eC (.bl false))) zS)
  (yJ (BJ Dm (aS (FZ (GD (eV 0)) (.nm 0) FU (B4 EO EO (eC (.str "a")) (eV 0) (eC (.str "z"))) [none]) iD))))
def dX:WS :=
  (yJ (CO (FJ "int" (zH 0)) (Kc (FJ "bool" (zH 0)))))
def fj:WS :=
  (yJ (CO (yu Bp (yu tO (eV 1) (eC (.int 1))) (yu tO (eV 0) (eC (.int 0)))) (yu Bp (yu tO (eV 1) (eC (.int 2))) (yu tO (eV 0) (eC (.int 0))))))
def cp:WS :=
  (yJ (HY (iS (yu tO (eV 0) (eC (.int 1)))) (.nm 0) FU (yu tO (eV 0) (eC (.int 0))) (eV 0) [none]))
def dy:WS :=
  (yJ (BJ bo (aS (FZ (iS (yu tO (eV 0) (eC (.int 1)))) (.nm 0) (Bu (yP bN (aS (eV 1) (aS (eV 0) iD)))) (yu tO (eV 0) (eC (.int 0))) [none,some 0]) iD)))
def gR:WS :=
  (yJ (HY (iS (yu tO (eV 0) (eC (.int 1)))) (.nm 0) FU (yu tO (eV 0) (eC (.int 0))) (Af (aS (yu tO (eV 0) (eC (.int 3))) (aS (yu tO (eV 0) (eC (.int 0))) iD))) [none]))
def bO(T:Addr×Addr×Addr):WS :=
  (yy (y8 2 (yP du (aS (eV 0) iD)))
  (yJ (EZ 3 2 "cheapest_of.<locals>.<lambda>" 19 26 T.1 false (eV 1))))
def bT(T:Addr×Addr×Addr):WS :=
  (yy (y8 2 (yP du (aS (eV 0) iD)))
  (yJ (E1 3 2 "dearest_of.<locals>.<lambda>" 22 26 T.2.1 (eV 1))))
def gh:WS :=
  (yJ (BJ bo (aS (FZ (iS (yu tO (eV 0) (eC (.int 1)))) (.nm 0) (EB (Bu (yP bN (aS (eV 1) (aS (eV 0) iD)))) (yM (yu CH (yu Bp (yu tO (eV 0) (eC (.int 1))) (zH 2)) (yu Bp (yu tO (eV 0) (eC (.int 2))) (zH 2))))) (yu tO (eV 0) (eC (.int 0))) [none,some 0,some 1]) iD)))
def bC(T:Addr×Addr×Addr):WS :=
  (yy (y8 2 (yP du (aS (eV 0) iD)))
  (yJ (lS 3 2 "cheaper_first.<locals>.<lambda>" 28 29 T.2.2 (eV 1))))
def b7:WS :=
  (yy (y8 2 (yP ba (aS (eV 0) iD)))
  (yy (A0 3 (HY (iS (yu tO (eV 0) (eC (.int 0)))) (.nm 0) FU (eV 0) (eV 0) [none]))
  (yy (A0 4 (C8 iD))
  (yy (Dv (iS (eV 1)) (gN 5) (yy (y8 6 (yu tO (eV 2) (zH 5)))
  (yy (Fu (Af (aS (FI tO 3 (yu tO (eV 6) (eC (.int 1)))) (aS (FI tO 3 (yu tO (eV 6) (eC (.int 2)))) iD))) (gT (zU (gN 7) (zU (gN 8) Ce))))
  (Br (yM (yu CH (eV 7) (zH 8))) (yy (B9 (GW bL 4 (aS (eV 5) iD)))
  (A0 3 (HY (lN 3) (.tp [0,1]) FU (eV 0) (KQ (yM (yu ze (eV 1) (zH 3))) (eV 2) (eV 1)) [none,none,some 7,some 8]))) zS))))
  (yJ (BJ bo (aS (Aq (a1 (zH 4))) iD)))))))
def cE(T:Addr×Addr×Addr):WS :=
  (yJ (yP b9 (aS (eV 0) (aS (yI (ce T) 1 (aS (eV 0) (aS (yP dF (aS (eV 0) iD)) iD))) iD))))
def cP:WS :=
  (yy (lh 1 (iS (yu tO (eV 0) (eC (.int 0)))))
  (yy (Dv (iS (yu tO (eV 0) (eC (.int 1)))) (gN 2) (Br (Bu (yP bN (aS (eV 0) (aS (eV 2) iD)))) (yy (fD 1 (yu tO (eV 2) (eC (.int 1))) (Af (aS (yu tO (eV 2) (eC (.int 0))) (aS (yu tO (eV 2) (eC (.int 2))) iD))))
  (fD 1 (yu tO (eV 2) (eC (.int 2))) (Af (aS (yu tO (eV 2) (eC (.int 0))) (aS (yu tO (eV 2) (eC (.int 1))) iD))))) zS))
  (lg 1)))
def fq:WS :=
  (yy (A0 2 (IH (((eV 1),(eC .yB))::[])))
  (yy (A0 3 (C8 (aS (eV 1) iD)))
  (yy (BR (Bu (zH 3)) (yy (y8 4 (GW HG 3 iD))
  (Dv (iS (yu tO (eV 0) (zH 4))) (gT (zU (gN 5) (zU (gN 6) Ce))) (Br (yM (yu A4 (eV 6) (zH 2))) (yy (Jl 2 (Af (aS (eV 5) (aS (eV 4) iD))) (eV 6))
  (B9 (GW bL 3 (aS (eV 6) iD)))) zS))))
  (yJ (eV 2)))))
def fg:WS :=
  (yJ (BJ bo (aS (Aq (aS (yP di (aS (eV 0) (aS (eV 1) iD))) iD)) iD)))
def ju:WS :=
  (yJ (Af (aS (yu tO (eV 0) (eC (.int 0))) (aS (BJ bo (aS (FZ (iS (yu tO (eV 0) (eC (.int 1)))) (.nm 0) (yM (yu Bp (yu tO (eV 0) (eC (.int 0))) (zH 1))) (eV 0) [none,some 1]) iD)) iD))))
def kO:WS :=
  (yy (y8 4 (yP di (aS (yP b0 (aS (yP gK (aS (eV 0) (aS (eV 1) iD))) iD)) (aS (eV 3) iD))))
  (yy (Br (yM (yu A4 (eV 2) (zH 4))) (yJ (eC .yB)) zS)
  (yy (A0 5 (C8 iD))
  (yy (y8 6 (eV 2))
  (yy (BR (yM (yu CH (eV 6) (zH 3))) (yy (Fu (yu tO (eV 4) (zH 6)) (gT (zU (gN 7) (zU (gN 6) Ce))))
  (B9 (GW bL 5 (aS (eV 7) iD)))))
  (yJ (BJ bo (a1 (zH 5)))))))))
def e9:WS :=
  (yy (y8 3 (FZ (iS (eV 1)) (.nm 0) (yM (yu CH (eV 0) (yu tO (eV 1) (eC (.int 0))))) (eV 0) [none,some 2]))
  (yJ (yP fz (aS (yP b0 (aS (yP gK (aS (eV 0) (aS (eV 3) iD))) iD)) (aS (yu tO (eV 2) (eC (.int 1))) iD)))))
def b8:WS :=
  (yy (y8 3 (yu tO (yu tO (yP ba (aS (eV 0) iD)) (zH 2)) (eC (.int 3))))
  (yJ (KQ (yM (yu Fz (eV 1) (zH 2))) (eV 3) (yu Av (eV 3) (eC (.int 1))))))
def bB(T:Addr×Addr×Addr):WS :=
  (yy (y8 3 (yu tO (eV 2) (eC (.int 0))))
  (yy (y8 4 (FZ (iS (yP gJ (aS (eV 0) (aS (yP fy (aS (eV 0) (aS (eV 1) (aS (eV 2) iD)))) iD)))) (.nm 0) (yM (yu CH (eV 0) (zH 1))) (eV 0) [none,some 3]))
  (yy (Br (BN (Bu (zH 4))) (yJ (Af (aS (eC (.str "stays")) (aS (eC .yB) (aS (eC .yB) iD))))) zS)
  (yy (y8 5 (yI (cN T) 6 (aS (eV 0) (aS (eV 4) iD))))
  (yJ (Af (aS (eC (.str "stays")) (aS (yP bD (aS (eV 0) (aS (eV 3) (aS (eV 5) iD)))) (aS (eV 5) iD)))))))))
def bq(T:Addr×Addr×Addr):WS :=
  (yy (y8 3 (yI (da T) 4 (aS (eV 0) (aS (yP lX (aS (eV 0) (aS (eV 1) (aS (yu tO (eV 2) (eC (.int 1))) (aS (yu tO (eV 2) (eC (.int 2))) iD))))) iD))))
  (yJ (Af (aS (eC (.str "comes")) (aS (yP bD (aS (eV 0) (aS (yu tO (eV 2) (eC (.int 0))) (aS (eV 3) iD)))) (aS (eV 3) iD))))))
def dH(T:Addr×Addr×Addr):WS :=
  (yy (y8 2 (yP ba (aS (eV 0) iD)))
  (yy (Br (yM (yu A4 (eV 1) (zH 2))) Hz zS)
  (yy (y8 3 (yu tO (eV 2) (zH 1)))
  (yy (Br (BN (Bu (yP bN (aS (eV 0) (aS (eV 3) iD))))) (yJ (Af (aS (eC (.str "waits")) iD))) zS)
  (yy (y8 4 (yI (bS T) 5 (aS (eV 0) iD)))
  (yy (Br (yM (yu Bp (eV 1) (zH 4))) (yJ (yI (cb T) 5 (aS (eV 0) (aS (eV 4) (aS (eV 3) iD))))) zS)
  (yJ (yI (bR T) 5 (aS (eV 0) (aS (eV 4) (aS (eV 3) iD)))))))))))
def fm:WS :=
  (yy (Br (Hs (BN (Bu (FJ "tuple" (zH 0)))) (Hs (yM (yu Fz (BJ Bx (a1 (zH 0))) (eC (.int 2)))) (Hs (BN (Bu (yP dh (aS (yu tO (eV 0) (eC (.int 0))) iD)))) (BN (Bu (yP dh (aS (yu tO (eV 0) (eC (.int 1))) iD))))))) (yJ (eC (.bl false))) zS)
  (yy (y8 1 (HX (eV 0) (Bv (eC (.int 2))) Bw))
  (yy (Br (yM (yu ze (yu tO (eV 0) (eC (.int 0))) (eC (.str "tie")))) (yJ (yP cD (aS (eV 1) iD))) zS)
  (yy (Br (yM (yu ze (yu tO (eV 0) (eC (.int 0))) (eC (.str "cost")))) (yJ (CO (yu ze (BJ Bx (a1 (zH 1))) (eC (.int 1))) (yP eS (aS (yu tO (eV 1) (eC (.int 0))) iD)))) zS)
  (yJ (CO (yu Bp (yu tO (eV 0) (eC (.int 0))) (Af (aS (eC (.str "place")) (aS (eC (.str "leave")) (aS (eC (.str "untie")) iD))))) (yu ze (BJ Bx (a1 (zH 1))) (eC (.int 0)))))))))
def dw:WS :=
  (yy (Fu (HX (eV 1) (Bv (eC (.int 1))) Bw) (gT (zU (gN 2) (zU (gN 3) Ce))))
  (yy (Br (yM (yu A4 (eV 2) (yP ba (aS (eV 0) iD)))) Hz zS)
  (yJ (Af (aS (yu tO (eV 0) (eC (.int 0))) (aS (BJ bo (aS (FZ (iS (yu tO (eV 0) (eC (.int 1)))) (.nm 0) FU (KQ (yM (yu ze (yu tO (eV 0) (eC (.int 0))) (zH 1))) (yu yZ (HX (eV 0) Bw (Bv (eC (.int 3)))) (Af (aS (eV 2) iD))) (eV 0)) [none,some 2,some 3]) iD)) iD))))))
def fo:WS :=
  (yy (Br (BN (Bu (yP fA (aS (eV 1) iD)))) Hz zS)
  (Gq 2 [("place",cM),("leave",cy),("tie",dE),("untie",eR),("cost",cm)] (yu tO (eV 1) (eC (.int 0))) (aS (eV 0) (aS (eV 1) iD))))
def gS:WS :=
  (yy (y8 2 (eC (.str "abcdefghijklmnopqrstuvwxyz")))
  (yy (y8 3 (yu tO (eV 2) (yO aE 0 (aS (eC (.int 26)) iD))))
  (yy (y8 4 (yO aE 0 (aS (eC (.int 7)) iD)))
  (yy (y8 5 (yO aE 0 (aS (yu yZ (eV 4) (eC (.int 1))) iD)))
  (yy (y8 6 (yO aE 0 (aS (eC (.int 26)) iD)))
  (yy (A0 7 (C8 iD))
  (yy (Dv (Ku (aS (eV 1) iD)) (gN 8) (yy (y8 9 (yu yZ (yu tO (eV 2) (yu Ca (yu yZ (eV 6) (yu AH (eC (.int 5)) (zH 8))) (eC (.int 26)))) (yu tO (eV 2) (yu Ca (yu yZ (eV 6) (yu Fm (eV 8) (eC (.int 26)))) (eC (.int 26))))))
  (Br (EB (yM (yu Fz (eV 1) (eC (.int 8)))) (yM (yu ze (eV 4) (eC (.int 6))))) (B9 (GW bL 7 (aS (yu AH (eV 3) (yu yZ (eV 8) (eC (.int 1)))) iD))) (B9 (GW bL 7 (aS (yu yZ (yu yZ (yu AH (eV 3) (zH 5)) (zH 9)) (yu AH (eV 3) (yu Av (eV 4) (zH 5)))) iD))))))
  (yJ (eV 7)))))))))
def jw:WS :=
  (yy (Br (yM (yu ze (eV 1) (eC (.int 0)))) (yJ (eC (.int 5))) zS)
  (yy (Br (yM (yu ze (eV 1) (eC (.int 1)))) (yJ (yu Av (yO aE 0 (aS (eC (.int 3)) iD)) (eC (.int 1)))) zS)
  (yy (Br (yM (yu ze (eV 1) (eC (.int 2)))) (yJ (yu Av (yO aE 0 (aS (eC (.int 200)) iD)) (eC (.int 100)))) zS)
  (yJ (yu tO (C8 (aS (yu Av (yu A2 (eC (.int 10)) (eC (.int 30))) (eC (.int 1))) (aS (yu Av (eC (.int 1)) (yu A2 (eC (.int 10)) (eC (.int 30)))) (aS (eC (.int 0)) (aS (yO aE 0 (aS (yu A2 (eC (.int 10)) (eC (.int 9))) iD)) iD))))) (yO aE 0 (aS (eC (.int 4)) iD)))))))
def jv:WS :=
  (yy (Br (yM (yu ze (eV 1) (eC (.int 2)))) (yJ (Af (aS (yu Ca (eV 3) (zH 2)) (aS (yu Ca (yu yZ (eV 3) (eC (.int 1))) (zH 2)) iD)))) zS)
  (yy (Br (yM (yu ze (eV 1) (eC (.int 3)))) (yJ (Af (aS (eC (.int 0)) (aS (yu yZ (eC (.int 1)) (yO aE 0 (aS (yu Av (eV 2) (eC (.int 1))) iD))) iD)))) zS)
  (yy (Br (EB (yM (yu ze (eV 1) (eC (.int 4)))) (yM (yu HU (eV 2) (eC (.int 3))))) (yy (y8 4 (yu Fm (eV 2) (eC (.int 2))))
  (yy (y8 5 (yO aE 0 (aS (eC (.int 2)) iD)))
  (yy (y8 6 (yO aE 0 (aS (eV 4) iD)))
  (yJ (Af (aS (yu yZ (yu AH (eV 5) (zH 4)) (zH 6)) (aS (yu yZ (yu AH (eV 5) (zH 4)) (yu Ca (yu yZ (yu yZ (eV 6) (eC (.int 1))) (yO aE 0 (aS (yu Av (eV 4) (eC (.int 1))) iD))) (zH 4))) iD))))))) zS)
  (yy (y8 6 (yO aE 0 (aS (eV 2) iD)))
  (yJ (Af (aS (eV 6) (aS (yu Ca (yu yZ (yu yZ (eV 6) (eC (.int 1))) (yO aE 0 (aS (yu Av (eV 2) (eC (.int 1))) iD))) (zH 2)) iD))))))))
def kQ:WS :=
  (yy (y8 3 (yO aE 0 (aS (yu yZ (eV 1) (eC (.int 1))) iD)))
  (yy (y8 4 (yO e8 0 (aS (yu yZ (eV 3) (eC (.int 2))) iD)))
  (yy (y8 5 (HX (eV 4) Bw (Bv (BJ Fh (aS (eC (.int 2)) (aS (yu yZ (eV 3) (yO aE 0 (aS (eC (.int 3)) iD))) iD))))))
  (yy (y8 6 (yO aE 0 (aS (yu yZ (eV 2) (eC (.int 1))) iD)))
  (yy (y8 7 (yO e8 0 (aS (eV 6) iD)))
  (yy (D1 8 9 (aS (yO aE 0 (aS (eC (.int 5)) iD)) (aS (yO aE 0 (aS (eC (.int 4)) iD)) iD)))
  (yy (A0 10 (C8 iD))
  (yy (Dv (Ku (aS (eV 6) iD)) (gN 11) (yy (Fu (yO jX 0 (aS (eV 8) (aS (BJ Bx (a1 (zH 5))) (aS (eV 11) iD)))) (gT (zU (gN 12) (zU (gN 13) Ce))))
  (yy (y8 14 (Aq (aS (C8 (aS (yu tO (eV 5) (zH 12)) (aS (yu tO (eV 5) (zH 13)) iD))) iD)))
  (B9 (GW bL 10 (aS (Af (aS (yu tO (eV 7) (zH 11)) (aS (yu tO (eV 14) (eC (.int 0))) (aS (yu tO (eV 14) (eC (.int 1))) (aS (yO jY 0 (aS (eV 9) iD)) iD))))) iD))))))
  (yJ (Af (aS (BJ bo (aS (Aq (aS (HX (eV 4) Bw (Bv (zH 3))) iD)) iD)) (aS (BJ bo (aS (EY (a1 (zH 10))) iD)) iD))))))))))))
def jZ(T:Addr×Addr×Addr):WS :=
  (yJ (yI (bS T) 3 (aS (yP fB (aS (eV 0) (aS (Af (aS (eC (.str "cost")) (aS (eV 1) (aS (eV 2) iD)))) iD))) iD)))
def gj:WS :=
  (yJ (BJ bo (aS (Aq (aS (yu yZ (FZ (iS (eV 0)) (.nm 0) (yM (yu CH (eV 0) (zH 1))) (eV 0) [none,some 1]) (C8 (aS (eV 2) iD))) iD)) iD)))
def eU(T:Addr×Addr×Addr):WS :=
  (yy (y8 3 (yI (gL T) 6 (aS (eV 0) (aS (eV 2) iD))))
  (yy (Br (yM (yu ze (yu tO (eV 3) (eC (.int 0))) (eC (.str "waits")))) (yJ (CO (yu A4 (eV 2) (zH 1)) (yu ze (yI (gc T) 6 (aS (eV 0) (aS (eV 2) (aS (yu Av (eC (.int 1)) (yu A2 (eC (.int 10)) (eC (.int 30)))) iD)))) (zH 1)))) zS)
  (yy (Br (yM (yu JC (yu tO (eV 3) (eC (.int 1))) (eC .yB))) (yJ (CO (yu ze (yu tO (eV 3) (eC (.int 0))) (eC (.str "stays"))) (CO (yu Bp (eV 2) (zH 1)) (yu ze (yI (gc T) 6 (aS (eV 0) (aS (eV 2) (aS (yu Av (yu A2 (eC (.int 10)) (eC (.int 30))) (eC (.int 1))) iD)))) (zH 1))))) zS)
  (yy (D1 4 5 (aS (eV 1) (aS (yP dJ (aS (eV 1) (aS (eV 2) (aS (yu tO (eV 3) (eC (.int 2))) iD)))) iD)))
  (yy (Br (yM (yu ze (yu tO (eV 3) (eC (.int 0))) (eC (.str "comes")))) (D1 4 5 (aS (yP dJ (aS (eV 1) (aS (yu tO (eV 3) (eC (.int 2))) (aS (eV 2) iD)))) (aS (eV 1) iD))) zS)
  (yy (Br (Hs (yM (yu CH (yu Bp (eV 2) (zH 1)) (yu ze (yu tO (eV 3) (eC (.int 0))) (eC (.str "stays"))))) (yM (yu neT (yI (gc T) 6 (aS (eV 0) (aS (eV 2) (aS (yu tO (eV 3) (eC (.int 1))) iD)))) (zH 4)))) (yJ (eC (.bl false))) zS)
  (yJ (MN (yu JW (BJ GZ (aS (yu yZ (yu tO (eV 3) (eC (.int 1))) (eC (.int 1))) iD)) (yu A2 (eC (.int 10)) (eC (.int 30)))) (yu ze (yI (gc T) 6 (aS (eV 0) (aS (eV 2) (aS (yu yZ (yu tO (eV 3) (eC (.int 1))) (eC (.int 1))) iD)))) (zH 5))))))))))
def iA(T:Addr×Addr×Addr):WS :=
  (yy (Q.AA 1 0)
  (yy (Dv (Ku (aS (yu yZ (eC (.int 2)) (BJ Bx (aS (HX (eV 0) Bw (Bv (eC (.int 3)))) iD))) iD)) (gN 2) (yy (y8 3 (yO lY 1 (aS (eC (.int 12)) (aS (eC (.int 30)) iD))))
  (yy (y8 4 (yI (bS T) 6 (aS (eV 3) iD)))
  (Dv (iS (yu tO (eV 3) (eC (.int 1)))) (gN 5) (Br (BN (Bu (yI (iy T) 6 (aS (eV 3) (aS (eV 4) (aS (yu tO (eV 5) (eC (.int 0))) iD)))))) (yJ (eC (.bl false))) zS)))))
  (yJ (eC (.bl true)))))
theorem cC(i j:Int):ze (.int i) (.int j)=some (.bl (decide (i=j))):=by
 show some (PV.bl (i==j))=_;rfl
variable{i j:Int}
theorem fL(h:0<j):Ca (.int i) (.int j)=some (.int (i % j)):=if_pos (decide_eq_true h)
theorem sy(h:0<j)(h2:j<1073741824):Fm (.int i) (.int j)=some (.int (i / j)):=if_pos (by simp[h,h2])
theorem nS(h : -(2 ^ 64)<j)(h2:j<2 ^ 64):AH (.int i) (.int j)=some (.int (i*j)):=if_pos (by unfold Kf;simp only[acO,aaR,decide_eq_true_eq];exact .inr ⟨h,h2⟩)
theorem nz(h:(decide (0<=j) && decide (j<=1000000) && decide (i.natAbs<2 ^ 64))=true):A2 (.int i) (.int j)=some (.int (i ^ j.toNat)):=if_pos h
theorem cF:Av (.int i) (.int j)=some (.int (i - j)):=rfl
theorem bf:yZ (.int i) (.int j)=some (.int (i+j)):=rfl
variable{k:Nat}
def oP(h:i=k)(hk:k<26):tO (.str Kh) (.int i)=some (.str (ch k)):=by
 subst h;show (if Kh.length<=100000 then (E2 Kh.cps.toList (k:Int)).map (λc=>PV.str ⟨#[c]⟩)else none)=_;rw[if_pos (by decide +kernel),ao (x9 k hk)];rfl
def lm(b m:Nat):(CC (ch b) m).length=m:=by
 have:=congrArg ada (j3 b m);rw[abL]at this;show (CC (ch b) m).cps.size=m;rw[<- abw];exact this
def vL(x y:Str):(x++y).length=x.length+y.length:=by show (x.cps++y.cps).size=_;exact Array.size_append
def add_str(h:x.length+y.length<=100000):yZ (.str x) (.str y)=some (.str (x++y)):=if_pos h
variable{m:Nat}
def nT{b:Nat}(h:i=m)(hm:m<=1000):AH (.str (ch b)) (.int i)=some (.str (CC (ch b) m)):=by
 subst h;refine(if_pos ⟨by omega,by omega,?_⟩).trans ?_
 .rw[show ((m:Int)).toNat=m by omega]
 .show 1<=1000;decide
variable{n:Nat}
theorem rd{j:Nat}{x:PV}(h:(CB 0 n)[j]?=some x):j<n/\x=.int j:=by
 unfold CB at h;rw[aah]at h;rcases aaX j n with z|z
 .rw[abS z]at h;refine⟨z,?_⟩;have:x=.int (0+(j:Int)):=by simpa using h.symm
  rw[this];congr 1;omega
 .rw[aap (by simpa using z)]at h;cases h
def pB(n:Nat):(CB 0 n).length=n:=by unfold CB;rw[aae,ac3]
def draw{m:Int}{P:PV->PV->Prop}(h0:0<m)(h1:m<1073741824)(k:∀r:Nat,(r:Int)<m->P (.int r) .yB):aE .yB [.int m] P :=
 ⟨rfl,m,rfl,h0,h1,λr r0 r1=>by
  obtain⟨i,rfl⟩:∃i:Nat,r=(i:Int):=⟨r.toNat,by omega⟩
  exact k i r1⟩
theorem rC(c:PV)(xs:List PV)(P:PV->PV->Prop)(h:e8 c xs P):Q.Fv 10 gS c xs P:=by
 obtain⟨rfl,n,rfl,hn,h⟩:=h;unfold gS;refine am λN hN=>?_;try lia
 subst hN;refine am λN hN=>?_;lia;refine draw (by decide) (by decide) λb hb=>?_;refine ab (oP rfl (by omega)) ?_;try lia
 subst hN;refine am λN hN=>?_;lia;refine draw (by decide) (by decide) λs hs=>?_;try lia
 subst hN;refine am λN hN=>?_;lia;refine ab bf ?_;refine draw (by omega) (by omega) λt ht=>?_;try lia
 subst hN;refine am λN hN=>?_;lia;refine draw (by decide) (by decide) λf hf=>?_;try lia
 subst hN;refine am λN hN=>?_;try lia
 subst hN;refine am λN hN=>cX λG B hG hB=>?_;lia;refine⟨by omega,by omega,?_⟩;subst hG;refine bG (λi e=>∃v8 v9,e=[some ⟨2,.yB⟩,some ⟨0,.int n⟩,some ⟨0,.str Kh⟩,some ⟨0,.str (ch b)⟩,some ⟨0,.int s⟩,some ⟨0,.int t⟩,some ⟨0,.int f⟩,some ⟨1,.lst ((FQ b s t f n i).map .str)⟩,v8,v9]) (i:=0) ⟨none,none,rfl⟩ ?_ ?_;case refine_2=>
  rintro e ⟨v8,v9,rfl⟩;show N _;subst hN;rw[pB,show ((n:Int)).toNat=n by omega,abQ];lia;exact h _ (by unfold FQ;rw[aae,ac3]) (qL hn) (sM (by omega) (by omega) (by omega))
 rintro j x e M hj ⟨v8,v9,rfl⟩ k;obtain⟨SV,rfl⟩:=rd hj;rw[abQ]at k ⊢;subst hB;have JR:j<n:=by omega
 refine am λN' DB=>?_;lia;refine ab (nS (by omega) (by omega)) ?_;refine ab bf ?_;refine ab (fL (by decide)) ?_;refine ab (oP (k:=(f+5*j) % 26) (by omega) (by omega)) ?_;refine ab (sy (by decide) (by decide)) ?_;refine ab bf ?_;refine ab (fL (by decide)) ?_;refine ab (oP (k:=(f+j / 26) % 26) (by omega) (by omega)) ?_;refine ab (add_str (by show 1+1<=100000;decide)) ?_;subst DB;have push:∀y:Str,y=wd b s t f n j->M [some ⟨2,.yB⟩,some ⟨0,.int n⟩,some ⟨0,.str Kh⟩,some ⟨0,.str (ch b)⟩,some ⟨0,.int s⟩,some ⟨0,.int t⟩,some ⟨0,.int f⟩,some ⟨1,.lst ((FQ b s t f n j).map .str++[.str y])⟩,some ⟨0,.int j⟩,some ⟨0,.str (ch ((f+5*j) % 26)++ch ((f+j / 26) % 26))⟩]:=λy hy=>by
  refine k _ ⟨some ⟨0,.int j⟩,some ⟨0,.str (ch ((f+5*j) % 26)++ch ((f+j / 26) % 26))⟩,?_⟩;rw[hy,sN,aaP];rfl
 have len:((FQ b s t f n j).map PV.str).length<=100000:=by rw[aae];unfold FQ;rw[aae,ac3];omega
 have two:(ch ((f+5*j) % 26)++ch ((f+j / 26) % 26)).cps.toList=[97+(f+5*j) % 26,97+(f+j / 26) % 26]:=by rw[gI];rfl
 lia;by_cases c:n<8/\s=6
 .have c1:((n:Int)<8):=by omega
  have c2:((s:Int)=6):=by omega
  rw[decide_eq_true c1];lia;refine ab (cC _ _) ?_;rw[decide_eq_true c2];lia;refine ab bf ?_;refine ab (nT (m:=j+1) (by omega) (by omega)) ?_;refine ab (Fy len) ?_;refine push _ (kT ?_);rw[j3];unfold wd wl;rw[if_pos c]
 .have word:CC (ch b) t++(ch ((f+5*j) % 26)++ch ((f+j / 26) % 26))++CC (ch b) (s - t)=wd b s t f n j:=by
   refine kT ?_;rw[gI,gI,two,j3,j3];unfold wd wl;rw[if_neg c]
  have l2:(ch ((f+5*j) % 26)++ch ((f+j / 26) % 26)).length=2:=rfl;have Ru:opt (AH (.str (ch b)) (.int t)) λz=>opt (yZ z (.str (ch ((f+5*j) % 26)++ch ((f+j / 26) % 26)))) λz=>opt (Av (.int s) (.int t)) λz1=>opt (AH (.str (ch b)) z1) λz1=>opt (yZ z z1) λz=>opt (bL ((FQ b s t f n j).map .str) [z]) λr=>M [some ⟨2,.yB⟩,some ⟨0,.int n⟩,some ⟨0,.str Kh⟩,some ⟨0,.str (ch b)⟩,some ⟨0,.int s⟩,some ⟨0,.int t⟩,some ⟨0,.int f⟩,some ⟨1,.lst r.2⟩,some ⟨0,.int j⟩,some ⟨0,.str (ch ((f+5*j) % 26)++ch ((f+j / 26) % 26))⟩]:=by
   refine ab (nT rfl (by omega)) (ab (add_str (by rw[lm,l2];omega)) (ab cF (ab (nT (m:=s - t) (by omega) (by omega)) (ab (add_str ?_) (ab (Fy len) (push _ word))))));rw[vL,lm,lm,l2];omega
  by_cases c1:(n:Int)<8
  .have c2:¬ ((s:Int)=6):=by omega
   rw[decide_eq_true c1];lia;refine ab (cC _ _) ?_;rw[decide_eq_false c2];lia;exact Ru
  .rw[decide_eq_false c1];lia;exact Ru
theorem tI(c:PV)(xs:List PV)(P:PV->PV->Prop)(h:jY c xs P):Q.Fv 2 jw c xs P:=by
 obtain⟨rfl,q,rfl,h⟩:=h;have UQ:(1000000000:Int)<10 ^ 30:=by decide
 unfold jw;refine am λN hN=>?_;lia;refine ab (cC _ _) ?_;lia;split
 .exact h _ (by omega) (by omega)
 subst hN;refine am λN hN=>?_;lia;refine ab (cC _ _) ?_;lia;split
 .refine draw (by decide) (by decide) λr hr=>?_;exact ab cF (h _ (by omega) (by omega))
 subst hN;refine am λN hN=>?_;lia;refine ab (cC _ _) ?_;lia;split
 .refine draw (by decide) (by decide) λr hr=>?_;exact ab cF (h _ (by omega) (by omega))
 subst hN;lia;have c30:(10:Int) ^ (30:Int).toNat=10 ^ 30:=by decide
 have c9:(10:Int) ^ (9:Int).toNat=1000000000:=by decide
 have pw:A2 (.int 10) (.int 30)=some (.int (10 ^ 30)):=(nz (by decide)).trans (by rw[c30]);have p9:A2 (.int 10) (.int 9)=some (.int 1000000000):=(nz (by decide)).trans (by rw[c9]);refine ab pw (ab cF (ab pw (ab cF (ab p9 ?_))));refine draw (by decide) (by decide) λr hr=>?_;try lia
 refine draw (by decide) (by decide) λx hx=>?_
 match x,hx with
 |0,_=>exact ab (ao (j:=0) rfl) (h _ (by omega) (by omega))
 |1,_=>exact ab (ao (j:=1) rfl) (h _ (by omega) (by omega))
 |2,_=>exact ab (ao (j:=2) rfl) (h _ (by omega) (by omega))
 |3,_=>exact ab (ao (j:=3) rfl) (h _ (by omega) (by omega))
 |n+4,h=>omega
def turn(x d t:Int)(h0:0<t)(h1:0<=x)(h2:x<t)(h3:0<=d)(h4:d<t - 1):0<=(x+1+d) % t/\(x+1+d) % t<t/\x≠(x+1+d) % t:=by
 refine⟨abP _ (by omega),abA _ h0,λe=>?_⟩;have q:=Int.emod_add_mul_ediv (x+1+d) t;rw[<- e]at q;have:t*((x+1+d) / t)=1+d:=by omega
 generalize (x+1+d) / t=y at this;rcases(show y<=0\/1<=y by omega)with z|z
 .have:t*y<=0:=Int.mul_nonpos_of_nonneg_of_nonpos (by omega) (by omega);omega
 .have:t*1<=t*y:=Int.mul_le_mul_of_nonneg_left z (by omega);omega
def Cg{m:Int}{P:PV->PV->Prop}(h0:0<m)(h1:m<1073741824)(k:∀r:Int,0<=r->r<m->P (.int r) .yB):aE .yB [.int m] P:=⟨rfl,m,rfl,h0,h1,k⟩
def tH(c:PV)(xs:List PV)(P:PV->PV->Prop)(h:jX c xs P):Q.Fv 7 jv c xs P:=by
 obtain⟨rfl,f,m,kk,rfl,m2,m9,h⟩:=h;have m0:(0:Int)<m:=by omega
 unfold jv;refine am λN hN=>?_;lia;refine ab (cC _ _) ?_;lia;split
 .refine ab (fL m0) (ab bf (ab (fL m0) ?_));refine h _ _ (abP _ (by omega)) (abA _ m0) (abP _ (by omega)) (abA _ m0) λe=>?_;refine(turn (kk % m) 0 m m0 (abP _ (by omega)) (abA _ m0) (by omega) (by omega)).2.2 (e.trans ?_);rw[Int.add_zero,Int.emod_add_emod]
 subst hN;refine am λN hN=>?_;lia;refine ab (cC _ _) ?_;lia;split
 .refine ab cF ?_;refine Cg (by omega) (by omega) λr p0 q0=>?_;exact ab bf (h _ _ (by omega) m0 (by omega) (by omega) (by omega))
 subst hN;refine am λN hN=>aO λA B hA hB=>?_;have last:B {Ka P with nx:=N} [some ⟨2,.yB⟩,some ⟨0,.int f⟩,some ⟨0,.int m⟩,some ⟨0,.int kk⟩,none,none,none]:=by
  subst hB;show N _;subst hN;refine am λN hN=>?_;lia;refine Cg (by omega) (by omega) λr p0 q0=>?_;try lia
  subst hN;lia;refine ab bf (ab cF ?_);refine Cg (by omega) (by omega) λd p1 q1=>?_;try lia
  refine ab bf (ab (fL m0) ?_);have t:=turn r d m m0 p0 q0 p1 q1;exact h _ _ p0 q0 t.1 t.2.1 t.2.2
 lia;refine ab (cC _ _) ?_;lia;by_cases c1:f=4;case neg=>
  rw[decide_eq_false c1];exact last
 rw[decide_eq_true c1];lia;by_cases c2:3<m;case neg=>
  rw[decide_eq_false c2];exact last
 rw[decide_eq_true c2];lia;subst hA;refine am λN hN=>?_;lia;refine ab (sy (by decide) (by decide)) ?_;subst hN;refine am λN hN=>?_;lia;refine Cg (by omega) (by omega) λr p0 q0=>?_;try lia
 subst hN;refine am λN hN=>?_;lia;refine Cg (by omega) (by omega) λr2 p2 q2=>?_;try lia
 subst hN;have bd:∀y:Int,0<=y->y<m / 2->0<=r*(m / 2)+y/\r*(m / 2)+y<m:=λy y0 y1=>by
  have:r=0\/r=1:=by omega
  rcases this with rfl|rfl<;>omega
 lia;refine ab (nS (by omega) (by omega)) (ab bf (ab (nS (by omega) (by omega)) (ab bf (ab cF ?_))));refine Cg (by omega) (by omega) λr3 p3 q3=>?_;try lia
 refine ab bf (ab (fL (by omega)) (ab bf ?_));have t:=turn r2 r3 (m / 2) (by omega) p2 q2 p3 q3;exact h _ _ (bd _ p2 q2).1 (bd _ p2 q2).2 (bd _ t.1 t.2.1).1 (bd _ t.1 t.2.1).2 λe=>t.2.2 (by omega)
theorem xq(h:(if j > i then j else i)=k):Fh [.int i,.int j]=some (.int k):=by rw[<- h];rfl
variable{l:List Str}
def m5{i:Nat}(h:i<l.length):tO (.lst (l.map .str)) (.int i)=some (.str l[i]):=ao (by rw[aah,aaa h];rfl)
def qT:∀ss:List Str,(ss.map PV.str).mapM DZ=some ss
 |[]=>rfl
 |s::ss=>by rw[aaz,abq,qT ss];rfl
def qR:∀ts:List lT,(ts.map oR).mapM HV=some (ts.map lT.nm)
 |[]=>rfl
 |t::ts=>by rw[aaz,abq,qR ts];rfl
def nB{β:Type}{f:α->β}{l:List α}{a:α}{b:β}{ix:List Nat}(h:∀i∈ix,i<l.length):(ix.map λi=>(l.map f).getD i b)=(ix.map λi=>l.getD i a).map f:=by
 rw[aaH];refine aaY λi hi=>?_;show _=f (l.getD i a);rw[aac,aac,aah,aaa (h i hi)];rfl
theorem vb(c:PV)(xs:List PV)(P:PV->PV->Prop)(h:lY c xs P):Q.Fv 15 kQ c xs P:=by
 obtain⟨rfl,M,T,rfl,M0,M1,T0,T1,h⟩:=h;unfold kQ;refine am λN hN=>?_;lia;refine ab bf ?_;refine draw (by omega) (by omega) λmm UH=>?_;subst hN;refine am λN hN=>?_;lia;refine ab bf ?_;refine⟨rfl,mm+2,rfl,by omega,λws wl wn ww=>?_⟩;subst hN;refine am λN hN=>?_;lia;refine draw (by decide) (by decide) λr hr=>?_;refine ab bf ?_;obtain⟨pn,SD,Kz,UG⟩:∃pn:Nat,(if (mm:Int)+r > 2 then (mm:Int)+r else 2)=(pn:Int)/\2<=pn/\pn<=mm+2:=by
  refine⟨(if (mm:Int)+r > 2 then (mm:Int)+r else 2).toNat,?_,?_,?_⟩<;>split<;>omega
 refine ab (xq SD) ?_;try lia
 rw[fZ,<- List.map_take];subst hN;have pl:(ws.take pn).length=pn:=by rw[abe,wl];omega
 have QR:(ws.take pn).Nodup:=wn.sublist (ad0 _ _);have pw:∀x∈ws.take pn,zQ x:=λx hx=>ww x (acG hx);generalize ws.take pn=D2 at pl QR pw ⊢;refine am λN hN=>?_;lia;refine ab bf ?_;refine draw (by omega) (by omega) λcc PM=>?_;subst hN;refine am λN hN=>?_;lia;refine⟨rfl,cc,rfl,by omega,λns nl nn nw=>?_⟩;subst hN;refine am λN hN=>?_;simp only[D1];lia;refine Cg (by decide) (by decide) λRq p0 q0=>?_;refine Cg (by decide) (by decide) λQH p1 q1=>?_;subst hN;refine am λN hN=>?_;lia;subst hN;refine am λN hN=>cX λG B hG hB=>?_;lia;refine⟨by omega,by omega,?_⟩;subst hG;refine bG (λi e=>∃ts v11 Ol Oj Oi,e=[some ⟨2,.yB⟩,some ⟨0,.int M⟩,some ⟨0,.int T⟩,some ⟨0,.int mm⟩,some ⟨0,.lst (ws.map .str)⟩,some ⟨0,.lst (D2.map .str)⟩,some ⟨0,.int cc⟩,some ⟨0,.lst (ns.map .str)⟩,some ⟨0,.int Rq⟩,some ⟨0,.int QH⟩,some ⟨1,.lst (ts.map oR)⟩,v11,Ol,Oj,Oi]/\ts.map lT.nm=ns.take i/\ts.length=i/\∀t∈ts,IS t) (i:=0) ⟨[],none,none,none,none,rfl,rfl,rfl,by simp⟩ ?_ ?_;case refine_2=>
  rintro e ⟨ts,v11,Ol,Oj,Oi,rfl,g1,g2,g3⟩;rw[pB,show ((cc:Int)).toNat=cc by omega,abQ]at g1 g2;show N _;subst hN;have Pw:ts.map lT.nm=ns:=by rw[g1,<- nl,abU]
  simp only[yJ,Af,BJ,aS,Aq,EY];lia;rw[fZ,<- List.map_take];refine⟨_,qT _,by rw[abe];omega,λss up=>ab rfl ?_⟩;try lia
  refine⟨_,qR ts,by rw[Pw];exact nn,by rw[aae];omega,λix il NC iw=>ab rfl ?_⟩;rw[aae]at NC il;rw[nB (a:=t0) NC];refine h ss _ ⟨iE up.2 (up.1.nodup_iff.mpr (wn.sublist (ad0 _ _))),λx hx=>ww x (acG (up.1.mem_iff.mp hx)),?_,λt ht=>?_⟩ ?_ ?_
  .rw[nB (a:=t0) NC]at iw;exact iw
  .obtain⟨j,hj,rfl⟩:=List.mem_map.mp ht;have:=NC j hj;rw[aac,aaa this];exact g3 _ (abk _)
  .rw[up.1.length_eq,abe];omega
  .rw[aae,il,g2];omega
 rintro j x e M' hj ⟨ts,v11,Ol,Oj,Oi,rfl,g1,g2,g3⟩ k;obtain⟨SV,rfl⟩:=rd hj;rw[abQ]at g1 g2 k;subst hB;have JR:j<ns.length:=by omega
 refine am λN hN=>?_;lia;refine⟨rfl,Rq,D2.length,j,by rw[aae],by omega,by omega,λx y x0 x1 y0 y1 xy=>?_⟩;obtain⟨x,rfl⟩:∃z:Nat,x=(z:Int):=⟨x.toNat,by omega⟩
 obtain⟨y,rfl⟩:∃z:Nat,y=(z:Int):=⟨y.toNat,by omega⟩
 have hx:x<D2.length:=by omega
 have hy:y<D2.length:=by omega
 lia;subst hN;refine am λN hN=>?_;simp only[y8,Aq];lia;refine ab (m5 hx) (ab (m5 hy) ?_);refine⟨[D2[x],D2[y]],rfl,(by show 2<64;decide),λss up=>?_⟩;have So:D2[x]≠D2[y]:=λe=>xy (by
  have:=(abu QR).mp e
  omega)
 obtain⟨u,v,rfl,uv,hu,hv⟩:=wI up.1 up.2 So;have wu:zQ u:=pw u (by rcases hu with e|e<;>rw[e]<;>exact abk _);have wv:zQ v:=pw v (by rcases hv with e|e<;>rw[e]<;>exact abk _);subst hN;lia;refine ab (m5 JR) (ab (z:=.str u) (ao (j:=0) rfl) (ab (z:=.str v) (ao (j:=1) rfl) ?_));refine⟨rfl,QH,rfl,λc c0 c1=>?_⟩;lia;refine ab (Fy (by rw[aae];omega)) ?_;refine k _ ⟨ts++[⟨ns[j],u,v,c⟩],some ⟨0,.int j⟩,some ⟨0,.int x⟩,some ⟨0,.int y⟩,some ⟨0,.lst [.str u,.str v]⟩,by rw[aaP];rfl,?_,by rw[aa3,g2];rfl,λt ht=>?_⟩
 .rw[aaP,g1];show ns.take j++[ns[j]]=ns.take (j+1);rw[acB,aaa JR];rfl
 .rcases List.mem_append.mp ht with z|z
  .exact g3 t z
  .have:t=⟨ns[j],u,v,c⟩:=by simpa using z
   subst this;exact⟨nw _ (abk _),wu,wv,uv⟩
section
variable{one yK:Str}
theorem oW(xs:List PV)(P:PV->Prop)(h:bN xs P):Q.run 2 fj xs P:=by
 obtain⟨ps,ts,t,rfl,h⟩:=h;unfold fj lE oR;try lia
 refine ab (z:=.str t.one) (ao (j:=1) rfl) (ab (z:=.tup (ps.map .str)) (ao (j:=0) rfl) (ab bv ?_));try lia
 unfold yN at h;cases e:decide (t.one∈ps)with
 |false=>rw[e]at h;exact h
 |true=>
  rw[e,adM]at h;exact ab (z:=.str t.yK) (ao (j:=2) rfl) (ab (z:=.tup (ps.map .str)) (ao (j:=0) rfl) (ab bv h))
def bP{β:Type}(p:α->Bool)(f:α->β):∀(l:List α),l.filterMap (λa=>if p a=true then some (f a)else none)=(l.filter p).map f
 |[]=>rfl
 |a::l=>by
  rw[acN,acF,bP p f l];cases p a<;>rfl
theorem mQ(xs:List PV)(P:PV->Prop)(h:dF xs P):Q.run 1 dy xs P:=by
 obtain⟨ps,ts,rfl,hl,h⟩:=h;unfold dy;have e1:tO (lE ps ts) (.int 1)=some (.tup (ts.map oR)):=ao (j:=1) rfl;try lia
 refine ab e1 ?_;try lia
 refine cB (λx=>match x with|.tup [.str a,.str b,.str c,.int d]=>if yN ps ⟨a,b,c,d⟩=true then some (.str a)else none|_=>none) (λx hx R hR=>?_) (by simp;omega) ?_
 .obtain⟨t,ht,rfl⟩:=List.mem_map.mp hx;refine⟨ps,ts,t,rfl,?_⟩;replace hR:R (if yN ps t=true then some (.str t.nm)else none) [some ⟨0,lE ps ts⟩]:=hR;show opt (some (yN ps t)) _;rw[fH];cases e:yN ps t with
  |false=>rw[e]at hR;exact hR
  |true=>
   rw[e]at hR;show opt (tO (oR t) (.int 0)) _;refine ab (z:=.str t.nm) (ao (j:=0) rfl) ?_;exact hR
 .rw[aby,acs];have e:ts.filterMap ((λx=>match x with|PV.tup [.str a,.str b,.str c,.int d]=>if yN ps ⟨a,b,c,d⟩=true then some (PV.str a)else none|_=>none) ∘ oR)=(iK ps ts).map .str:=by
   unfold iK;rw[aaH];exact bP (yN ps) (λt=>PV.str t.nm) ts
  rw[e];exact ab rfl h
theorem eq_str(i j:Str):ze (.str i) (.str j)=some (.bl (i==j)):=rfl
def tM(ok:AL ps ts):(iK ps ts).Nodup:=(aM ok).sublist (List.filter_sublist.map _)
def yk(ok:AL ps ts)(h1:ps.length<=60)(h2:ts.length<=60):Nt ps ts:=⟨ok.rise,λt ht=>hZ (ok.tie t ht).lt,h1,by omega⟩
def dk(fs:List Str):(fs.map PV.str).mapM DZ=some fs:=by
 induction fs with
 |nil=>rfl
 |cons f fs ih=>rw[aaz,abq,ih];rfl
def uT{x:PV}{ns:List Int}(m:Nat)(hx:x=.Ba ns\/x=.lst (ns.map .int)):∃zs,Hv x none (some (m:Int))=some (.lst zs)/\zs.length<=m:=by
 rcases hx with rfl|rfl
 .exact⟨_,rfl,by rw[fZ];simp;omega⟩
 .exact⟨_,rfl,by rw[fZ];simp;omega⟩
def rV(ps:List Str):(ps.map PV.str).mapM BV=some (ps.map λp=>(aas p:Key)):=by
 induction ps with
 |nil=>rfl
 |cons p ps ih=>rw[aaz,abq,ih];rfl
def ie(h:ps.Nodup):(ps.map λp=>(aas p:Key)).Nodup:=by
 rw[acd,ad1];exact(List.nodup_iff_pairwise_ne.mp h).imp λhne e=>hne (Sum.inr.inj e)
def oN(ps:List Str)(g:Str->List (Str×Str)):((ps.map λp=>((aas p:Key),PV.lst ((g p).map yT))).map (·.1))=ps.map λp=>(aas p:Key):=by rw[aaH];rfl
def sK(nd:ps.Nodup)(h:y∈ps):Q.Fi (ps.map λp=>((aas p:Key),PV.lst ((g p).map yT))) (aas y)=some ((g y).map yT):=by
 unfold Q.Fi;have:=bg (f:=id) (g:=λp=>PV.lst ((g p).map yT)) (l:=ps) (a:=y) (by simpa using nd) h;simp only[id]at this;rw[this]
def pY{q:Str×Str}:Dl (ps.map λp=>((aas p:Key),PV.lst ((g p).map yT))) (aas y) ((g y).map yT++[yT q])=ps.map λp=>((aas p:Key),PV.lst ((if p=y then g y++[q]else g p).map yT)):=by
 unfold Dl;rw[aaH];refine aaY λp hp=>?_;show (if (aas p:Key)=aas y then ((aas y:Key),PV.lst ((g y).map yT++[yT q]))else (aas p,PV.lst ((g p).map yT)))=(aas p,PV.lst ((if p=y then g y++[q]else g p).map yT))
 by_cases e:p=y
 .subst e;simp
 .simp[e]
theorem ly(xs:List PV)(P:PV->Prop)(h:b0 xs P):Q.Il 3 cP xs P:=by
 obtain⟨ps,ts,rfl,ok,h⟩:=h;have nd:=cz ok.rise;have e0:tO (lE ps ts) (.int 0)=some (.tup (ps.map .str)):=ao (j:=0) rfl;have e1:tO (lE ps ts) (.int 1)=some (.tup (ts.map oR)):=ao (j:=1) rfl;unfold cP;refine am λN hN=>?_;show opt (tO (lE ps ts) (.int 0)) _;refine ab e0 ⟨_,rV ps,ie nd,by simp;have:=ok.pl;omega,?_⟩;have e2:(ps.map λp=>(aas p:Key)).map (λk=>(k,PV.lst []))=ps.map λp=>((aas p:Key),PV.lst ((zc ps (ts.take 0) p).map yT)):=by rw[aaH];rfl
 rw[e2];show N [some ⟨0,lE ps ts⟩,some ⟨4,A9 ps (zc ps (ts.take 0))⟩,none];subst hN;refine am λN hN=>cX λG B hG hB=>?_;show opt (tO (lE ps ts) (.int 1)) _;refine ab e1 ?_;show Cf G B _ (ts.map oR) _;refine bG (λj e=>∃v2,e=[some ⟨0,lE ps ts⟩,some ⟨4,A9 ps (zc ps (ts.take j))⟩,v2]) (i:=0) ⟨none,rfl⟩ ?_ ?_;case refine_2=>
  rintro e ⟨v2,rfl⟩;rw[aae,abQ,abU];show N _;subst hN;exact⟨⟨_,rfl⟩,h⟩
 rintro j x e M hx ⟨v2,rfl⟩ k;rw[abQ]at k ⊢;have hj:j<ts.length:=by have:=(List.getElem?_eq_some_iff.mp hx).1;rwa [aae]at this
 have ex:x=oR ts[j]:=by
  rw[aah,aaa hj]at hx;exact(aaq hx).symm
 subst ex hG hB;show Br _ _ _ _ [some ⟨0,lE ps ts⟩,some ⟨4,A9 ps (zc ps (ts.take j))⟩,some ⟨0,oR ts[j]⟩];refine aO λA1 B1 hA hB=>?_;lia;refine⟨ps,ts,ts[j],rfl,?_⟩;subst hA hB;show opt (some (yN ps ts[j])) _;refine A3.mpr ?_;have step:=λp=>ux (ps:=ps) hj p;cases eo:yN ps ts[j]with
 |false=>
  refine k _ ⟨some ⟨0,oR ts[j]⟩,?_⟩;have e:zc ps (ts.take (j+1))=zc ps (ts.take j):=by
   funext p;rw[step p,eo];simp
  rw[e]
 |true=>
  obtain⟨h1,h2⟩:=zp.mp eo;have hne:=ok.ne ts[j] (abk _);have hlen:∀p,(zc ps (ts.take j) p).length<=2000:=λp=>by
   have:=qw ps (ts.take j) p;have h3:(ts.take j).length<=1000:=by simp;have:=ok.tl;omega
   omega
  rw[if_pos rfl];refine am λN' DB=>?_;refine⟨by rw[oN];exact ie nd,?_⟩;show opt (tO (oR ts[j]) (.int 1)) _;refine ab (z:=.str ts[j].one) (ao (j:=1) rfl) (ab (z:=aas ts[j].one) rfl (ab (sK nd h1) ?_));show opt (tO (oR ts[j]) (.int 0)) _;refine ab (z:=.str ts[j].nm) (ao (j:=0) rfl) ?_;show opt (tO (oR ts[j]) (.int 2)) _;refine ab (z:=.str ts[j].yK) (ao (j:=2) rfl) ⟨by simp;have:=hlen ts[j].one;omega,?_⟩;have ea:=pY (ps:=ps) (g:=zc ps (ts.take j)) (y:=ts[j].one) (q:=(ts[j].nm,ts[j].yK));show N' [some ⟨0,lE ps ts⟩,some ⟨4,.zh (Dl _ (aas ts[j].one) ((zc ps (ts.take j) ts[j].one).map yT++[yT (ts[j].nm,ts[j].yK)]))⟩,some ⟨0,oR ts[j]⟩];rw[ea];generalize Hc:(λp=>if p=ts[j].one then zc ps (ts.take j) ts[j].one++[(ts[j].nm,ts[j].yK)]else zc ps (ts.take j) p)=g';have eg:∀p,(if p=ts[j].one then zc ps (ts.take j) ts[j].one++[(ts[j].nm,ts[j].yK)]else zc ps (ts.take j) p)=g' p:=λp=>by rw[<- Hc]
  simp only[eg];subst DB;refine⟨by rw[oN];exact ie nd,?_⟩;show opt (tO (oR ts[j]) (.int 2)) _;refine ab (z:=.str ts[j].yK) (ao (j:=2) rfl) (ab (z:=aas ts[j].yK) rfl (ab (sK nd h2) ?_));show opt (tO (oR ts[j]) (.int 0)) _;refine ab (z:=.str ts[j].nm) (ao (j:=0) rfl) ?_;show opt (tO (oR ts[j]) (.int 1)) _;refine ab (z:=.str ts[j].one) (ao (j:=1) rfl) ⟨by simp;rw[<- eg,if_neg hne.symm];have:=hlen ts[j].yK;omega,?_⟩;have eb:=pY (ps:=ps) (g:=g') (y:=ts[j].yK) (q:=(ts[j].nm,ts[j].one));show M [some ⟨0,lE ps ts⟩,some ⟨4,.zh (Dl _ (aas ts[j].yK) ((g' ts[j].yK).map yT++[yT (ts[j].nm,ts[j].one)]))⟩,some ⟨0,oR ts[j]⟩];rw[eb];refine k _ ⟨some ⟨0,oR ts[j]⟩,?_⟩;have e:zc ps (ts.take (j+1))=λp=>if p=ts[j].yK then g' ts[j].yK++[(ts[j].nm,ts[j].one)]else g' p:=by
   funext p;rw[step p,eo,if_pos rfl];unfold ends;by_cases q1:p=ts[j].yK
   .subst q1;rw[if_pos rfl,<- eg,if_neg hne.symm,if_neg hne,if_pos rfl];rfl
   .rw[if_neg q1,<- eg];by_cases q2:p=ts[j].one
    .subst q2;rw[if_pos rfl,if_pos rfl,if_neg (λz=>q1 z.symm)];rfl
    .rw[if_neg q2,if_neg (λz=>q2 z.symm),if_neg (λz=>q1 z.symm)];simp
  rw[e];rfl
def sC{cs:Cs}(h:y∉Au cs):Ah (cs.map λc=>((aas c.1:Key),DJ c.2)) (aas y)=none:=me (f:=λc:Str×Option (Str×Str)=>c.1) h
def pW{cs:Cs}(nd:(Au cs).Nodup)(h:y∈Au cs):∃c∈cs,c.1=y/\Ah (cs.map λc=>((aas c.1:Key),DJ c.2)) (aas y)=some (DJ c.2):=by
 obtain⟨c,hc,rfl⟩:=List.mem_map.mp h;exact⟨c,hc,rfl,bg (f:=λc:Str×Option (Str×Str)=>c.1) (g:=λc=>DJ c.2) nd hc⟩
def lD{gE:List (Key×PV)}:A4 (.str y) (.zh gE)=some (.bl (!(Ah gE (aas y)).isSome)):=rfl
structure Ko(ps:List Str)(g:Str->List (Str×Str))(start:Str)(cs:Cs)(as:List Str):Prop where
 ok:B7 g start cs
 FC:∀y∈Au cs,y∈ps
 sub:∀y∈as,y∈Au cs
 al:as.length<=cs.length
theorem o0(xs:List PV)(P:PV->Prop)(h:di xs P):Q.run 7 fq xs P:=by
 obtain⟨ps,g,start,rfl,nd,FD,Dj,AQ,h⟩:=h;unfold fq;refine am λN hN=>?_;show opt (BV (.str start)) _;refine ab (z:=aas start) rfl ?_;show N [some ⟨0,A9 ps g⟩,some ⟨0,.str start⟩,some ⟨1,zX [(start,none)]⟩,none,none,none,none];subst hN;refine am λN hN=>?_;show N [some ⟨0,A9 ps g⟩,some ⟨0,.str start⟩,some ⟨1,zX [(start,none)]⟩,some ⟨1,.lst ([start].map .str)⟩,none,none,none];subst hN;refine am λN hN=>lZ λC B hC hB=>?_;have c0:Ko ps g start [(start,none)] [start]:=⟨⟨by simp[Au],λi c hc=>?_,by simp⟩,λy hy=>?_,λy hy=>?_,by simp⟩
 rotate_left
 .cases i with
  |zero=>exact .inl ⟨rfl,by simpa using hc.symm⟩
  |succ i=>simp at hc
 .simp[Au]at hy;subst hy;exact FD
 .simpa[Au]using hy
 have Uk:∀y∈ps,tO (A9 ps g) (.str y)=some (.lst ((g y).map yT)):=λy hy=>by
  show Ah _ (aas y)=_;have:=bg (f:=id) (g:=λp=>PV.lst ((g p).map yT)) (l:=ps) (a:=y) (by simpa using nd) hy;exact this
 refine mj (λk e=>∃cs as v4 v5 v6,e=[some ⟨0,A9 ps g⟩,some ⟨0,.str start⟩,some ⟨1,zX cs⟩,some ⟨1,.lst (as.map .str)⟩,v4,v5,v6]/\Ko ps g start cs as/\(∀y∈Au cs,y∉as->∀q∈g y,q.2∈Au cs)/\k=2*(ps.length - cs.length)+as.length) (k:=2*(ps.length - 1)+1) ?_ ⟨[(start,none)],[start],none,none,none,rfl,c0,λy hy hn=>absurd (by simpa[Au]using hy) hn,rfl⟩;rintro k e M ⟨cs,as,v4,v5,v6,rfl,ca,cl,rfl⟩ km;subst hC;show opt (some (!(as.map PV.str).isEmpty)) _;refine A3.mpr ?_;cases hA:as with
 |nil=>
  show N _;subst hN;show P (zX cs);exact h cs ca.ok ca.FC λy hy=>cl y hy (by rw[hA];simp)
 |cons a0 ar=>
 rw[<- hA];rw[show (!(List.map PV.str as).isEmpty)=true by rw[hA];rfl,if_pos rfl];have SA:0<as.length:=by rw[hA];simp
 obtain⟨here,hh⟩:∃y,as[as.length - 1]?=some y:=⟨_,aaa (by omega)⟩
 have Rf:here∈as:=aa1 hh;have PB:here∈ps:=ca.FC _ (ca.sub _ Rf);subst hB;refine am λM' PY=>?_;lia;have ep:HG (as.map PV.str) []=some (.str here,(as.dropLast).map .str):=by
  show ((as.map PV.str)[(as.map PV.str).length - 1]?).map _=_;rw[aae,aah,hh,<- List.map_dropLast];rfl
 refine ab ep ?_;lia;subst PY;refine cX λG B hG hB=>?_;lia;refine ab (Uk here PB) ?_;show Cf G B _ ((g here).map yT) _;subst hG hB;have Ju:∀y∈as,y=here\/y∈as.dropLast:=λy hy=>by
  obtain⟨i,hi,rfl⟩:=acM hy;by_cases e:i=as.length - 1
  .left;subst e;rw[aaa hi]at hh;exact aaq hh
  .right;rw[List.mem_iff_getElem];exact⟨i,by simp;omega,by simp⟩
 refine bG (λj e=>∃CU Hk v5 v6,e=[some ⟨0,A9 ps g⟩,some ⟨0,.str start⟩,some ⟨1,zX CU⟩,some ⟨1,.lst (Hk.map .str)⟩,some ⟨0,.str here⟩,v5,v6]/\Ko ps g start CU Hk/\here∈Au CU/\(∀y∈Au CU,y≠here->y∉Hk->∀q∈g y,q.2∈Au CU)/\(∀i q,i<j->(g here)[i]?=some q->q.2∈Au CU)/\2*(ps.length - CU.length)+Hk.length<2*(ps.length - cs.length)+as.length) (i:=0)
  ⟨cs,as.dropLast,v5,v6,rfl,⟨ca.ok,ca.FC,λy hy=>ca.sub y (List.dropLast_subset _ hy),by have:=ca.al;simp;omega⟩,ca.sub _ Rf,λy hy hne hn=>cl y hy λz=>(Ju y z).elim hne hn,λi q hi=>absurd hi (by omega),by simp;omega⟩ ?_ ?_
 .rintro j x e M2 hx ⟨CU,Hk,w5,w6,rfl,FK,Dk,NU,seen,ms⟩ k2;obtain⟨q,hq,rfl⟩:∃q,(g here)[j]?=some q/\x=yT q:=by
   rw[aah]at hx;cases e:(g here)[j]? with
   |none=>rw[e]at hx;cases hx
   |some q=>rw[e]at hx;exact⟨q,rfl,(aaq hx).symm⟩
  have Pr:=aa1 hq;have hlen:=bF FK.ok.nd FK.FC;have ID:(Au CU).length=CU.length:=by simp[Au]
  unfold yT;lia;refine ab (show A4 (.str q.2) (zX CU)=_ from lD) ?_;lia;by_cases FG:q.2∈Au CU
  .obtain⟨c,_,_,ev⟩:=pW FK.ok.nd FG;rw[ev];simp only[adK,adN,acu,if_false];refine k2 _ ⟨CU,Hk,_,_,rfl,FK,Dk,NU,λi r hi hr=>?_,ms⟩;by_cases ei:i<0+j
   .exact seen i r ei hr
   .have:i=j:=by omega
    subst this;rw[hq]at hr;cases hr;exact FG
  .rw[sC FG];simp only[Option.isSome_none,aeD,if_true];have zR:CU.length<ps.length:=by
    have:=bF (xs:=q.2::Au CU) (ys:=ps) (List.nodup_cons.mpr ⟨FG,FK.ok.nd⟩) λy hy=>by
     rcases List.mem_cons.mp hy with rfl|hy
     .exact Dj here PB q Pr
     .exact FK.FC y hy
    simp[Au]at this;omega
   have MC:Hk.length<=100000:=by have:=FK.al;omega
   simp only[Jl];lia;have TC:Dg (.zh (CU.map λc=>((aas c.1:Key),DJ c.2))) (.str q.2) (.tup [.str q.1,.str here])=some (zX (CU++[(q.2,some (q.1,here))])):=by
    refine(if_pos (by simp;omega)).trans ?_;show some (PV.zh (C5 _ (aas q.2) _))=_;rw[np (f:=λc:Str×Option (Str×Str)=>c.1) FG];unfold zX;rw[aaP];rfl
   refine ab (show Dg (zX CU) _ _=_ from TC) ?_;try lia
   refine ab (Fy (by simpa using MC)) ?_;have Ec:∀y,y∈Au (CU++[(q.2,some (q.1,here))])↔y∈Au CU\/y=q.2:=λy=>by simp[Au]
   refine k2 _ ⟨CU++[(q.2,some (q.1,here))],Hk++[q.2],some ⟨0,.str q.1⟩,some ⟨0,.str q.2⟩,?_,⟨FK.ok.snoc FG Dk Pr,λy hy=>?_,λy hy=>?_,by have:=FK.al;simp;omega⟩,(Ec _).mpr (.inl Dk),λy hy hne hn r hr=>?_,λi r hi hr=>?_,?_⟩
   .rw[aaP];rfl
   .rcases(Ec y).mp hy with z|rfl
    .exact FK.FC y z
    .exact Dj here PB q Pr
   .rcases List.mem_append.mp hy with z|z
    .exact(Ec y).mpr (.inl (FK.sub y z))
    .simp at z;exact(Ec y).mpr (.inr z)
   .rcases(Ec y).mp hy with z|rfl
    .exact(Ec _).mpr (.inl (NU y z hne (λw=>hn (by simp[w])) r hr))
    .exact absurd (by simp) hn
   .by_cases ei:i<0+j
    .exact(Ec _).mpr (.inl (seen i r ei hr))
    .have:i=j:=by omega
     subst this;rw[hq]at hr;cases hr;exact(Ec _).mpr (.inr rfl)
   .simp;omega
 .rintro e ⟨CU,Hk,w5,w6,rfl,FK,Dk,NU,seen,ms⟩;refine km _ _ ms ⟨CU,Hk,_,_,_,rfl,FK,λy hy hn r hr=>?_,rfl⟩;by_cases e:y=here
  .subst e;obtain⟨i,hi,rfl⟩:=acM hr;exact seen i _ (by simp;exact hi) (aaa hi)
  .exact NU y hy e hn r hr
def wo(cs:Cs):((cs.map λc=>((aas c.1:Key),DJ c.2)).map (·.1)).mapM CI=some (Au cs):=by
 induction cs with
 |nil=>rfl
 |cons c cs ih=>
  rw[aaz,aaz,abq,ih];rfl
def oS(xs:List PV)(P:PV->Prop)(h:fz xs P):Q.run 2 fg xs P:=by
 obtain⟨ps,g,start,rfl,rise,FD,Dj,AQ,h⟩:=h;unfold fg;lia;simp only[Aq];try lia
 refine⟨ps,g,start,rfl,cz rise,FD,Dj,by omega,λcs ok FC cl=>?_⟩;have hlen:=bF ok.nd FC;show ∃ss,_;refine⟨Au cs,wo cs,by omega,λts up=>?_⟩;have e:ts=ps.filter (rb g start):=ng (iE up.2 (up.1.nodup_iff.mpr ok.nd)) (rise.sublist abT) λz=>by
  rw[up.1.mem_iff,ok.iff cl,abE,rg];exact⟨λh=>⟨h.FC FD Dj,h⟩,λh=>h.2⟩
 rw[<- e]at h;exact ab rfl h
def pL{L:Str->Str}{p:Str}(nd:ps.Nodup)(h:p∈ps):tO (D5 ps L) (.str p)=some (.str (L p)):=by
 show Ah _ (aas p)=_;exact bg (f:=id) (g:=λp=>PV.str (L p)) (l:=ps) (a:=p) (by simpa using nd) h
theorem Gx(ps:List Str)(ts:List lT):tO (lE ps ts) (.int 1)=some (.tup (ts.map oR)):=ao (j:=1) rfl
theorem LU(ps:List Str)(ts:List lT):tO (lE ps ts) (.int 0)=some (.tup (ps.map .str)):=ao (j:=0) rfl
theorem jK(xs:List PV)(P:PV->Prop)(h:ba xs P):Q.run 1 cp xs P:=by
 obtain⟨ps,ts,rfl,hl,nd,h⟩:=h;unfold cp;lia;simp only[HY];lia;refine ab (Gx ps ts) ?_;lia;refine eM (done:=[]) lT.nm oR oR nd (λt ht R hR=>?_) (by simp;omega) h;show opt (tO (oR t) (.int 0)) _;refine ab (z:=.str t.nm) (ao (j:=0) rfl) ?_;exact hR
theorem rB(xs:List PV)(P:PV->Prop)(h:du xs P):Q.run 1 gR xs P:=by
 obtain⟨ps,ts,rfl,hl,nd,h⟩:=h;unfold gR;lia;simp only[HY];lia;refine ab (Gx ps ts) ?_;lia;refine eM (done:=[]) lT.nm (λt=>.tup [.int t.cost,.str t.nm]) oR nd (λt ht R hR=>?_) (by simp;omega) h;show opt (tO (oR t) (.int 0)) _;refine ab (z:=.str t.nm) (ao (j:=0) rfl) ?_;show opt (tO (oR t) (.int 3)) _;refine ab (z:=.int t.cost) (ao (j:=3) rfl) ?_;show opt (tO (oR t) (.int 0)) _;refine ab (z:=.str t.nm) (ao (j:=0) rfl) ?_;exact hR
def vQ{us:List lT}{ix:List Nat}(hl:ix.length=us.length)(nd:ix.Nodup)(lt:∀i∈ix,i<us.length):(ix.map λi=>us.getD i t0).Perm us:=by
 have h1:ix.Perm (aaZ us.length):=by
  refine(aeu nd adb).mpr λi=>?_;rw[List.mem_range];refine⟨lt i,λhi=>?_⟩;have:=bF nd (λx hx=>List.mem_range.mpr (lt x hx));exact abM λhn=>by
   have h2:(i::ix).Nodup:=List.nodup_cons.mpr ⟨hn,nd⟩;have h3:=bF (ys:=aaZ us.length) h2 (λx hx=>by
    rcases List.mem_cons.mp hx with rfl|hx
    .exact List.mem_range.mpr hi
    .exact List.mem_range.mpr (lt x hx))
   simp at h3;omega
 have h2:((aaZ us.length).map λi=>us.getD i t0)=us:=by
  apply acz;intro i;rw[aah];by_cases hi:i<us.length
  .rw[abS hi];simp[hi]
  .rw[aap (by simpa using hi),aap (by omega)];rfl
 have h3:=h1.map λi=>us.getD i t0;rw[h2]at h3;exact h3
theorem lI{us:List lT}{i j:Nat}(hi:i<us.length)(hj:j<us.length):Dh (us.map λu=>(u.cost,u.nm)) i j=true↔zI (us.getD i t0) (us.getD j t0):=by
 have g:∀i,i<us.length->(us.map λu=>(u.cost,u.nm)).getD i (0,⟨#[]⟩)=((us.getD i t0).cost,(us.getD i t0).nm):=λi hi=>by
  rw[aac,aah,aaa hi,aac,aaa hi];rfl
 unfold Dh zI;rw[g i hi,g j hj,decide_eq_true_eq]
def bV{us:List lT}{i:Nat}(hi:i<us.length):(us.map lT.nm).getD i ⟨#[]⟩=(us.getD i t0).nm:=by
 rw[aac,aah,aaa hi,aac,aaa hi];rfl
def jc(T:Addr×Addr×Addr)(c:PV)(xs:List PV)(P:PV->PV->Prop)(h:ce T c xs P):Q.zF 3 (bC T) c xs P:=by
 obtain⟨rfl,ps,ts,us,rfl,hl,nd,Bi,Kq,Dj,h⟩:=h;unfold bC;simp only[zF,CN,Es];refine am λN hN=>?_;lia;refine⟨ps,ts,rfl,hl,nd,?_⟩;lia;subst hN;simp only[yJ,lS,eV,abt,acq];refine⟨us.map lT.nm,us.map λu=>(u.cost,u.nm),⟨.QD _ _ _,dk _,by simpa using Bi,by simp,by rw[aaH];exact Kq,λm hm=>?_⟩,λix ok=>?_⟩
 .rw[aae]at hm;have hu:us.getD m t0∈us:=by rw[aac,aaa hm];exact abk _
  have e:(us.map λu=>(u.cost,u.nm)).getD m k0=((us.getD m t0).cost,(us.getD m t0).nm):=by
   rw[aac,aah,aaa hm,aac,aaa hm];rfl
  rw[e,bV hm];exact bg (f:=lT.nm) (g:=λt=>PV.tup [.int t.cost,.str t.nm]) nd (Dj _ hu)
 .have lt:∀i∈ix,i<us.length:=λi hi=>by have:=ok.lt i hi;rwa [aae]at this
  have e:(ix.map λm=>PV.str ((us.map lT.nm).getD m ⟨#[]⟩))=((ix.map λi=>us.getD i t0).map lT.nm).map .str:=by
   rw[aaH,aaH];exact aaY λi hi=>by show PV.str _=PV.str _;rw[bV (lt i hi)]
  rw[e];refine h _ (vQ (by have:=ok.len;rwa [aae]at this) ok.nd lt) ?_;refine List.pairwise_map.mpr (List.Pairwise.imp_of_mem (λhx hy hq=>?_) ok.up);exact(lI (lt _ hx) (lt _ hy)).mp hq
def nJ(T:Addr×Addr×Addr)(c:PV)(xs:List PV)(P:PV->PV->Prop)(h:bS T c xs P):Q.zF 1 (cE T) c xs P:=by
 obtain⟨rfl,ps,ts,rfl,ok,hp,ht,h⟩:=h;unfold cE;have hf:=aaF (yN ps) ts;simp only[zF,CN,Es];lia;simp only[yI];lia;refine⟨ps,ts,rfl,by omega,?_⟩;lia;refine⟨rfl,ps,ts,ts.filter (yN ps),rfl,by omega,aM ok,by omega,tM ok,λu hu=>(List.mem_filter.mp hu).1,λvs pm up=>?_⟩;lia;refine⟨ps,ts,vs,rfl,ok,hp,ht,pm,up,?_⟩;exact h
def fK(a b:Str):CH (.str a) (.str b)=some (.bl (!decide (a=b))):=by
 show some (PV.bl (!decide (V.str a=V.str b)))=_;congr 3;simp
def bt(ok:AL ps ts):(yF ps ts).Pairwise zw:=ok.names.sublist ((List.filter_sublist.trans abT).map _)
def vG{vs:List lT}{gs:List Str}(ok:AL ps ts)(pm:vs.Perm (ts.filter (yN ps)))(e:l=(vs.filter (AW ps (ts.filter (yN ps)))).map lT.nm)(up:E3 l gs):gs=yF ps ts:=by
 have p:gs.Perm (yF ps ts):=by
  refine up.1.trans ?_;rw[e];exact(pm.filter _).map _
 exact lj p (iE up.2 (p.nodup_iff.mpr (cz (bt ok)))) (bt ok)
theorem i9(xs:List PV)(P:PV->Prop)(h:b9 xs P):Q.run 9 b7 xs P:=by
 obtain⟨ps,ts,vs,rfl,ok,hp,ht,pm,up,h⟩:=h;have pn:=cz ok.rise;have tn:=aM ok;have vl:vs.length<=60:=by rw[pm.length_eq];exact aa4 (aaF _ _) ht
 have oo:∀u∈ts.filter (yN ps),yN ps u=true:=λu hu=>(List.mem_filter.mp hu).2;have vo:∀u∈vs,yN ps u=true:=λu hu=>oo u (pm.mem_iff.mp hu);have vt:∀u∈vs,u∈ts:=λu hu=>(List.mem_filter.mp (pm.mem_iff.mp hu)).1;unfold b7;refine am λN hN=>?_;lia;refine⟨ps,ts,rfl,by omega,tn,?_⟩;lia;subst hN;refine am λN hN=>?_;lia;simp only[HY];lia;refine ab (LU ps ts) ?_;lia;refine eM (done:=[]) (α:=Str) (λp=>p) PV.str PV.str (by simpa using pn) (λp hp R hR=>hR) (by simp;omega) ?_;show N [some ⟨0,lE ps ts⟩,some ⟨0,.lst ((vs.map lT.nm).map .str)⟩,some ⟨0,.zh (ts.map λt=>(aas t.nm,oR t))⟩,some ⟨1,D5 ps id⟩,none,none,none,none,none];subst hN;refine am λN hN=>?_;lia;subst hN;refine am λN hN=>cX λG B hG hB=>?_;lia;refine bG (λj e=>∃(g:Str->Str) (v5 v6 v7 v8:Option Sl),e=[some ⟨0,lE ps ts⟩,some ⟨0,.lst ((vs.map lT.nm).map .str)⟩,some ⟨0,.zh (ts.map λt=>(aas t.nm,oR t))⟩,some ⟨1,D5 ps g⟩,some ⟨1,.lst ((((vs.take j).filter (AW ps (ts.filter (yN ps)))).map lT.nm).map .str)⟩,v5,v6,v7,v8]/\Kr ps (vs.take j) g) (i:=0)
  ⟨id,none,none,none,none,rfl,Kr.nil⟩ ?_ ?_
 case refine_2=>
  rintro e ⟨g,v5,v6,v7,v8,rfl,hk⟩;show N _;rw[aae,aae,abQ,abU];subst hN;simp only[yJ,BJ,aS];lia;simp only[Aq];lia;refine⟨_,dk _,?_,λgs us=>ab rfl ?_⟩
  .rw[aae];have:=aaF (AW ps (ts.filter (yN ps))) vs;omega
  .rw[vG ok pm rfl us];exact h
 rintro j x e M hx ⟨g,v5,v6,v7,v8,rfl,hk⟩ k;rw[abQ]at k hk ⊢;have hj:j<vs.length:=by have:=(List.getElem?_eq_some_iff.mp hx).1;simpa using this
 obtain⟨t,et⟩:∃t,vs[j]?=some t:=⟨_,aaa hj⟩
 have ex:x=.str t.nm:=by
  rw[aah,aah,et]at hx;exact(aaq hx).symm
 have tv:t∈vs:=aa1 et;have ot:=vo t tv;obtain⟨o1,o2⟩:=zp.mp ot;have Rt:vs.take (j+1)=vs.take j++[t]:=by rw[acB,et];rfl
 have oX:∀u∈vs.take j,yN ps u=true:=λu hu=>vo u (acG hu);have hm:∀u,u∈vs.take j↔u∈below (ts.filter (yN ps)) t:=λu=>by
  rw[yQ,<- pm.mem_iff];have Q3:=List.pairwise_iff_getElem.mp up;have Qc:vs[j]=t:=by rw[aaa hj]at et;exact aaq et
  constructor
  .intro hu;obtain⟨i,hi,e⟩:=List.mem_iff_getElem.mp hu;rw[List.getElem_take]at e;have Cc:i<j:=by rw[abe]at hi;omega
   refine⟨acG hu,?_⟩;rw[<- e,<- Qc];exact Q3 i j (by omega) hj Cc
  .rintro⟨hu,hc⟩;obtain⟨i,hi,e⟩:=List.mem_iff_getElem.mp hu;rcases adZ i j with z|z|z
   .rw[List.mem_iff_getElem];exact⟨i,by rw[abe];omega,by rw[List.getElem_take];exact e⟩
   .subst z;rw[Qc]at e;subst e;exact absurd hc (cZ _)
   .have:=Q3 j i hj hi z;rw[Qc,e]at this;exact absurd hc (sD this)
 have mn:=Kr.min oX oo ot hk hm;have st:=Kr.step oX ot pn hk;rw[<- Rt]at st;subst ex hG hB;show yy _ _ _ [some ⟨0,lE ps ts⟩,some ⟨0,.lst ((vs.map lT.nm).map .str)⟩,some ⟨0,.zh (ts.map λt=>(aas t.nm,oR t))⟩,some ⟨1,D5 ps g⟩,some ⟨1,.lst ((((vs.take j).filter (AW ps (ts.filter (yN ps)))).map lT.nm).map .str)⟩,some ⟨0,.str t.nm⟩,v6,v7,v8];refine am λN' DB=>?_;lia;refine ab (z:=oR t) (bg (f:=lT.nm) (g:=oR) tn (vt t tv)) ?_;show N' _;subst DB;refine am λN' DB=>?_;lia;simp only[FI];lia;refine ab (z:=PV.str t.one) (ao (j:=1) rfl) ?_;try lia
 refine ab (pL pn o1) ?_;try lia
 refine ab (z:=PV.str t.yK) (ao (j:=2) rfl) ?_;try lia
 refine ab (pL pn o2) ?_;try lia
 show N' _;subst DB;refine aO λA1 B1 Cd AR=>?_;lia;refine ab (fK _ _) ?_;lia;have fe:(vs.take (j+1)).filter (AW ps (ts.filter (yN ps)))=(vs.take j).filter (AW ps (ts.filter (yN ps)))++(if AW ps (ts.filter (yN ps)) t=true then [t]else []):=by
  rw[Rt,List.filter_append];congr 1;rw[acF,List.filter_nil]
 have kl:((vs.take j).filter (AW ps (ts.filter (yN ps)))).length<=60:=aa4 (aaF _ _) (by rw[abe];omega);by_cases hg:g t.one=g t.yK
 .rw[decide_eq_true hg,adN,if_neg (by simp)];subst AR;refine k _ ⟨g,some ⟨0,.str t.nm⟩,some ⟨0,oR t⟩,some ⟨0,.str (g t.one)⟩,some ⟨0,.str (g t.yK)⟩,?_,st.1 hg⟩;rw[fe,if_neg (λz=>(mn.mpr (AI.mp z)) hg),abO]
 .rw[decide_eq_false hg,aeD,if_pos rfl];subst Cd;refine am λN' DB=>?_;lia;refine ab (Fy (by simp;omega)) ?_;show N' [some ⟨0,lE ps ts⟩,some ⟨0,.lst ((vs.map lT.nm).map .str)⟩,some ⟨0,.zh (ts.map λt=>(aas t.nm,oR t))⟩,some ⟨1,D5 ps g⟩,some ⟨1,.lst ((((vs.take j).filter (AW ps (ts.filter (yN ps)))).map lT.nm).map .str++[.str t.nm])⟩,some ⟨0,.str t.nm⟩,some ⟨0,oR t⟩,some ⟨0,.str (g t.one)⟩,some ⟨0,.str (g t.yK)⟩];subst DB;show CQ _ _ _ _ _ _ ((ps.map λp=>((aas p:Key),PV.str (g p))).map Fg) _ [];rw[aaH];refine eM (done:=[]) (α:=Str) (λp=>p) (λp=>PV.str (if g p=g t.yK then g t.one else g p)) (Fg ∘ λp=>((aas p:Key),PV.str (g p))) (by simpa using pn) (λp hp R hR=>?_) (by simp;omega) ?_
  .refine⟨rfl,?_⟩;show opt (ze (.str (g p)) (.str (g t.yK))) _;refine ab (eq_str _ _) ?_;show opt (some (g p==g t.yK)) _;refine A3.mpr ?_;by_cases z:g p=g t.yK
   .rw[if_pos z]at hR;rw[beq_iff_eq.mpr z];exact hR
   .rw[if_neg z]at hR;rw[beq_eq_false_iff_ne.mpr z];exact hR
  .refine k _ ⟨λp=>if g p=g t.yK then g t.one else g p,some ⟨0,.str t.nm⟩,some ⟨0,oR t⟩,some ⟨0,.str (g t.one)⟩,some ⟨0,.str (g t.yK)⟩,?_,st.2 hg⟩;have e:(((vs.take (j+1)).filter (AW ps (ts.filter (yN ps)))).map lT.nm).map PV.str=(((vs.take j).filter (AW ps (ts.filter (yN ps)))).map lT.nm).map PV.str++[.str t.nm]:=by
    rw[fe,if_pos (AI.mpr (mn.mp hg)),aaP,aaP];rfl
   rw[e];rfl
def uw(n:Nat):Dm [.lst ((aaC n true).map .bl)]=some (.bl true):=by
 rw[sL];congr 2;induction n with
 |zero=>rfl
 |succ n ih=>rw[abD,List.all_cons,ih];rfl
def tX(l:List PV):l.map (λ_=>PV.bl true)=(aaC l.length true).map .bl:=by
 rw[List.map_replicate];induction l with
 |nil=>rfl
 |cons a l ih=>rw[aaz,aaI,abD,ih]
def t4:Bp (.str x) (.lst (ns.map .str))=some (.bl (decide (x∈ns))):=qz
theorem tG(xs:List PV)(P:PV->Prop)(h:gK xs P):Q.run 2 ju xs P:=by
 obtain⟨ps,ns,ts,hx,hl,FW,h⟩:=h;obtain⟨nv,rfl,Dj⟩:∃nv,xs=[lE ps ts,nv]/\∀x:Str,Bp (.str x) nv=some (.bl (decide (x∈ns))):=by
  rcases hx with rfl|rfl
  .exact⟨_,rfl,λx=>bv⟩
  .exact⟨_,rfl,λx=>t4⟩
 unfold ju;have e0:tO (lE ps ts) (.int 0)=some (.tup (ps.map .str)):=ao (j:=0) rfl;have e1:tO (lE ps ts) (.int 1)=some (.tup (ts.map oR)):=ao (j:=1) rfl;lia;refine ab e0 (ab e1 ?_);lia;refine cB (λx=>match x with|.tup [.str a,.str b,.str c,.int d]=>if AM ns ⟨a,b,c,d⟩=true then some (.tup [.str a,.str b,.str c,.int d])else none|_=>none) (λx hx R hR=>?_) (by simp;omega) ?_
 .obtain⟨t,ht,rfl⟩:=List.mem_map.mp hx;refine ab (z:=.str t.nm) (ao (j:=0) rfl) (ab (Dj _) ?_);replace hR:R (if AM ns t=true then some (oR t)else none) [some ⟨0,lE ps ts⟩,some ⟨0,nv⟩]:=hR;show opt (some (AM ns t)) _;rw[fH];cases e:AM ns t with
  |false=>rw[e]at hR;exact hR
  |true=>rw[e]at hR;exact hR
 .rw[aby,acs];have e:ts.filterMap ((λx=>match x with|PV.tup [.str a,.str b,.str c,.int d]=>if AM ns ⟨a,b,c,d⟩=true then some (.tup [.str a,.str b,.str c,.int d])else none|_=>none) ∘ oR)=(ts.filter (AM ns)).map oR:=bP (AM ns) oR ts;rw[e];exact ab rfl h
def yl(a b:Bool):CH (.bl a) (.bl b)=some (.bl (!decide (a=b))):=by cases a<;>cases b<;>rfl
def LN(ps side:List Str):PV->Option PV
 |.tup [.str a,.str b,.str c,.int d]=>if zY ps side ⟨a,b,c,d⟩=true then some (.str a)else none
 |_=>none
theorem qo(xs:List PV)(P:PV->Prop)(h:gJ xs P):Q.run 2 gh xs P:=by
 obtain⟨ps,side,ts,rfl,hl,h⟩:=h;unfold gh;lia;refine ab (Gx ps ts) ?_;lia;refine cB (LN ps side) (λx hx R hR=>?_) (by simp;omega) ?_
 .obtain⟨t,ht,rfl⟩:=List.mem_map.mp hx;replace hR:R (if zY ps side t=true then some (.str t.nm)else none) [some ⟨0,lE ps ts⟩,some ⟨0,.tup (side.map .str)⟩]:=hR;refine⟨ps,ts,t,rfl,ab rfl ?_⟩;unfold zY at hR;cases e:yN ps t with
  |false=>rw[e]at hR;exact hR
  |true=>
   rw[e,adM]at hR;rw[if_pos rfl];refine ab (z:=.str t.one) (ao (j:=1) rfl) (ab bv (ab (z:=.str t.yK) (ao (j:=2) rfl) (ab bv (ab (yl _ _) (ab rfl ?_)))));cases e2:(!decide (decide (t.one∈side)=decide (t.yK∈side)))with
   |false=>rw[e2]at hR;exact hR
   |true=>
    rw[e2,if_pos rfl]at hR;rw[if_pos rfl];refine ab (z:=.str t.nm) (ao (j:=0) rfl) ?_;exact hR
 .rw[aby,acs];have e:ts.filterMap (LN ps side ∘ oR)=((ts.filter (zY ps side)).map lT.nm).map .str:=by
   rw[aaH];exact bP (zY ps side) (λt=>PV.str t.nm) ts
  rw[e];exact ab rfl h
def yr(l:List PV):Dm [.lst (l.map λ_=>PV.bl true)]=some (.bl true):=by rw[tX,uw]
end
section
variable{one yK:Str}
theorem uI{cs:Cs}(nd:(Au cs).Nodup){i j:Nat}{v w:Option (Str×Str)}(h1:cs[i]?=some (a,v))(h2:cs[j]?=some (a,w)):i=j:=by
 have g1:(Au cs)[i]?=some a:=by rw[aah,h1];rfl
 have g2:(Au cs)[j]?=some a:=by rw[aah,h2];rfl
 obtain⟨i1,i2⟩:=List.getElem?_eq_some_iff.mp g1;obtain⟨j1,j2⟩:=List.getElem?_eq_some_iff.mp g2;exact(abu nd).mp (i2.trans j2.symm)
def yq{cs:Cs}(nd:(Au cs).Nodup){i:Nat}{v:Option (Str×Str)}(h:cs[i]?=some (a,v)):tO (zX cs) (.str a)=some (DJ v):=by
 have:=bg (f:=λc:Str×Option (Str×Str)=>c.1) (g:=λc=>DJ c.2) (l:=cs) (a:=(a,v)) nd (aa1 h);exact this
def uH{cs:Cs}(h:y∈Au cs):∃(i:Nat) (v:Option (Str×Str)),cs[i]?=some (y,v):=by
 obtain⟨c,hc,rfl⟩:=List.mem_map.mp h;obtain⟨i,hi,e⟩:=List.mem_iff_getElem.mp hc;exact⟨i,c.2,by rw[aaa hi,e]⟩
theorem u9(xs:List PV)(P:PV->Prop)(h:lX xs P):Q.run 8 kO xs P:=by
 obtain⟨ps,ts,fs,one,yK,rfl,nt,tn,fl,h1,h2,hN,hW⟩:=h;have snd:((B8 ps fs ts).map lT.nm).Nodup:=tn.sublist ((List.filter_sublist.trans abT:(B8 ps fs ts).Sublist ts).map _);unfold kO;refine am λN DB=>?_;lia;refine⟨ps,fs,ts,.inl rfl,nt.tl,fl,?_⟩;refine⟨ps,ts.filter (AM fs),rfl,⟨nt.rise,λt ht=>nt.ne t (List.mem_filter.mp ht).1,nt.pl,aa4 (aaF _ _) nt.tl⟩,?_⟩;refine⟨ps,zc ps (ts.filter (AM fs)),yK,rfl,cz nt.rise,h2,λp hp q hq=>qb q hq,by have:=nt.pl;omega,λcs ok sub cl=>?_⟩;have Uj:cs.length<=60:=by
  have:=bF ok.nd sub;rw[aae]at this;have:=nt.pl;omega
 subst DB;refine am λN DB=>?_;lia;refine ab lD ?_;by_cases hc:one∈Au cs;case neg=>
  rw[sC hc];lia;exact hN λr=>hc ((ok.iff cl).mpr r)
 obtain⟨c,_,_,ec⟩:=pW ok.nd hc;rw[ec];lia;show N _;subst DB;refine am λN DB=>?_;lia;subst DB;refine am λN DB=>?_;lia;subst DB;refine am λN DB=>lZ λC B hC hB=>?_;obtain⟨k0,w0,Rb⟩:=uH hc;refine mj (λk e=>∃(ns:List Str) (y:Str) (w:Option (Str×Str)) (v7:Option Sl),e=[some ⟨0,lE ps ts⟩,some ⟨0,.tup (fs.map .str)⟩,some ⟨0,.str one⟩,some ⟨0,.str yK⟩,some ⟨0,zX cs⟩,some ⟨1,.lst (ns.map .str)⟩,some ⟨0,.str y⟩,v7]/\cs[k]?=some (y,w)/\Wk (B8 ps fs ts) one ns y/\ns.Nodup/\ns.length+k<=60/\∀n∈ns,∃i,k<i/\∃y' x',cs[i]?=some (y',some (n,x'))) ?_ (k:=k0)
  ⟨[],one,w0,none,rfl,Rb,rfl,by simp,by have:=(List.getElem?_eq_some_iff.mp Rb).1;simp;omega,by simp⟩
 rintro k e M ⟨ns,y,w,v7,rfl,hk,hw,nd,hl,hu⟩ km;subst hC;lia;refine ab (fK _ _) ?_;lia;by_cases e:y=yK
 .rw[decide_eq_true e];lia;show N _;subst DB;lia;refine ab rfl (hW ns (e ▸ hw) nd (by omega))
 rw[decide_eq_false e];lia;rcases ok.tree k _ hk with ⟨rfl,e2⟩|⟨_,nm,x,e2,e3,e4⟩
 .cases e2;exact absurd rfl e
 have e2:w=some (nm,x):=e2;subst e2;obtain⟨j,w',hj⟩:=uH e4;have Er:j<k:=by
  have:=(List.getElem?_eq_some_iff.mp hj).1;rw[abe]at this;omega
 have DS:cs[j]?=some (x,w'):=by rw[List.getElem?_take_of_lt Er]at hj;exact hj
 obtain⟨t,ht,en,q⟩:=((n4 ps fs ts).mem _ _ _).mp e3;have Sd:nm∉ns:=λz=>by
  obtain⟨i,hi,y',x',hy⟩:=hu nm z;rcases ok.tree i _ hy with ⟨rfl,_⟩|⟨_,UC,x2,g2,g3,g4⟩
  .exact absurd hi (Nat.not_lt_zero _)
  .cases g2;obtain⟨t',JH,TF,q'⟩:=((n4 ps fs ts).mem _ _ _).mp g3;have:t=t':=aF snd ht JH (en.symm.trans TF);subst this;rcases Ends.two q q' with ⟨_,z2⟩|⟨_,z2⟩
   .have z2:y'=y:=z2;subst z2;have:=uI ok.nd hk hy;omega
   .have z2:y'=x:=z2;subst z2;have:=uI ok.nd DS hy;omega
 subst hB;refine am λM' PY=>?_;lia;refine ab (yq ok.nd hk) ⟨rfl,?_⟩;show M' [some ⟨0,lE ps ts⟩,some ⟨0,.tup (fs.map .str)⟩,some ⟨0,.str one⟩,some ⟨0,.str yK⟩,some ⟨0,zX cs⟩,some ⟨1,.lst (ns.map .str)⟩,some ⟨0,.str x⟩,some ⟨0,.str nm⟩];subst PY;lia;refine ab (Fy (by rw[aae];omega)) ?_;refine km j _ Er ⟨ns++[nm],x,w',some ⟨0,.str nm⟩,by rw[aaP];rfl,DS,hw.app ⟨t,ht,en.symm,x,Ends.sym q,rfl⟩,?_,by simp;omega,λn hn=>?_⟩
 .rw[ab9];exact⟨nd,by simp,λa ha b hb=>by simp at hb;subst hb;exact λe=>Sd (e ▸ ha)⟩
 .rcases List.mem_append.mp hn with z|z
  .obtain⟨i,hi,r⟩:=hu n z;exact⟨i,by omega,r⟩
  .simp at z;subst z;exact⟨k,Er,y,x,hk⟩
def wK{us:List lT}(hl:m<us.length)(nd:(us.map lT.nm).Nodup)(h:DP (us.map λu=>(u.cost,u.nm)) us.length m):Top us (us.getD m t0):=by
 have gm:∀i,i<us.length->us.getD i t0∈us/\us[i]?=some (us.getD i t0):=λi hi=>by
  rw[aac,aaa hi];exact⟨abk _,rfl⟩
 refine⟨(gm m hl).1,λu hu hn=>?_⟩;obtain⟨i,hi,rfl⟩:=acM hu;have e:us[i]=us.getD i t0:=by rw[aac,aaa hi];rfl
 rw[e]at hn ⊢;exact(lI hi hl).mp (h.2 i hi λz=>hn (by rw[z]))
def lA(T:Addr×Addr×Addr)(c:PV)(xs:List PV)(P:PV->PV->Prop)(h:da T c xs P):Q.zF 3 (bT T) c xs P:=by
 obtain⟨rfl,ps,ts,us,rfl,hl,nd,Bi,Kq,Dj,hne,h⟩:=h;unfold bT;simp only[zF,CN,Es];refine am λN hN=>?_;lia;refine⟨ps,ts,rfl,hl,nd,?_⟩;lia;subst hN;simp only[yJ,E1,eV,abt,acq];refine⟨us.map lT.nm,us.map λu=>(u.cost,u.nm),⟨.mid _ _ _,dk _,by simpa using Bi,by simp,by rw[aaH];exact Kq,λm hm=>?_⟩,λz=>?_,λm mx=>?_⟩
 .rw[aae]at hm;have hu:us.getD m t0∈us:=by rw[aac,aaa hm];exact abk _
  have e:(us.map λu=>(u.cost,u.nm)).getD m k0=((us.getD m t0).cost,(us.getD m t0).nm):=by
   rw[aac,aah,aaa hm,aac,aaa hm];rfl
  rw[e,bV hm];exact bg (f:=lT.nm) (g:=λt=>PV.tup [.int t.cost,.str t.nm]) nd (Dj _ hu)
 .rw[aae]at z;exact absurd (List.length_eq_zero_iff.mp z) hne
 .rw[aae]at mx;rw[bV mx.1];exact h _ (wK mx.1 Kq mx)
def nR:∀{ns:List Str},(∀n∈ns,∃t∈os,t.nm=n)->∃us:List lT,us.map lT.nm=ns/\∀u∈us,u∈os
 |[],_=>⟨[],rfl,by simp⟩
 |n::ns,h=>by
  obtain⟨t,ht,e⟩:=h n aar;obtain⟨us,e2,hu⟩:=nR λm hm=>h m (aaj _ hm);exact⟨t::us,by rw[aaz,e,e2],λu Ph=>by
   rcases List.mem_cons.mp Ph with rfl|z
   .exact ht
   .exact hu u z⟩
def Top.Qj{us:List lT}(nd:(ts.map lT.nm).Nodup)(w:Wk (iN ps ts) one (us.map lT.nm) yK)(d:(us.map lT.nm).Nodup)(hu:∀u∈us,u∈iN ps ts)(h:Top us t):G4 ps ts one yK (us.map lT.nm) t :=
 ⟨w,d,hu t h.1,aaO h.1,λu ut un ne=>by
  obtain⟨v,hv,e⟩:=List.mem_map.mp un;rw[<- aF (iB nd) (hu v hv) ut e];exact h.2 v hv (by rw[e];exact ne)⟩
end
def kJ:∀(d:Nat) (x:PV),Tr d x->∀e,zM (e+d) x x=some true
 |0,x,h,_=>h.elim
 |d+1,x,h,e=>by
  rcases h with ⟨s,rfl⟩|⟨n,rfl⟩|rfl|⟨l,rfl,_,hl⟩
  .show some (s==s)=_;rw[beq_self_eq_true]
  .show some (n==n)=_;rw[beq_self_eq_true]
  .rfl
  .show (((l.zip l).mapM λp=>zM (e+d) p.1 p.2).map λbs=>bs.all id && l.length==l.length)=_;have:∀l:List PV,(∀y∈l,Tr d y)->((l.zip l).mapM λp=>zM (e+d) p.1 p.2)=some (l.map λ_=>true):=λl=>by
    induction l with
    |nil=>intro _;rfl
    |cons a l ih=>
     intro h;rw[aa7,abq,kJ d a (h a aar),ih λy hy=>h y (aaj _ hy)];rfl
   rw[this l hl];simp
def jR(nd:(ts.map lT.nm).Nodup)(ht:t∈ts):tO (.zh (ts.map λt=>((aas t.nm:Key),oR t))) (.str t.nm)=some (oR t):=bg (f:=lT.nm) (g:=oR) nd ht
theorem jb(xs:List PV)(P:PV->Prop)(h:bD xs P):Q.run 4 b8 xs P:=by
 obtain⟨ps,ts,n,d,rfl,tl,nd,hd,h⟩:=h;unfold b8;refine am λN hN=>?_;lia;refine⟨ps,ts,rfl,tl,nd,?_⟩;try lia
 refine ab (jR nd hd) (ab (z:=.int d.cost) (ao (j:=3) rfl) ?_);show N [some ⟨0,lE ps ts⟩,some ⟨0,.str n⟩,some ⟨0,.str d.nm⟩,some ⟨0,.int d.cost⟩];subst hN;unfold lim at h;lia;simp only[KQ];lia;cases e:decide (zw n d.nm)with
 |true=>
  rw[e,if_pos rfl]at h;rw[if_pos rfl];exact h
 |false=>
  rw[e,if_neg (by simp)]at h;rw[if_neg (by simp)];exact ab cF h
def mr(nd:(ts.map lT.nm).Nodup)(ht:t∈ts):A4 (.str t.nm) (.zh (ts.map λt=>((aas t.nm:Key),oR t)))=some (.bl false):=by
 have:=jR nd ht;have e:Ah (ts.map λt=>((aas t.nm:Key),oR t)) (aas t.nm)=some (oR t):=this;rw[lD,e];rfl
variable{us:List lT}
def xt(hl:m<us.length)(h:Ei (us.map λu=>(u.cost,u.nm)) us.length m):Hl us (us.getD m t0):=by
 have gm:us.getD m t0∈us:=by
  rw[aac,aaa hl];exact abk _
 refine⟨gm,λu hu hn=>?_⟩;obtain⟨i,hi,rfl⟩:=acM hu;have e:us[i]=us.getD i t0:=by rw[aac,aaa hi];rfl
 rw[e]at hn ⊢;exact(lI hl hi).mp (h.2 i hi λz=>hn (by rw[z]))
def j7(T:Addr×Addr×Addr)(c:PV)(xs:List PV)(P:PV->PV->Prop)(h:cN T c xs P):Q.zF 3 (bO T) c xs P:=by
 obtain⟨rfl,ps,ts,us,rfl,hl,nd,Bi,Kq,Dj,hne,h⟩:=h;unfold bO;simp only[zF,CN,Es];refine am λN hN=>?_;try lia
 refine⟨ps,ts,rfl,hl,nd,?_⟩;try lia
 subst hN;simp only[yJ,EZ,eV,Lv,abt,acq];refine⟨trivial,us.map lT.nm,us.map λu=>(u.cost,u.nm),⟨.fst _ _,dk _,by simpa using Bi,by simp,by rw[aaH];exact Kq,λm hm=>?_⟩,λz=>?_,λm mx=>?_⟩
 .rw[aae]at hm;have hu:us.getD m t0∈us:=by rw[aac,aaa hm];exact abk _
  have e:(us.map λu=>(u.cost,u.nm)).getD m k0=((us.getD m t0).cost,(us.getD m t0).nm):=by
   rw[aac,aah,aaa hm,aac,aaa hm];rfl
  rw[e,bV hm];exact bg (f:=lT.nm) (g:=λt=>PV.tup [.int t.cost,.str t.nm]) nd (Dj _ hu)
 .rw[aae]at z;exact absurd (List.length_eq_zero_iff.mp z) hne
 .rw[aae]at mx;rw[bV mx.1];exact h _ (xt mx.1 mx)
def HF(n:Str):PV->Option PV
 |.str a=>if decide (a≠n)=true then some (.str a)else none
 |_=>none
def jM(n:Str)(l:List Str):(l.map PV.str).filterMap (HF n)=(l.filter λa=>decide (a≠n)).map .str:=by
 rw[acs];exact bP (λa:Str=>decide (a≠n)) PV.str l
theorem oQ(xs:List PV)(P:PV->Prop)(h:fy xs P):Q.run 4 e9 xs P:=by
 obtain⟨ps,ts,t,rfl,o,h⟩:=h;have nd:=aM o.ok;have tl:=o.tl;have pl:=o.pl;have ml:(yF ps ts).length<=60:=by rw[aJ,aae];have:=dY ps ts;omega
 unfold e9;refine am λN hN=>?_;try lia
 refine cB (HF t.nm) (λx hx R hR=>?_) (by simp;omega) ?_
 .obtain⟨a,_,rfl⟩:=List.mem_map.mp hx;replace hR:R (if decide (a≠t.nm)=true then some (.str a)else none) _:=hR;refine ab (z:=.str t.nm) (ao (j:=0) rfl) (ab (fK _ _) (ab rfl ?_));by_cases z:a=t.nm
  .rw[if_neg (by simp[z])]at hR;rw[decide_eq_true z];exact hR
  .rw[if_pos (by simp[z])]at hR;rw[decide_eq_false z];exact hR
 rw[aby,jM];show N [some ⟨0,lE ps ts⟩,some ⟨0,.tup ((yF ps ts).map .str)⟩,some ⟨0,oR t⟩,some ⟨0,.lst (((yF ps ts).filter λa=>decide (a≠t.nm)).map .str)⟩];subst hN;have fl:((yF ps ts).filter λa=>decide (a≠t.nm)).length<=60:=aa4 (aaF _ _) ml;try lia
 refine⟨ps,(yF ps ts).filter λa=>decide (a≠t.nm),ts,.inr rfl,by omega,by omega,?_⟩;rw[rK nd];have ll:(less (iN ps ts) t).length<=ts.length:=aa4 (aaF _ _) (dY ps ts);refine⟨ps,less (iN ps ts) t,rfl,⟨o.ok.rise,λu hu=>hZ (o.ok.tie u (az (rW.mp hu).1).1).lt,pl,by omega⟩,?_⟩;refine ab (z:=.str t.one) (ao (j:=1) rfl) ?_;exact⟨ps,zc ps (less (iN ps ts) t),t.one,rfl,o.ok.rise,(zp.mp (aL t o.FC)).1,λp _ q hq=>qb q hq,pl,h⟩
theorem ja(T:Addr×Addr×Addr)(c:PV)(xs:List PV)(P:PV->PV->Prop)(h:cb T c xs P):Q.zF 6 (bB T) c xs P:=by
 obtain⟨rfl,ps,ts,t,rfl,o,Rl,hL⟩:=h;have nd:=aM o.ok;have tl:=o.tl;have fl:(ts.filter (zY ps (Ak ps ts t))).length<=ts.length:=aaF _ _;have ol:=tJ (ps:=ps) (ts:=ts) (t:=t);unfold bB;simp only[zF,CN,Es];refine am λN hN=>?_;try lia
 refine ab (z:=.str t.nm) (ao (j:=0) rfl) ?_;show N [some ⟨0,lE ps ts⟩,some ⟨0,.tup ((yF ps ts).map .str)⟩,some ⟨0,oR t⟩,some ⟨0,.str t.nm⟩,none,none,some ⟨2,yR T⟩];subst hN;refine am λN hN=>?_;try lia
 refine⟨ps,ts,t,rfl,o,?_⟩;refine⟨ps,Ak ps ts t,ts,rfl,by omega,?_⟩;try lia
 refine cB (HF t.nm) (λx hx R hR=>?_) (by simp;omega) ?_
 .obtain⟨a,_,rfl⟩:=List.mem_map.mp hx;replace hR:R (if decide (a≠t.nm)=true then some (.str a)else none) _:=hR;refine ab (fK _ _) (ab rfl ?_);by_cases z:a=t.nm
  .rw[if_neg (by simp[z])]at hR;rw[decide_eq_true z];exact hR
  .rw[if_pos (by simp[z])]at hR;rw[decide_eq_false z];exact hR
 have eo:(((ts.filter (zY ps (Ak ps ts t))).map lT.nm).filter λa=>decide (a≠t.nm))=(outs ps ts t).map lT.nm:=by
  unfold outs;rw[aet];rfl
 rw[aby,jM,eo];have on:=vd (ps:=ps) (t:=t) nd;have os:∀u∈outs ps ts t,u∈ts:=λu hu=>(nK hu).1;show N [some ⟨0,lE ps ts⟩,some ⟨0,.tup ((yF ps ts).map .str)⟩,some ⟨0,oR t⟩,some ⟨0,.str t.nm⟩,some ⟨0,.lst (((outs ps ts t).map lT.nm).map .str)⟩,none,some ⟨2,yR T⟩];generalize outs ps ts t=us at Rl hL ol on os ⊢;subst hN;refine am λN hN=>aO λA1 B1 Cd AR=>?_;try lia
 cases us with
 |nil=>
  rw[if_pos (by simp)];subst Cd;lia;exact Rl rfl
 |cons u0 us=>
 rw[if_neg (by simp)];subst AR;show N [some ⟨0,lE ps ts⟩,some ⟨0,.tup ((yF ps ts).map .str)⟩,some ⟨0,oR t⟩,some ⟨0,.str t.nm⟩,some ⟨0,.lst (((u0::us).map lT.nm).map .str)⟩,none,some ⟨2,yR T⟩];subst hN;refine am λN hN=>?_;simp only[y8,yI];try lia
 refine⟨rfl,ps,ts,u0::us,rfl,by omega,nd,by omega,on,os,by simp,λu lo=>?_⟩;show N [some ⟨0,lE ps ts⟩,some ⟨0,.tup ((yF ps ts).map .str)⟩,some ⟨0,oR t⟩,some ⟨0,.str t.nm⟩,some ⟨0,.lst (((u0::us).map lT.nm).map .str)⟩,some ⟨0,.str u.nm⟩,some ⟨2,yR T⟩];subst hN;try lia
 refine⟨ps,ts,t.nm,u,rfl,by omega,nd,os u lo.1,?_⟩;exact hL u lo
def Out.Dq(o:Out ps ts t)(hd:d∈iN ps ts):t.nm≠d.nm:=λe=>o.out (by rw[aF (aM o.ok) o.mem (az hd).1 e];exact hd)
def Out.R3(o:Out ps ts t):yX (zc ps (iN ps ts)) t.one t.yK:=by
 refine DW.mpr ?_;rw[<- lW];exact bc (λu hu=>(List.mem_filter.mp hu).2) (List.mem_filter.mpr ⟨o.mem,o.yN⟩)
theorem hV(T:Addr×Addr×Addr)(c:PV)(xs:List PV)(P:PV->PV->Prop)(h:bR T c xs P):Q.zF 4 (bq T) c xs P:=by
 obtain⟨rfl,ps,ts,t,rfl,o,h⟩:=h;have nd:=aM o.ok;have tl:=o.tl;obtain⟨o1,o2⟩:=zp.mp o.yN;have ml:(yF ps ts).length<=60:=by rw[aJ,aae];have:=dY ps ts;omega
 unfold bq;simp only[zF,CN,Es];refine am λN hN=>?_;lia;simp only[yI];lia;refine ab (z:=.str t.one) (ao (j:=1) rfl) (ab (z:=.str t.yK) (ao (j:=2) rfl) ?_);refine⟨ps,ts,yF ps ts,t.one,t.yK,rfl,yk o.ok o.pl o.tl,nd,by omega,o1,o2,λnr=>?_,λns w d _=>?_⟩
 .refine absurd ?_ nr;rw[gn nd];exact Cw o.R3
 rw[qW nd]at w;obtain⟨us,rfl,hu⟩:=nR w.mem;have ul:=wF w d;rw[aae]at ul;have UA:=dY ps ts;have RS:us≠[]:=λz=>by
  subst z;exact absurd w (hZ (o.ok.tie t o.mem).lt)
 try lia
 refine⟨rfl,ps,ts,us,rfl,by omega,nd,by omega,d,λu hx=>(az (hu u hx)).1,RS,λdd top=>?_⟩;have D:=top.Qj nd w d hu;show N [some ⟨0,lE ps ts⟩,some ⟨0,.tup ((yF ps ts).map .str)⟩,some ⟨0,oR t⟩,some ⟨0,.str dd.nm⟩,some ⟨2,yR T⟩];subst hN;lia;refine ab (z:=.str t.nm) (ao (j:=0) rfl) ?_;try lia
 refine⟨ps,ts,t.nm,dd,rfl,by omega,nd,(az D.ht).1,?_⟩;exact h _ dd D
def rP(a b:Nat):zw (⟨#[a]⟩:Str) (⟨#[b]⟩:Str)↔a<b:=by
 show [a]<[b]↔a<b;constructor
 .intro h;cases h with
  |rel h=>exact h
  |cons h=>cases h
 .intro h;exact .rel h
def Qd{d:Nat}{x:PV}(hd:d<=60)(h:Tr d x):zM 60 x x=some true:=by
 have:=kJ d x h (60 - d)
 rwa [Nat.sub_add_cancel hd]at this
def uS{c:Nat}(h:97<=c/\c<=122):decide (zw ⟨#[c]⟩ (aaG "a"))=false/\decide (zw (aaG "z") ⟨#[c]⟩)=false:=by
 have e1:(aaG "a")=⟨#[97]⟩:=by decide +kernel
 have e2:(aaG "z")=⟨#[122]⟩:=by decide +kernel
 rw[e1,e2,decide_eq_false_iff_not,decide_eq_false_iff_not,rP,rP];omega
def oV(xs:List PV)(P:PV->Prop)(h:dh xs P):Q.run 1 fh xs P:=by
 obtain⟨s,rfl,w,h⟩:=h;have hc:s.cps.toList.length=s.length:=by simp[Str.length]
 have h1:=w.lo;have h2:=w.hi;rw[hc]at h1 h2;unfold fh;lia;rw[if_pos (by omega)];lia;have Tu:(1:Int)<=(s.length:Int):=by omega
 have IG:(s.length:Int)<=8:=by omega
 simp only[Tu,IG,decide_true,if_true,adN,acu,if_false,fH];refine jS (λ_=>.bl true) (λx hx R hR=>?_) (by simp[BP,hc];omega) ?_
 .unfold BP at hx;obtain⟨c,hc,rfl⟩:=List.mem_map.mp hx;obtain⟨a,b⟩:=uS (w.ok c hc);simp only[C9,aaz,List.map_nil,List.set_cons_zero];lia;simp only[a,b];exact hR
 .rw[aby,yr];exact A3.mpr h
def iU(h:(x==y)=false):ze (.str x) (.str y)=some (.bl false):=by rw[eq_str,h]
def im(x:Str):ze (.str x) (.str x)=some (.bl true):=by rw[eq_str];simp
def MR(n:Str)(c:Int):PV->PV
 |.tup [.str q,a,b,d]=>if q=n then .tup [.str q,a,b,.int c]else .tup [.str q,a,b,d]
 |x=>x
def pH(a b:List Str):neT (.tup (a.map .str)) (.tup (b.map .str))=some (.bl (!decide (a=b))):=by
 show (zM 60 _ _).map _=_;rw[wf (d:=58)];rfl
def uM(h:l.length<=1000):Tr 2 (.tup (l.map .str)):=.inr (.inr (.inr ⟨_,rfl,by simpa using h,λz hz=>by
 obtain⟨s,_,rfl⟩:=List.mem_map.mp hz;exact .inl ⟨s,rfl⟩⟩))
def nI(xs:List PV)(P:PV->Prop)(h:eS xs P):Q.run 1 dX xs P:=by
 obtain⟨n,rfl,h⟩:=h;unfold dX;lia;exact h
def wG:zQ "cost" := ⟨by decide +kernel,by decide +kernel,by decide +kernel⟩
theorem oY(xs:List PV)(P:PV->Prop)(h:fA xs P):Q.run 2 fm xs P:=by
 obtain⟨n,c,rfl,hw,h⟩:=h;have i0:tO (CV n c) (.int 0)=some (.str "cost"):=ao (j:=0) rfl;unfold fm;refine am λN hN=>aO λA1 B1 Cd AR=>?_;lia;refine ab (z:=.bl true) rfl (ab (z:=true) rfl ?_);lia;refine ab (z:=.int 3) rfl (ab (z:=.bl false) rfl (ab (z:=false) rfl ?_));lia;refine ab i0 ⟨_,rfl,wG,ab (z:=true) rfl ?_⟩;lia;refine ab (z:=.str n) (ao (j:=1) rfl) ⟨_,rfl,hw,ab (z:=true) rfl ?_⟩;lia;try rw[if_neg (by simp)]
 subst AR;show N [some ⟨0,CV n c⟩,none];subst hN;refine am λN hN=>?_;lia;have ec:AX [PV.str "cost",.str n,.int c] (some (2:Int)) none=[.int c]:=by rw[show (2:Int)=((2:Nat):Int)from rfl,mH];rfl
 refine ab (z:=.tup [.int c]) (by show some (PV.tup (AX [PV.str "cost",.str n,.int c] (some (2:Int)) none))=_;rw[ec]) ?_;show N [some ⟨0,CV n c⟩,some ⟨0,.tup [.int c]⟩];subst hN;refine am λN hN=>aO λA1 B1 Cd AR=>?_;lia;refine ab i0 (ab (iU (by decide +kernel)) ?_);lia;try rw[if_neg (by simp)]
 subst AR;show N _;subst hN;refine am λN hN=>aO λA1 B1 Cd AR=>?_;lia;refine ab i0 (ab (im _) ?_);lia;subst Cd;lia;refine ab (z:=.bl true) rfl ?_;lia;exact ab (z:=.int c) (ao (j:=0) rfl) ⟨c,rfl,h⟩
theorem mP(xs:List PV)(P:PV->Prop)(h:cm xs P):Q.run 4 dw xs P:=by
 obtain⟨ps,ts,t0,c,rfl,nd,hl,Sw,h⟩:=h;unfold dw;refine am λN hN=>?_;lia;have ec:AX [PV.str "cost",.str t0.nm,.int c] (some (1:Int)) none=[.str t0.nm,.int c]:=by rw[show (1:Int)=((1:Nat):Int)from rfl,mH];rfl
 refine ab (z:=.tup [.str t0.nm,.int c]) (by show some (PV.tup (AX [PV.str "cost",.str t0.nm,.int c] (some (1:Int)) none))=_;rw[ec]) ?_;lia;show N [some ⟨0,lE ps ts⟩,some ⟨0,CV t0.nm c⟩,some ⟨0,.str t0.nm⟩,some ⟨0,.int c⟩];subst hN;refine am λN hN=>aO λA1 B1 Cd AR=>?_;lia;refine⟨ps,ts,rfl,by omega,nd,ab (mr nd Sw) ?_⟩;lia;subst AR;show N _;subst hN;simp only[yJ,Af,BJ,aS,FZ,KQ];lia;refine ab (LU ps ts) (ab (Gx ps ts) ?_);lia;refine jS (MR t0.nm c) (λx hx R hR=>?_) (by simp;omega) ?_
 .obtain⟨t,ht,rfl⟩:=List.mem_map.mp hx;show opt (tO (oR t) (.int 0)) _;refine ab (z:=.str t.nm) (ao (j:=0) rfl) ?_;refine ab (eq_str t.nm t0.nm) ?_;have hR:R (if t.nm=t0.nm then .tup [.str t.nm,.str t.one,.str t.yK,.int c]else oR t) _:=hR;by_cases e:t.nm=t0.nm
  .rw[if_pos e]at hR;rw[show (t.nm==t0.nm)=true from by simpa using e];lia;refine ab (z:=.tup [.str t.nm,.str t.one,.str t.yK]) ?_ (ab rfl hR);show some (PV.tup (AX [PV.str t.nm,.str t.one,.str t.yK,.int t.cost] none (some (3:Int))))=_;rw[show (3:Int)=((3:Nat):Int)from rfl,fZ];rfl
  .rw[if_neg e]at hR;rw[show (t.nm==t0.nm)=false from by simpa using e];lia;exact hR
 rw[aby];have e:(ts.map oR).map (MR t0.nm c)=(ts.map (fc t0.nm c)).map oR:=by
  rw[aaH,aaH];refine aaY λt _=>?_;show (if t.nm=t0.nm then PV.tup [.str t.nm,.str t.one,.str t.yK,.int c]else oR t)=oR (if t.nm=t0.nm then {t with cost:=c}else t)
  split<;>rfl
 rw[e];exact ab rfl h
theorem oZ(xs:List PV)(P:PV->Prop)(h:fB xs P):Q.run 3 fo xs P:=by
 obtain⟨ps,ts,t,c,rfl,nd,hl,ht,hw,h⟩:=h;unfold fo;refine am λN hN=>aO λA1 B1 Cd AR=>?_;lia;refine⟨_,c,rfl,hw,?_⟩;refine ab (z:=true) rfl ?_;rw[if_neg (by simp)];subst AR;show N _;subst hN;simp only[Gq];lia;refine ab (z:=.str "cost") (ao (j:=0) rfl) ?_;exact⟨_,rfl,ps,ts,t,c,rfl,nd,hl,ht,h⟩
def qp(T:Addr×Addr×Addr)(c:PV)(xs:List PV)(P:PV->PV->Prop)(h:gL T c xs P):Q.zF 5 (dH T) c xs P:=by
 obtain⟨rfl,ps,ts,t,rfl,o,ht,h⟩:=h;have nd:=aM o.ok;have tl:=o.tl;unfold dH;simp only[zF,CN,Es];refine am λN hN=>?_;try lia
 refine⟨ps,ts,rfl,by omega,nd,?_⟩;show N [some ⟨0,lE ps ts⟩,some ⟨0,.str t.nm⟩,some ⟨0,.zh (ts.map λt=>(aas t.nm,oR t))⟩,none,none,some ⟨2,yR T⟩];subst hN;refine am λN hN=>aO λA1 B1 Cd AR=>?_;try lia
 refine ab (mr nd ht) (ab (z:=false) rfl ?_);rw[if_neg (by simp)];subst AR;show N [some ⟨0,lE ps ts⟩,some ⟨0,.str t.nm⟩,some ⟨0,.zh (ts.map λt=>(aas t.nm,oR t))⟩,none,none,some ⟨2,yR T⟩];subst hN;refine am λN hN=>?_;try lia
 refine ab (jR nd ht) ?_;show N [some ⟨0,lE ps ts⟩,some ⟨0,.str t.nm⟩,some ⟨0,.zh (ts.map λt=>(aas t.nm,oR t))⟩,some ⟨0,oR t⟩,none,some ⟨2,yR T⟩];subst hN;refine am λN hN=>aO λA1 B1 Cd AR=>?_;try lia
 refine⟨ps,ts,t,rfl,?_⟩;cases ot:yN ps t with
 |false=>
  try lia
  subst Cd;try lia
  exact h _ (.wait ot)
 |true=>
 try lia
 try rw[if_neg (by simp)]
 subst AR;show N [some ⟨0,lE ps ts⟩,some ⟨0,.str t.nm⟩,some ⟨0,.zh (ts.map λt=>(aas t.nm,oR t))⟩,some ⟨0,oR t⟩,none,some ⟨2,yR T⟩];subst hN;refine am λN hN=>?_;try lia
 simp only[yI];try lia
 refine⟨rfl,ps,ts,rfl,o.ok,o.pl,o.tl,?_⟩;show N [some ⟨0,lE ps ts⟩,some ⟨0,.str t.nm⟩,some ⟨0,.zh (ts.map λt=>(aas t.nm,oR t))⟩,some ⟨0,oR t⟩,some ⟨0,.tup ((yF ps ts).map .str)⟩,some ⟨2,yR T⟩];subst hN;refine am λN hN=>aO λA1 B1 Cd AR=>?_;try lia
 refine ab bv (ab rfl ?_);by_cases it:t∈iN ps ts
 .rw[decide_eq_true (show t.nm∈yF ps ts by rw[aJ];exact aaO it),if_pos rfl];subst Cd;try lia
  simp only[yI];try lia
  exact⟨rfl,ps,ts,t,rfl,⟨o.ok,o.pl,o.tl,it⟩,λe=>h _ (.Co it e),λu l=>h _ (.low it u l)⟩
 .have oo:Out ps ts t:=⟨o.ok,o.pl,o.tl,ht,ot,it⟩
  have nt:t.nm∉yF ps ts:=λz=>by
   rw[aJ]at z;obtain⟨u,hu,e⟩:=List.mem_map.mp z;exact oo.Dq hu e.symm
  rw[decide_eq_false nt,if_neg (by simp)];subst AR;show N [some ⟨0,lE ps ts⟩,some ⟨0,.str t.nm⟩,some ⟨0,.zh (ts.map λt=>(aas t.nm,oR t))⟩,some ⟨0,oR t⟩,some ⟨0,.tup ((yF ps ts).map .str)⟩,some ⟨2,yR T⟩];subst hN;try lia
  simp only[yI];try lia
  exact⟨rfl,ps,ts,t,rfl,oo,λns d D=>h _ (.come ot it ns d D)⟩
def uE(n:Str)(z:Int)(o:Nk ps ts):Nk ps (ts.map (fc n z)):=by
 refine⟨⟨o.ok.rise,o.ok.word,by rw[kE];exact o.ok.names,λt ht=>?_⟩,o.pl,by rw[aae];exact o.tl⟩;obtain⟨u,hu,rfl⟩:=List.mem_map.mp ht;obtain⟨e1,e2,e3⟩:=ck n z u;have k:=o.ok.tie u hu;exact⟨e1 ▸ k.nm,e2 ▸ k.one,e3 ▸ k.yK,by rw[e2,e3];exact k.lt⟩
def xa(T:Addr×Addr×Addr)(c:PV)(xs:List PV)(P:PV->PV->Prop)(h:gc T c xs P):Q.zF 3 (jZ T) c xs P:=by
 obtain⟨rfl,ps,ts,t,z,rfl,o,ht,h⟩:=h;have k:=uE t.nm z o;unfold jZ;simp only[zF,CN,Es];simp only[yJ,yI];try lia
 refine⟨ps,ts,t,z,rfl,aM o.ok,o.tl,ht,(o.ok.tie t ht).nm,?_⟩;try lia
 exact⟨rfl,ps,_,rfl,k.ok,k.pl,k.tl,h⟩
def qq(xs:List PV)(P:PV->Prop)(h:dJ xs P):Q.run 3 gj xs P:=by
 obtain⟨ms,a,b,rfl,hl,_,h⟩:=h;unfold gj;simp only[Q.run,yJ,BJ,aS,Aq,iD];try lia
 refine cB (HF a) (λx hx R hR=>?_) (by simp;omega) ?_
 .obtain⟨w,_,rfl⟩:=List.mem_map.mp hx;replace hR:R (if decide (w≠a)=true then some (.str w)else none) _:=hR;refine ab (fK _ _) (ab rfl ?_);by_cases z:w=a
  .rw[if_neg (by simp[z])]at hR;rw[decide_eq_true z];exact hR
  .rw[if_pos (by simp[z])]at hR;rw[decide_eq_false z];exact hR
 rw[aby,jM];have fl:(ms.filter λx=>decide (x≠a)).length<=ms.length:=aaF _ _;refine ab (z:=.lst (((ms.filter λx=>decide (x≠a))++[b]).map .str)) ?_ ?_
 .rw[aaP];exact if_pos (by rw[aae];show _+1<=_;omega)
 refine⟨_,dk _,by rw[aa3,acC];omega,λgs up=>ab rfl (h gs up.2 up.1)⟩
def tQ(x:Str)(ys:List Str):A4 (.str x) (.tup (ys.map .str))=some (.bl (!decide (x∈ys))):=by
 show (HH _ _).map _=_;rw[lM];rfl
section
def jG{a b:List Str}(ha:a.Pairwise zw)(hb:b.Pairwise zw)(h:∀x,x∈a↔x∈b):a=b :=
 lj ((aeu (cz ha) (cz hb)).mpr h) ha hb
def nW(ne:t.nm≠d.nm):zI (fc t.nm (lim t.nm d) t) d:=by
 unfold fc lim zI;rw[if_pos rfl];show _\/_;by_cases c:zw t.nm d.nm
 .rw[decide_eq_true c,if_pos rfl];exact .inr ⟨rfl,c⟩
 .rw[decide_eq_false c,if_neg (by simp)];exact .inl (by show d.cost - 1<d.cost;omega)
def rS(ne:t.nm≠d.nm):zI d (fc t.nm (lim t.nm d+1) t):=by
 unfold fc lim zI;rw[if_pos rfl];show _\/_;by_cases c:zw t.nm d.nm
 .rw[decide_eq_true c,if_pos rfl];exact .inl (by show d.cost<d.cost+1;omega)
 .rw[decide_eq_false c,if_neg (by simp)];exact .inr ⟨by show d.cost=d.cost - 1+1;omega,kh c (abm ne)⟩
variable(o:Nk ps ts)
include o
def iY(n:Str)(z:Int):(yF ps (ts.map (fc n z))).Pairwise zw:=bt (uE n z o).ok
def pP{z:Int}(ht:t∈iN ps ts)(h:∀w∈outs ps ts t,zI (fc t.nm z t) w):yF ps (ts.map (fc t.nm z))=yF ps ts :=
 jG (iY o _ _) (bt o.ok) (wz o.ok ht h)
def vJ(ht:t∈iN ps ts)(l:Hl (outs ps ts t) d):d∈ts/\t.nm≠d.nm/\d.nm∉yF ps ts:=by
 obtain⟨l1,l2⟩:=List.mem_filter.mp l.1;obtain⟨l3,l4⟩:=List.mem_filter.mp l1;have l2:d.nm≠t.nm:=by simpa using l2
 refine⟨l3,abm l2,λz=>?_⟩;rw[aJ]at z;obtain⟨u,hu,e⟩:=List.mem_map.mp z;have:=aF (aM o.ok) (az hu).1 l3 e;subst this;rw[kW (aM o.ok) hu ht l2]at l4;cases l4
def pO{ms gs:List Str}(nb:b∉yF ps ts)(hm:ms.Pairwise zw)(h:∀x,x∈ms↔(x∈yF ps ts/\x≠a)\/x=b)(up:gs.Pairwise λx y=>¬ zw y x)(pm:gs.Perm (((yF ps ts).filter λx=>decide (x≠a))++[b])):ms=gs:=by
 have nd:(((yF ps ts).filter λx=>decide (x≠a))++[b]).Nodup:=by
  rw[ab9];exact⟨(cz (bt o.ok)).sublist abT,by simp,λx hx y hy e=>nb (by
   rw[List.mem_singleton.mp hy]at e;exact e ▸ (List.mem_filter.mp hx).1)⟩
 refine jG hm (iE up (pm.nodup_iff.mpr nd)) λx=>?_;rw[pm.mem_iff,h,aa9,abE,adL];simp
end
def gF(h:l.length<=1000):ze (.tup (l.map .str)) (.tup (l.map .str))=some (.bl true):=by
 show (zM 60 _ _).map _=_;rw[Qd (by decide) (uM h)];rfl
def HA:A2 (.int 10) (.int 30)=some (.int (10 ^ 30)):=(nz (by decide)).trans rfl
theorem rD(T:Addr×Addr×Addr)(c:PV)(xs:List PV)(P:PV->PV->Prop)(h:iy T c xs P):Q.zF 6 (eU T) c xs P:=by
 obtain⟨rfl,ps,ts,t,rfl,o,ht,h⟩:=h;have nd:=aM o.ok;have tl:=o.tl;have ml:(yF ps ts).length<=60:=by
  have:=dY ps ts;rw[aJ,aae];omega
 unfold eU;simp only[zF,CN,Es];refine am λN hN=>?_;simp only[y8,yI];try lia
 refine⟨rfl,ps,ts,t,rfl,o,ht,λr hr=>?_⟩;show N [some ⟨0,lE ps ts⟩,some ⟨0,.tup ((yF ps ts).map .str)⟩,some ⟨0,.str t.nm⟩,some ⟨0,r⟩,none,none,some ⟨2,yR T⟩];subst hN;refine am λN hN=>aO λA1 B1 Cd AR=>?_;try lia
 cases hr with
 |wait ot=>
  have nt:t.nm∉yF ps ts:=λz=>by
   rw[aJ]at z;obtain⟨u,hu,e⟩:=List.mem_map.mp z;rw[aF nd (az hu).1 ht e]at hu;rw[aL t hu]at ot;cases ot
  refine ab (z:=.str "waits") (ao (j:=0) rfl) (ab (im _) (ab rfl ?_));rw[if_pos rfl];subst Cd;simp only[yJ,CO,yI];try lia
  refine ab (tQ _ _) ?_;rw[decide_eq_false nt];try lia
  refine ab HA (ab rfl ?_);try lia
  refine⟨rfl,ps,ts,t,_,rfl,o,ht,?_⟩;rw[wy ht nd ot];exact ab (gF (by omega)) h
 |Co it e=>
  refine ab (z:=.str "stays") (ao (j:=0) rfl) (ab (iU (by decide +kernel)) (ab rfl ?_));rw[if_neg (by simp)];subst AR;show N [some ⟨0,lE ps ts⟩,some ⟨0,.tup ((yF ps ts).map .str)⟩,some ⟨0,.str t.nm⟩,some ⟨0,EC⟩,none,none,some ⟨2,yR T⟩];subst hN;refine am λN hN=>aO λA1 B1 Cd AR=>?_;try lia
  refine ab (z:=.yB) (ao (j:=1) rfl) (ab (z:=.bl true) rfl (ab rfl ?_));rw[if_pos rfl];subst Cd;simp only[yJ,CO,yI];try lia
  refine ab (z:=.str "stays") (ao (j:=0) rfl) (ab (im _) ?_);try lia
  refine ab bv ?_;rw[decide_eq_true (show t.nm∈yF ps ts by rw[aJ];exact aaO it)];try lia
  refine ab HA (ab rfl ?_);try lia
  refine⟨rfl,ps,ts,t,_,rfl,o,ht,?_⟩;rw[pP o it (by rw[e];simp)];exact ab (gF (by omega)) h
 |low it u l=>
  obtain⟨u1,u2,u3⟩:=vJ o it l;refine ab (z:=.str "stays") (ao (j:=0) rfl) (ab (iU (by decide +kernel)) (ab rfl ?_));rw[if_neg (by simp)];subst AR;show N [some ⟨0,lE ps ts⟩,some ⟨0,.tup ((yF ps ts).map .str)⟩,some ⟨0,.str t.nm⟩,some ⟨0,cQ t u⟩,none,none,some ⟨2,yR T⟩];subst hN;refine am λN hN=>aO λA1 B1 Cd AR=>?_;try lia
  refine ab (z:=.int (lim t.nm u)) (ao (j:=1) rfl) (ab (z:=.bl false) rfl (ab rfl ?_));rw[if_neg (by simp)];subst AR;show N [some ⟨0,lE ps ts⟩,some ⟨0,.tup ((yF ps ts).map .str)⟩,some ⟨0,.str t.nm⟩,some ⟨0,cQ t u⟩,none,none,some ⟨2,yR T⟩];subst hN;refine am λN hN=>?_;simp only[D1,aS,iD];try lia
  refine ab (z:=.str u.nm) (ao (j:=2) rfl) ?_;try lia
  refine⟨yF ps ts,t.nm,u.nm,rfl,ml,bt o.ok,λgs up pm=>?_⟩;have gl:gs.length<=1000:=by
   have:=aaF (λx=>decide (x≠t.nm)) (yF ps ts);rw[pm.length_eq,aa3,acC];omega
  show N [some ⟨0,lE ps ts⟩,some ⟨0,.tup ((yF ps ts).map .str)⟩,some ⟨0,.str t.nm⟩,some ⟨0,cQ t u⟩,some ⟨0,.tup ((yF ps ts).map .str)⟩,some ⟨0,.tup (gs.map .str)⟩,some ⟨2,yR T⟩];subst hN;refine am λN hN=>aO λA1 B1 Cd AR=>?_;try lia
  refine ab (z:=.str "stays") (ao (j:=0) rfl) (ab (iU (by decide +kernel)) (ab rfl ?_));rw[if_neg (by simp)];subst AR;show N [some ⟨0,lE ps ts⟩,some ⟨0,.tup ((yF ps ts).map .str)⟩,some ⟨0,.str t.nm⟩,some ⟨0,cQ t u⟩,some ⟨0,.tup ((yF ps ts).map .str)⟩,some ⟨0,.tup (gs.map .str)⟩,some ⟨2,yR T⟩];subst hN;refine am λN hN=>aO λA1 B1 Cd AR=>?_;try lia
  refine ab bv ?_;rw[decide_eq_true (show t.nm∈yF ps ts by rw[aJ];exact aaO it)];refine ab (z:=.str "stays") (ao (j:=0) rfl) (ab (im _) (ab (z:=.bl false) rfl (ab rfl ?_)));try rw[if_neg (by simp)]
  simp only[yI];try lia
  refine ab (z:=.int (lim t.nm u)) (ao (j:=1) rfl) ?_;try lia
  refine⟨rfl,ps,ts,t,_,rfl,o,ht,?_⟩;rw[pP o it λw hw=>?_]
  .refine ab (pH _ _) (ab rfl ?_);rw[decide_eq_true rfl];try rw[if_neg (by simp)]
   subst AR;show N [some ⟨0,lE ps ts⟩,some ⟨0,.tup ((yF ps ts).map .str)⟩,some ⟨0,.str t.nm⟩,some ⟨0,cQ t u⟩,some ⟨0,.tup ((yF ps ts).map .str)⟩,some ⟨0,.tup (gs.map .str)⟩,some ⟨2,yR T⟩];subst hN;simp only[yJ,MN,yI];try lia
   refine ab (z:=.int (lim t.nm u)) (ao (j:=1) rfl) (ab rfl ?_);try lia
   refine ab rfl (ab HA (ab rfl ?_));generalize decide ((10:Int) ^ 30<=if lim t.nm u+1<0 then -(lim t.nm u+1)else lim t.nm u+1)=b;cases b with
   |true=>try lia;exact h
   |false=>
    try lia
    refine ab (z:=.int (lim t.nm u)) (ao (j:=1) rfl) (ab rfl ?_);try lia
    refine⟨rfl,ps,ts,t,_,rfl,o,ht,?_⟩;rw[pO o u3 (iY o _ _) (ur o.ok it l (rS u2)) up pm];exact ab (gF gl) h
  .by_cases e:w.nm=u.nm
   .rw[aF nd (nK hw).1 u1 e];exact nW u2
   .exact dr (nW u2) (l.2 w hw e)
 |come ot it ns d D=>
  have oo:Out ps ts t:=⟨o.ok,o.pl,o.tl,ht,ot,it⟩
  have ne:=oo.Dq D.ht;have nt:t.nm∉yF ps ts:=λz=>by
   rw[aJ]at z;obtain⟨u,hu,e⟩:=List.mem_map.mp z;exact oo.Dq hu e.symm
  refine ab (z:=.str "comes") (ao (j:=0) rfl) (ab (iU (by decide +kernel)) (ab rfl ?_));rw[if_neg (by simp)];subst AR;show N [some ⟨0,lE ps ts⟩,some ⟨0,.tup ((yF ps ts).map .str)⟩,some ⟨0,.str t.nm⟩,some ⟨0,cY t d⟩,none,none,some ⟨2,yR T⟩];subst hN;refine am λN hN=>aO λA1 B1 Cd AR=>?_;try lia
  refine ab (z:=.int (lim t.nm d)) (ao (j:=1) rfl) (ab (z:=.bl false) rfl (ab rfl ?_));rw[if_neg (by simp)];subst AR;show N [some ⟨0,lE ps ts⟩,some ⟨0,.tup ((yF ps ts).map .str)⟩,some ⟨0,.str t.nm⟩,some ⟨0,cY t d⟩,none,none,some ⟨2,yR T⟩];subst hN;refine am λN hN=>?_;simp only[D1,aS,iD];try lia
  refine ab (z:=.str d.nm) (ao (j:=2) rfl) ?_;try lia
  refine⟨yF ps ts,t.nm,d.nm,rfl,ml,bt o.ok,λTv _ _=>?_⟩;show N [some ⟨0,lE ps ts⟩,some ⟨0,.tup ((yF ps ts).map .str)⟩,some ⟨0,.str t.nm⟩,some ⟨0,cY t d⟩,some ⟨0,.tup ((yF ps ts).map .str)⟩,some ⟨0,.tup (Tv.map .str)⟩,some ⟨2,yR T⟩];subst hN;refine am λN hN=>aO λA1 B1 Cd AR=>?_;try lia
  refine ab (z:=.str "comes") (ao (j:=0) rfl) (ab (im _) (ab rfl ?_));rw[if_pos rfl];subst Cd;simp only[D1,aS,iD];try lia
  refine ab (z:=.str d.nm) (ao (j:=2) rfl) ?_;try lia
  refine⟨yF ps ts,d.nm,t.nm,rfl,ml,bt o.ok,λgs up pm=>?_⟩;show N [some ⟨0,lE ps ts⟩,some ⟨0,.tup ((yF ps ts).map .str)⟩,some ⟨0,.str t.nm⟩,some ⟨0,cY t d⟩,some ⟨0,.tup (gs.map .str)⟩,some ⟨0,.tup ((yF ps ts).map .str)⟩,some ⟨2,yR T⟩];subst hN;refine am λN hN=>aO λA1 B1 Cd AR=>?_;try lia
  refine ab bv ?_;rw[decide_eq_false nt];refine ab (z:=.str "comes") (ao (j:=0) rfl) (ab (iU (by decide +kernel)) (ab (z:=.bl false) rfl (ab rfl ?_)));try rw[if_neg (by simp)]
  simp only[yI];try lia
  refine ab (z:=.int (lim t.nm d)) (ao (j:=1) rfl) ?_;try lia
  refine⟨rfl,ps,ts,t,_,rfl,o,ht,?_⟩;rw[pO o nt (iY o _ _) (wB o.ok ht ot it D (nW ne)) up pm];refine ab (pH _ _) (ab rfl ?_);rw[decide_eq_true rfl];try rw[if_neg (by simp)]
  subst AR;show N [some ⟨0,lE ps ts⟩,some ⟨0,.tup ((yF ps ts).map .str)⟩,some ⟨0,.str t.nm⟩,some ⟨0,cY t d⟩,some ⟨0,.tup (gs.map .str)⟩,some ⟨0,.tup ((yF ps ts).map .str)⟩,some ⟨2,yR T⟩];subst hN;simp only[yJ,MN,yI];try lia
  refine ab (z:=.int (lim t.nm d)) (ao (j:=1) rfl) (ab rfl ?_);try lia
  refine ab rfl (ab HA (ab rfl ?_));generalize decide ((10:Int) ^ 30<=if lim t.nm d+1<0 then -(lim t.nm d+1)else lim t.nm d+1)=b;cases b with
  |true=>try lia;exact h
  |false=>
   try lia
   refine ab (z:=.int (lim t.nm d)) (ao (j:=1) rfl) (ab rfl ?_);try lia
   refine⟨rfl,ps,ts,t,_,rfl,o,ht,?_⟩;rw[jG (iY o _ _) (bt o.ok) (wA o.ok ht it D (rS ne))];exact ab (gF (by omega)) h
theorem vc(T:Addr×Addr×Addr)(ns:List Int)(x:PV)(hn:ns.length<=63)(hx:x=.Ba ns\/x=.lst (ns.map .int)):Q.zF 6 (iA T) (yR T) [x] λr c=>r=.bl true/\c=yR T:=by
 unfold iA;simp only[zF,CN,Es];refine am λN hN=>?_;show Q.AA 1 0 _ [some ⟨0,x⟩,none,none,none,none,none,some ⟨2,yR T⟩];refine⟨⟨ns,hx,hn⟩,?_⟩;show N [some ⟨0,x⟩,some ⟨4,.yB⟩,none,none,none,none,some ⟨2,yR T⟩];subst hN;obtain⟨zs,ez,lz⟩:=uT 3 hx;refine am λN hN=>cX λG B hG hB=>?_;simp only[Ku,aS,iD,yu,eC,BJ,HX,eV,Bw,Bv,GC,fH,abt];refine ab ez ?_;lia;refine ab (z:=.int (2+(zs.length:Int))) rfl ?_;refine⟨by omega,by omega,?_⟩;generalize CB 0 _=rs;subst hG hB;refine bG (λj e=>∃v2 v3 v4 v5:Option Sl,e=[some ⟨0,x⟩,some ⟨4,.yB⟩,v2,v3,v4,v5,some ⟨2,yR T⟩]) (i:=0) ⟨none,none,none,none,rfl⟩ ?_ ?_;case refine_2=>
  rintro e ⟨v2,v3,v4,v5,rfl⟩;show N _;subst hN;exact⟨rfl,rfl⟩
 rintro j y e M hy ⟨v2,v3,v4,v5,rfl⟩ k;show yy _ _ _ [some ⟨0,x⟩,some ⟨4,.yB⟩,some ⟨0,y⟩,v3,v4,v5,some ⟨2,yR T⟩];refine am λN hN=>?_;lia;refine⟨rfl,12,30,rfl,by decide,by decide,by decide,by decide,λps ts ok hp ht=>?_⟩;lia;have o:Nk ps ts:=⟨ok,by omega,by omega⟩
 show N [some ⟨0,x⟩,some ⟨4,.yB⟩,some ⟨0,y⟩,some ⟨0,lE ps ts⟩,v4,v5,some ⟨2,yR T⟩];subst hN;refine am λN hN=>?_;simp only[y8,yI];try lia
 refine⟨rfl,ps,ts,rfl,ok,o.pl,o.tl,?_⟩;show N [some ⟨0,x⟩,some ⟨4,.yB⟩,some ⟨0,y⟩,some ⟨0,lE ps ts⟩,some ⟨0,.tup ((yF ps ts).map .str)⟩,v5,some ⟨2,yR T⟩];subst hN;refine cX λG B hG hB=>?_;try lia
 refine ab (Gx ps ts) ?_;refine bG (λi e=>∃v5:Option Sl,e=[some ⟨0,x⟩,some ⟨4,.yB⟩,some ⟨0,y⟩,some ⟨0,lE ps ts⟩,some ⟨0,.tup ((yF ps ts).map .str)⟩,v5,some ⟨2,yR T⟩]) (i:=0) ⟨v5,rfl⟩ ?_ ?_;case refine_2=>
  rintro e ⟨v5,rfl⟩;exact k _ ⟨_,_,_,_,rfl⟩
 rintro i z e M' hz ⟨v5,rfl⟩ kk;obtain⟨t,JH,rfl⟩:=List.mem_map.mp (aa1 hz);subst hG hB;refine aO λA1 B1 Cd AR=>?_;try lia
 simp only[yI];try lia
 refine ab (z:=.str t.nm) (ao (j:=0) rfl) ?_;try lia
 refine⟨rfl,ps,ts,t,rfl,o,JH,ab (z:=true) rfl ?_⟩;try rw[if_neg (by simp)]
 subst AR;exact kk _ ⟨_,rfl⟩
variable{K:aaf}{mg:Str->Option Value}{st:Stmt}
abbrev GQ(P:aaA)(w:World)(base:Heap)(d:Df K mg x st ps)(k:Nat)(D:Fd):Prop:=yG P w K mg base zB k d.f d.fd ps (ED ⟨P,w,K,zT K⟩ ps.length D)
abbrev GO(P:aaA)(w:World)(base:Heap)(d:Df K mg x st ps)(k:Nat)(D:BL):Prop:=yG P w K mg base zB k d.f d.fd ps (G5 ⟨P,w,K,zT K⟩ ps.length D)
def Bd{N P:List Str}{sc:Scope}(kind:sc.kind=.function:=by rfl)(co:sc.isCoroutine=false:=by rfl)(gen:sc.isGenerator=false:=by rfl)(nd:N.Nodup:=by decide +kernel)(pre:N.take P.length=P:=by rfl)
  (par:∀x∈P,sc.names.lookup x=some .local\/sc.names.lookup x=some .cell:=by decide +kernel) (EM:∀y∈sc.names,y.2≠.free:=by decide +kernel):av N P sc:=⟨kind,co,gen,nd,pre,par,EM⟩
variable{ob:zP}{X:Cx}{k':Nat}{D:Fd}{DO:BL}{p p1 pos:Pos}{e a b:Expr}{es:List Expr}{fa:WA}{f g:WE}
def aT(i:Nat)(hN:X.N[i]?=some x:=by rfl)(hv:Cy X.env.scope x:=by first|exact Or.inl rfl|exact Or.inr (Or.inl rfl)|exact Or.inr (Or.inr rfl))(hd:(x==("__debug__" : Str))=false:=by decide)(Cr:(x==("__classdict__" : Str))=false:=by decide):
  yW ob X (.Name x pos) (eV i):=xR i (pv i hN hv hd Cr)
def yD(i:Nat)(hN:X.N[i]?=some x:=by rfl)(hv:Cy X.env.scope x:=by first|exact Or.inl rfl|exact Or.inr (Or.inl rfl)|exact Or.inr (Or.inr rfl))(hd:(x==("__debug__" : Str))=false:=by decide)(Cr:(x==("__classdict__" : Str))=false:=by decide):
  CZ ob X (.Name x pos) (zH i):=vZ i (pv i hN hv hd Cr)
def yS{d:Df X.K X.mg x st ps}(F:yG X.prog X.w X.K X.mg X.base zB k d.f d.fd ps (ED (md ob X) n D))(hr:y9 k' X.A)(ha:Ex ob X (e::es) fa)(hk:k<=k':=by decide)(hn:es.length+1=n:=by rfl)(hg:Gl X x:=by rfl)
  (BY:(x==("__debug__" : Str))=false:=by decide) (he:aag (e::es) X.env=(false,eval e X.env)::aag es X.env:=by rfl) (AQ:(backTo pos (aag es X.env)).any (·.1)=false:=by rfl) :
  yW ob X (.Call (.Name x p) (e::es) [] pos) (yP D fa):=wc F (hr.mono hk) d.n.mg d.n.kp d.b ha hn hg BY he AQ
def yU(i:Nat){d:Df X.K X.mg x st ps}(F:yG X.prog X.w X.K X.mg X.base zB k d.f d.fd ps (G5 (md ob X) n DO))(hr:y9 k' X.A)(ha:Ex ob X es fa)(ho:PE X (.Name y p1) (zt i):=by exact pv _)(hk:k<=k':=by decide)(hn:es.length+1=n:=by rfl)(hg:Gl X x:=by rfl)
  (BY:(x==("__debug__" : Str))=false:=by decide) (he:aag (.Name y p1::es) X.env=(false,eval (.Name y p1) X.env)::aag es X.env:=by rfl) (AQ:(backTo pos (aag es X.env)).any (·.1)=false:=by rfl) :
  yW ob X (.Call (.Name x p) (.Name y p1::es) [] pos) (yO DO i fa):=uh i F (hr.mono hk) d.n.mg d.n.kp d.b ho ha hn hg BY he AQ
theorem zL(j:Nat){d:Df X.K X.mg x st ps}(F:yG X.prog X.w X.K X.mg X.base zB k d.f d.fd ps (spT (md ob X) n DO))(hr:y9 k' X.A)(ha:Ex ob X (e::es) fa)(hk:k<=k':=by decide)(hn:es.length+1=n:=by rfl)(hg:Gl X x:=by rfl)
  (BY:(x==("__debug__" : Str))=false:=by decide) (he:aag (e::es) X.env=(false,eval e X.env)::aag es X.env:=by rfl) (AQ:(backTo pos (aag es X.env)).any (·.1)=false:=by rfl) :
  yW ob X (.Call (.Name x p) (e::es) [] pos) (yI DO j fa):=ug j F (hr.mono hk) d.n.mg d.n.kp d.b ha hn hg BY he AQ
def zu(hr:y9 k X.A)(ha:yW ob X a f)(hb:CZ ob X b g)(hs:ga b:=by exact λ_ _=>rfl):yW ob X (.Subscript a b pos) (yu tO f g):=yn (Ml hr) ha hb hs
def Mz(i:Nat)(hr:y9 k X.A)(hb:CZ ob X b g)(ha:PE X (.Name x p) (zt i):=by exact pv _)(hs:ga b:=by exact λ_ _=>rfl):yW ob X (.Subscript (.Name x p) b pos) (FI tO i g):=xU i (Ml hr) ha hb hs
def Be{op:CmpOp}{r:R2}{o:PV->PV->Option PV}(hr:zC X (aaL op) r)(hq:BK ob X r o)(ha:yW ob X a f)(hb:CZ ob X b g)(hm:ab7 op b=false:=by first|exact BS _|rfl):yW ob X (.Compare a [op] [b] pos) (yu o f g):=xV hr hq ha hb hm
def yV{op:CmpOp}{r:R2}{o:PV->PV->Option PV}(hr:zC X (aaL op) r)(hq:BK ob X r o)(ha:yW ob X a f)(hb:CZ ob X b g)(hm:ab7 op b=false:=by first|exact BS _|rfl):Ew ob X (.Compare a [op] [b] pos) (yM (yu o f g)):=we hr hq ha hb hm
variable{tg iter elt kx vx QE Iz:Expr}{ifs:List Expr}{scope:Scope}{T:F8}{fi Tx:WA}{c:WT}{fk:WE}{js:List (Option Nat)}
variable{P:aaA}{w:World}{base:Heap}
def fQ(Y:Ev K mg):yG P w K mg base zB 0 Y.Ac.f Y.Ac.fd ["parts"] (ED ⟨P,w,K,zT K⟩ 1 cD):=fR
def ku(Y:Ev K mg):yG P w K mg base zB 0 Y.zx.f Y.zx.fd ["net", "deed"] (ED ⟨P,w,K,zT K⟩ 2 cM):=fR
def jV(Y:Ev K mg):yG P w K mg base zB 0 Y.zl.f Y.zl.fd ["net", "deed"] (ED ⟨P,w,K,zT K⟩ 2 cy):=fR
def mU(Y:Ev K mg):yG P w K mg base zB 0 Y.zW.f Y.zW.fd ["net", "deed"] (ED ⟨P,w,K,zT K⟩ 2 dE):=fR
def n5(Y:Ev K mg):yG P w K mg base zB 0 Y.Ap.f Y.Ap.fd ["net", "deed"] (ED ⟨P,w,K,zT K⟩ 2 eR):=fR
def lG:(["sign"]:List Str).Nodup:=by decide +kernel
def Oc:av ["thing"] ["thing"] (ap la):=Bd
def jn(Y:Ev K mg):GQ P w base Y.DF 1 dh :=
 aW (bn Y.DF.F Oc (by decide) (λy6 A outer s H E hr=>by
  unfold fh;exact(ai (aN (lQ (kK (cL (bK (yE (kH "str" (by decide) Y.zO Y.IK PyProof.Rows.boot_str (yD 0))))) (oq (cL (ui mX j8 mX j8 af (dI f7 f8 (by rfl) Y.Ci acf (e7 (yD 0))) (wa (Y.A8))))))) (aq (ay kI)) aG)
  (aq (ay (dI (uo rfl) x4 (by rfl) Y.IP PyProof.Rows.boot_all (DV (ac (DQ (iT (N:=["sign"]) (xX (aT 0)) (λ_ _ _ _ _=>aP (i:=0) lG rfl (Or.inl rfl)) (λ_ _ _ _ _=>fY) (λ_ _ _ _ _=>(uf mX j8 mX j8 bb (aT 0) bb)))) ag)))))))) oV
def Og:av ["thing"] ["thing"] (ap jE):=Bd
def n8(Y:Ev K mg):GQ P w base Y.CL 1 eS :=
 aW (bn Y.CL.F Og (by decide) (λy6 A outer s H E hr=>by
  unfold dX;exact(aq (ay (eJ (kH "int" (by decide) Y.zO Y.IM PyProof.Rows.boot_int (yD 0)) (eG (xS (kH "bool" (by decide) Y.zO Y.GX PyProof.Rows.boot_bool (yD 0))))))))) nI
def Oe:av ["net", "tie"] ["net", "tie"] (ap lb):=Bd
def de(Y:Ev K mg):GQ P w base Y.DG 1 bN :=
 aW (bn Y.DG.F Oe (by decide) (λy6 A outer s H E hr=>by
  unfold fj;exact(aq (ay (eJ (Be (cI (BA hr)) cH (zu hr (aT 1) (yE af)) (yE (zu hr (aT 0) (yE af)))) (eG (Be (cI (BA hr)) cH (zu hr (aT 1) (yE af)) (yE (zu hr (aT 0) (yE af)))))))))) oW
def cO:(["tie"]:List Str).Nodup:=by decide +kernel
def RJ:av ["net"] ["net"] (ap ft):=Bd
def bJ(Y:Ev K mg):GQ P w base Y.A5 1 ba :=
 aW (bn Y.A5.F RJ (by decide) (λy6 A outer s H E hr=>by
  unfold cp;exact(aq (ay (DQ (uG (N:=["tie"]) (bi (zu hr (aT 0) (yE af))) (λ_ _ _ _ _=>aP (i:=0) cO rfl (Or.inl rfl)) (λ_ _ _ _ _=>fY) (λ_ _ _ _ _=>(zu hr (aT 0) (yE af))) (λ_ _ _ _ _=>(aT 0)))))))) jK
def jQ:(["tie", "net"]:List Str).Nodup:=by decide +kernel
def Oh:av ["net"] ["net"] (ap gZ):=Bd
def mV(Y:Ev K mg):GQ P w base Y.B0 2 dF :=
 aW (bn Y.B0.F Oh (by decide) (λy6 A outer s H E hr=>by
  unfold dy;exact(aq (ay (dg bz bA (by rfl) Y.zA aaQ (DV (ac (DQ (iT (N:=["tie", "net"]) (bi (zu hr (aT 0) (yE af))) (λ_ _ _ _ _=>aP (i:=0) jQ rfl (Or.inl rfl)) (λ_ _ _ _ _=>fX (bK (yE (yS (de Y) hr (ac (aT 1) (ac (aT 0) ag)))))) (λ_ _ _ _ _=>(zu hr (aT 0) (yE af))))) ag))))))) mQ
def N9:av ["net"] ["net"] (ap EH):=Bd
def ii(Y:Ev K mg):GQ P w base Y.EV 1 du :=
 aW (bn Y.EV.F N9 (by decide) (λy6 A outer s H E hr=>by
  unfold gR;exact(aq (ay (DQ (uG (N:=["tie"]) (bi (zu hr (aT 0) (yE af))) (λ_ _ _ _ _=>aP (i:=0) cO rfl (Or.inl rfl)) (λ_ _ _ _ _=>fY) (λ_ _ _ _ _=>(zu hr (aT 0) (yE af))) (λ_ _ _ _ _=>(aU (ac (zu hr (aT 0) (yE af)) (ac (zu hr (aT 0) (yE af)) ag)))))))))) rB
def Qy:av ["net", "names", "rank", "#t"] ["net", "names"] (ap fw):=Bd
def ia:Bk "name" "rank" {posonlyargs:=[],args:=[{arg := "name",annotation:=none,pos:=p}],vararg:=none,kwonlyargs:=[],kw_defaults:=[],kwarg:=none,defaults:=[]} {kind:=.function,names:=[("name",.local),("rank",.free)],isGenerator:=false,isCoroutine:=false,more:=[]} :=
 ⟨rfl,rfl,rfl,by decide,rfl,rfl,rfl,rfl,rfl,rfl,λ_ _ _ _ _ _ _=>rfl⟩
def ib:Bl "rank" {posonlyargs:=[],args:=[{arg := "name",annotation:=none,pos:=p}],vararg:=none,kwonlyargs:=[],kw_defaults:=[],kwarg:=none,defaults:=[]} {kind:=.function,names:=[("name",.local),("rank",.free)],isGenerator:=false,isCoroutine:=false,more:=[]} :=
 ⟨λ_=>rfl,λenv cell h=>by simp[adu,cellOf,h]⟩
def j5(Y:Ev K mg)(hB:BMain mg base):yG P w K mg base zB 2 Y.zy.f Y.zy.fd ["net", "names"] (spT ⟨P,w,K,zT K⟩ 2 (zF 3 (bO (Y.iF,Y.oF,Y.bY)))) :=
 cj (nm := "#t") Y.zy.F Qy rfl (by decide) rfl (by unfold Cy;decide +kernel) (λy6 BB A outer s H E hr=>by
  unfold bO;obtain⟨c,hc,hC⟩:=Y.Bj;have Cr:=BB.symm.trans hc;exact(ai (aB 2 Qy.nd rfl (Or.inr rfl) (yS (ii Y) hr (ac (aT 0) ag)))
  (aq (ay (uc 3 2 false ia ib hr rfl (by rfl) Y.IL (by rfl) Cr hC hB (by rfl) (by rfl) (Or.inr (Or.inl rfl)) (aT 1))))))
def ky(Y:Ev K mg)(hB:BMain mg base):yG P w K mg base zB 2 Y.zy.f Y.zy.fd ["net", "names"] (spT ⟨P,w,K,zT K⟩ 2 (cN (Y.iF,Y.oF,Y.bY))):=bX (j5 Y hB) (j7 _)
def Qx:av ["net", "names", "rank", "#t"] ["net", "names"] (ap gx):=Bd
def jd:Bk "name" "rank" {posonlyargs:=[],args:=[{arg := "name",annotation:=none,pos:=p}],vararg:=none,kwonlyargs:=[],kw_defaults:=[],kwarg:=none,defaults:=[]} {kind:=.function,names:=[("name",.local),("rank",.free)],isGenerator:=false,isCoroutine:=false,more:=[]} :=
 ⟨rfl,rfl,rfl,by decide,rfl,rfl,rfl,rfl,rfl,rfl,λ_ _ _ _ _ _ _=>rfl⟩
def je:Bl "rank" {posonlyargs:=[],args:=[{arg := "name",annotation:=none,pos:=p}],vararg:=none,kwonlyargs:=[],kw_defaults:=[],kwarg:=none,defaults:=[]} {kind:=.function,names:=[("name",.local),("rank",.free)],isGenerator:=false,isCoroutine:=false,more:=[]} :=
 ⟨λ_=>rfl,λenv cell h=>by simp[adu,cellOf,h]⟩
def lp(Y:Ev K mg)(hB:BMain mg base):yG P w K mg base zB 2 Y.zG.f Y.zG.fd ["net", "names"] (spT ⟨P,w,K,zT K⟩ 2 (zF 3 (bT (Y.iF,Y.oF,Y.bY)))) :=
 cj (nm := "#t") Y.zG.F Qx rfl (by decide) rfl (by unfold Cy;decide +kernel) (λy6 BB A outer s H E hr=>by
  unfold bT;obtain⟨c,hc,hC⟩:=Y.BD;have Cr:=BB.symm.trans hc;exact(ai (aB 2 Qx.nd rfl (Or.inr rfl) (yS (ii Y) hr (ac (aT 0) ag)))
  (aq (ay (ue 3 2 jd je hr rfl (by rfl) Y.Fn (by rfl) Cr hC hB (by rfl) (by rfl) (Or.inr (Or.inl rfl)) (aT 1))))))
def lP(Y:Ev K mg)(hB:BMain mg base):yG P w K mg base zB 2 Y.zG.f Y.zG.fd ["net", "names"] (spT ⟨P,w,K,zT K⟩ 2 (da (Y.iF,Y.oF,Y.bY))):=bX (lp Y hB) (lA _)
def mR:(["tie", "net", "side"]:List Str).Nodup:=by decide +kernel
def Ob:av ["net", "side"] ["net", "side"] (ap EI):=Bd
def qA(Y:Ev K mg):GQ P w base Y.EW 2 gJ :=
 aW (bn Y.EW.F Ob (by decide) (λy6 A outer s H E hr=>by
  unfold gh;exact(aq (ay (dg bz bA (by rfl) Y.zA aaQ (DV (ac (DQ (iT (N:=["tie", "net", "side"]) (bi (zu hr (aT 0) (yE af))) (λ_ _ _ _ _=>aP (i:=0) mR rfl (Or.inl rfl)) (λ_ _ _ _ _=>fX (lQ (ou (bK (yE (yS (de Y) hr (ac (aT 1) (ac (aT 0) ag))))) (lR (yV (gy (Al hr)) ed (Be (cI (BA hr)) cH (zu hr (aT 0) (yE af)) (yD 2)) (yE (Be (cI (BA hr)) cH (zu hr (aT 0) (yE af)) (yD 2)))))))) (λ_ _ _ _ _=>(zu hr (aT 0) (yE af))))) ag))))))) qo
def QA:av ["net", "names", "rank", "#t"] ["net", "names"] (ap dC):=Bd
def gB:Bk "name" "rank" {posonlyargs:=[],args:=[{arg := "name",annotation:=none,pos:=p}],vararg:=none,kwonlyargs:=[],kw_defaults:=[],kwarg:=none,defaults:=[]} {kind:=.function,names:=[("name",.local),("rank",.free)],isGenerator:=false,isCoroutine:=false,more:=[]} :=
 ⟨rfl,rfl,rfl,by decide,rfl,rfl,rfl,rfl,rfl,rfl,λ_ _ _ _ _ _ _=>rfl⟩
def gC:Bl "rank" {posonlyargs:=[],args:=[{arg := "name",annotation:=none,pos:=p}],vararg:=none,kwonlyargs:=[],kw_defaults:=[],kwarg:=none,defaults:=[]} {kind:=.function,names:=[("name",.local),("rank",.free)],isGenerator:=false,isCoroutine:=false,more:=[]} :=
 ⟨λ_=>rfl,λenv cell h=>by simp[adu,cellOf,h]⟩
def i8(Y:Ev K mg)(hB:BMain mg base):yG P w K mg base zB 2 Y.zd.f Y.zd.fd ["net", "names"] (spT ⟨P,w,K,zT K⟩ 2 (zF 3 (bC (Y.iF,Y.oF,Y.bY)))) :=
 cj (nm := "#t") Y.zd.F QA rfl (by decide) rfl (by unfold Cy;decide +kernel) (λy6 BB A outer s H E hr=>by
  unfold bC;obtain⟨c,hc,hC⟩:=Y.AU;have Cr:=BB.symm.trans hc;exact(ai (aB 2 QA.nd rfl (Or.inr rfl) (yS (ii Y) hr (ac (aT 0) ag)))
  (aq (ay (DQ (sv 3 2 gB gC hr (by rfl) Y.zN (by rfl) Cr hC hB (by rfl) (by rfl) (Or.inr (Or.inl rfl)) (aT 1)))))))
def ji(Y:Ev K mg)(hB:BMain mg base):yG P w K mg base zB 2 Y.zd.f Y.zd.fd ["net", "names"] (spT ⟨P,w,K,zT K⟩ 2 (ce (Y.iF,Y.oF,Y.bY))):=bX (i8 Y hB) (jc _)
def cK:(["place"]:List Str).Nodup:=by decide +kernel
def cJ:(["place", "word", "stays", "goes"]:List Str).Nodup:=by decide +kernel
def Hq:av ["net", "names", "named", "group", "kept", "name", "tie", "stays", "goes"] ["net", "names"] (ap dz):=Bd
def jg(Y:Ev K mg):GQ P w base Y.AD 2 b9 :=
 aW (bn Y.AD.F Hq (by decide) (λy6 A outer s H E hr=>by
  unfold b7;exact(ai (aB 2 Hq.nd rfl (Or.inl rfl) (yS (bJ Y) hr (ac (aT 0) ag)))
  (ai (uF 3 (N:=["place"]) Hq.nd rfl rfl (bi (zu hr (aT 0) (yE af))) (λ_ _ _ _ _=>aP (i:=0) cK rfl (Or.inl rfl)) (λ_ _ _ _ _=>fY) (λ_ _ _ _ _=>(aT 0)) (λ_ _ _ _ _=>(aT 0)))
  (ai (dP 4 Hq.nd rfl (Or.inl rfl) (dq ag))
  (ai (eD abr rfl (bi (aT 1)) (aZ 5 Hq.nd rfl (Or.inl rfl)) (ai (aB 6 Hq.nd rfl (Or.inl rfl) (zu hr (aT 2) (yD 5)))
  (ai (kG (aU (ac (Mz 3 hr (yE (zu hr (aT 6) (yE af)))) (ac (Mz 3 hr (yE (zu hr (aT 6) (yE af)))) ag))) (ip (n:=2) rfl (bx (aZ 7 Hq.nd rfl (Or.inr rfl)) (bx (aZ 8 Hq.nd rfl (Or.inr rfl)) fW)) (bM (bM ig))))
  (aq (aN (yV (gy (Al hr)) ed (aT 7) (yD 8)) (ai (dQ (yE (iR 4 abo abn bE cA (pv 4) (ac (aT 5) ag))))
  (aq (uF 3 (N:=["place", "word", "stays", "goes"]) Hq.nd rfl rfl (sx 3 (pv 3)) (λ_ _ _ _ _=>rn (n:=2) rfl (jI (aP (i:=0) cJ rfl (Or.inl rfl)) (jI (aP (i:=1) cJ rfl (Or.inl rfl)) pF))) (λ_ _ _ _ _=>fY) (λ_ _ _ _ _=>(aT 0)) (λ_ _ _ _ _=>(oj (yV (aR (AB hr)) aQ (aT 1) (yD 3)) (aT 2) (aT 1)))))) aG)))))
  (aq (ay (dg bz bA (by rfl) Y.zA aaQ (DV (ac (DQ (eF rfl (by rfl) Y.zN (e7 (yD 4)))) ag))))))))))) i9
def Of:av ["net", "#t"] ["net"] (ap g0):=Bd
def nk(Y:Ev K mg)(hB:BMain mg base):yG P w K mg base zB 3 Y.Ag.f Y.Ag.fd ["net"] (spT ⟨P,w,K,zT K⟩ 1 (zF 1 (cE (Y.iF,Y.oF,Y.bY)))) :=
 cj (nm := "#t") Y.Ag.F Of rfl (by decide) rfl (by unfold Cy;decide +kernel) (λy6 BB A outer s H E hr=>by
  unfold cE;exact(aq (ay (yS (jg Y) hr (ac (aT 0) (ac (zL 1 (ji Y hB) hr (ac (aT 0) (ac (yS (mV Y) hr (ac (aT 0) ag)) ag))) ag))))))
def eB(Y:Ev K mg)(hB:BMain mg base):yG P w K mg base zB 3 Y.Ag.f Y.Ag.fd ["net"] (spT ⟨P,w,K,zT K⟩ 1 (bS (Y.iF,Y.oF,Y.bY))):=bX (nk Y hB) (nJ _)
def N5:av ["net", "beside", "tie"] ["net"] (ap fu):=Bd
def fO(Y:Ev K mg):GQ P w base Y.A6 2 b0 :=
 aW (xP Y.A6.F N5 (by decide) (λy6 A outer s H E hr=>by
  unfold cP;exact(ai (qC 1 N5.nd rfl rfl (bi (zu hr (aT 0) (yE af))) (λ_ _ _ _ _=>aP (i:=0) cK rfl (Or.inl rfl)) (λ_ _ _ _ _=>pv 0))
  (ai (eD abr rfl (bi (zu hr (aT 0) (yE af))) (aZ 2 N5.nd rfl (Or.inl rfl)) (aq (aN (bK (yE (yS (de Y) hr (ac (aT 0) (ac (aT 2) ag))))) (ai (kF 1 (Ml hr) (pv 1) (zu hr (aT 2) (yE af)) (aU (ac (zu hr (aT 2) (yE af)) (ac (zu hr (aT 2) (yE af)) ag))))
  (aq (kF 1 (Ml hr) (pv 1) (zu hr (aT 2) (yE af)) (aU (ac (zu hr (aT 2) (yE af)) (ac (zu hr (aT 2) (yE af)) ag)))))) aG)))
  (aq (sn 1 (pv 1))))))) ly
def Ft:av ["beside", "start", "come", "ahead", "here", "name", "place"] ["beside", "start"] (ap li):=Bd
def jo(Y:Ev K mg):GQ P w base Y.DI 1 di :=
 aW (bn Y.DI.F Ft (by decide) (λy6 A outer s H E hr=>by
  unfold fq;exact(ai (dP 2 Ft.nd rfl (Or.inl rfl) (wb (De.cons (aT 1) ik De.nil)))
  (ai (dP 3 Ft.nd rfl (Or.inl rfl) (dq (ac (aT 1) ag)))
  (ai (oe abr (bK (yD 3)) (ai (aB 4 Ft.nd rfl (Or.inl rfl) (xT 3 PySem.F.slot_list_pop PySem.F.type_list_pop xo xp (pv 3)))
  (aq (eD abr rfl (bi (zu hr (aT 0) (yD 4))) (ip (n:=2) rfl (bx (aZ 5 Ft.nd rfl (Or.inl rfl)) (bx (aZ 6 Ft.nd rfl (Or.inl rfl)) fW)) (bM (bM ig))) (aq (aN (yV (fJ (BA hr)) fI (aT 6) (yD 2)) (ai (xQ 2 (Ml hr) (aU (ac (aT 5) (ac (aT 4) ag))) (pv 2) (aT 6))
  (aq (dQ (yE (iR 3 abo abn bE cA (pv 3) (ac (aT 6) ag)))))) aG))))))
  (aq (ay (aT 2)))))))) o0
def Od:av ["beside", "start"] ["beside", "start"] (ap jD):=Bd
def o9(Y:Ev K mg):GQ P w base Y.CK 2 fz :=
 aW (bn Y.CK.F Od (by decide) (λy6 A outer s H E hr=>by
  unfold fg;exact(aq (ay (dg bz bA (by rfl) Y.zA aaQ (DV (ac (DQ (eF rfl (by rfl) Y.zN (DV (ac (yS (jo Y) hr (ac (aT 0) (ac (aT 1) ag))) ag)))) ag))))))) oS
def o4:(["tie", "names"]:List Str).Nodup:=by decide +kernel
def N8:av ["net", "names"] ["net", "names"] (ap Gn):=Bd
def n6(Y:Ev K mg):GQ P w base Y.GS 1 gK :=
 aW (bn Y.GS.F N8 (by decide) (λy6 A outer s H E hr=>by
  unfold ju;exact(aq (ay (aU (ac (zu hr (aT 0) (yE af)) (ac (dg bz bA (by rfl) Y.zA aaQ (DV (ac (DQ (iT (N:=["tie", "names"]) (bi (zu hr (aT 0) (yE af))) (λ_ _ _ _ _=>aP (i:=0) o4 rfl (Or.inl rfl)) (λ_ _ _ _ _=>fX (yV (cI (BA hr)) cH (zu hr (aT 0) (yE af)) (yD 1))) (λ_ _ _ _ _=>(aT 0)))) ag))) ag))))))) tG
def Fs:av ["net", "forest", "one", "other", "come", "names", "here", "name"] ["net", "forest", "one", "other"] (ap Jk):=Bd
def vU(Y:Ev K mg):GQ P w base Y.J7 3 lX :=
 aW (bn Y.J7.F Fs (by decide) (λy6 A outer s H E hr=>by
  unfold kO;exact(ai (aB 4 Fs.nd rfl (Or.inl rfl) (yS (jo Y) hr (ac (yS (fO Y) hr (ac (yS (n6 Y) hr (ac (aT 0) (ac (aT 1) ag))) ag)) (ac (aT 3) ag))))
  (ai (aN (yV (fJ (BA hr)) fI (aT 2) (yD 4)) (aq (ay ik)) aG)
  (ai (dP 5 Fs.nd rfl (Or.inl rfl) (dq ag))
  (ai (aB 6 Fs.nd rfl (Or.inl rfl) (aT 2))
  (ai (oe abr (yV (gy (Al hr)) ed (aT 6) (yD 3)) (ai (kG (zu hr (aT 4) (yD 6)) (ip (n:=2) rfl (bx (aZ 7 Fs.nd rfl (Or.inl rfl)) (bx (aZ 6 Fs.nd rfl (Or.inl rfl)) fW)) (bM (bM ig))))
  (aq (dQ (yE (iR 5 abo abn bE cA (pv 5) (ac (aT 7) ag)))))))
  (aq (ay (dg bz bA (by rfl) Y.zA aaQ (e7 (yD 5)))))))))))) u9
def lF:(["name", "tie"]:List Str).Nodup:=by decide +kernel
def KY:av ["net", "tree", "tie", "others"] ["net", "tree", "tie"] (ap kY):=Bd
def o8(Y:Ev K mg):GQ P w base Y.DE 3 fy :=
 aW (bn Y.DE.F KY (by decide) (λy6 A outer s H E hr=>by
  unfold e9;exact(ai (sk 3 (N:=["name", "tie"]) KY.nd rfl rfl (bi (aT 1)) (λ_ _ _ _ _=>aP (i:=0) lF rfl (Or.inl rfl)) (λ_ _ _ _ _=>fX (yV (gy (Al hr)) ed (aT 0) (yE (zu hr (aT 1) (yE af))))) (λ_ _ _ _ _=>(aT 0)))
  (aq (ay (yS (o9 Y) hr (ac (yS (fO Y) hr (ac (yS (n6 Y) hr (ac (aT 0) (ac (aT 3) ag))) ag)) (ac (zu hr (aT 2) (yE af)) ag)))))))) oQ
def Qz:av ["net", "name", "other", "cost"] ["net", "name", "other"] (ap dB):=Bd
def dG(Y:Ev K mg):GQ P w base Y.AE 2 bD :=
 aW (bn Y.AE.F Qz (by decide) (λy6 A outer s H E hr=>by
  unfold b8;exact(ai (aB 3 Qz.nd rfl (Or.inl rfl) (zu hr (zu hr (yS (bJ Y) hr (ac (aT 0) ag)) (yD 2)) (yE af)))
  (aq (ay (oj (yV qr nL (aT 1) (yD 2)) (aT 3) (bQ (aT 3) (yE af)))))))) jb
def gz:(["each", "name"]:List Str).Nodup:=by decide +kernel
def Ng:av ["net", "tree", "tie", "name", "others", "other", "#t"] ["net", "tree", "tie"] (ap dA):=Bd
def i7(Y:Ev K mg)(hB:BMain mg base):yG P w K mg base zB 4 Y.zo.f Y.zo.fd ["net", "tree", "tie"] (spT ⟨P,w,K,zT K⟩ 3 (zF 6 (bB (Y.iF,Y.oF,Y.bY)))) :=
 cj (nm := "#t") Y.zo.F Ng rfl (by decide) rfl (by unfold Cy;decide +kernel) (λy6 BB A outer s H E hr=>by
  unfold bB;exact(ai (aB 3 Ng.nd rfl (Or.inr rfl) (zu hr (aT 2) (yE af)))
  (ai (sk 4 (N:=["each", "name"]) Ng.nd rfl rfl (bi (yS (qA Y) hr (ac (aT 0) (ac (yS (o8 Y) hr (ac (aT 0) (ac (aT 1) (ac (aT 2) ag)))) ag)))) (λ_ _ _ _ _=>aP (i:=0) gz rfl (Or.inl rfl)) (λ_ _ _ _ _=>fX (yV (gy (Al hr)) ed (aT 0) (yD 1))) (λ_ _ _ _ _=>(aT 0)))
  (ai (aN (cL (bK (yD 4))) (aq (ay (aU (ac bb (ac ik (ac ik ag)))))) aG)
  (ai (aB 5 Ng.nd rfl (Or.inl rfl) (zL 6 (ky Y hB) hr (ac (aT 0) (ac (aT 4) ag))))
  (aq (ay (aU (ac bb (ac (yS (dG Y) hr (ac (aT 0) (ac (aT 3) (ac (aT 5) ag)))) (ac (aT 5) ag)))))))))))
def jh(Y:Ev K mg)(hB:BMain mg base):yG P w K mg base zB 4 Y.zo.f Y.zo.fd ["net", "tree", "tie"] (spT ⟨P,w,K,zT K⟩ 3 (cb (Y.iF,Y.oF,Y.bY))):=bX (i7 Y hB) (ja _)
def QB:av ["net", "tree", "tie", "other", "#t"] ["net", "tree", "tie"] (ap cR):=Bd
def hE(Y:Ev K mg)(hB:BMain mg base):yG P w K mg base zB 4 Y.zg.f Y.zg.fd ["net", "tree", "tie"] (spT ⟨P,w,K,zT K⟩ 3 (zF 4 (bq (Y.iF,Y.oF,Y.bY)))) :=
 cj (nm := "#t") Y.zg.F QB rfl (by decide) rfl (by unfold Cy;decide +kernel) (λy6 BB A outer s H E hr=>by
  unfold bq;exact(ai (aB 3 QB.nd rfl (Or.inl rfl) (zL 4 (lP Y hB) hr (ac (aT 0) (ac (yS (vU Y) hr (ac (aT 0) (ac (aT 1) (ac (zu hr (aT 2) (yE af)) (ac (zu hr (aT 2) (yE af)) ag))))) ag))))
  (aq (ay (aU (ac bb (ac (yS (dG Y) hr (ac (aT 0) (ac (zu hr (aT 2) (yE af)) (ac (aT 3) ag)))) (ac (aT 3) ag))))))))
def ij(Y:Ev K mg)(hB:BMain mg base):yG P w K mg base zB 4 Y.zg.f Y.zg.fd ["net", "tree", "tie"] (spT ⟨P,w,K,zT K⟩ 3 (bR (Y.iF,Y.oF,Y.bY))):=bX (hE Y hB) (hV _)
def Ho:av ["net", "name", "named", "tie", "tree", "#t"] ["net", "name"] (ap kZ):=Bd
def qk(Y:Ev K mg)(hB:BMain mg base):yG P w K mg base zB 5 Y.Bb.f Y.Bb.fd ["net", "name"] (spT ⟨P,w,K,zT K⟩ 2 (zF 5 (dH (Y.iF,Y.oF,Y.bY)))) :=
 cj (nm := "#t") Y.Bb.F Ho rfl (by decide) rfl (by unfold Cy;decide +kernel) (λy6 BB A outer s H E hr=>by
  unfold dH;exact(ai (aB 2 Ho.nd rfl (Or.inl rfl) (yS (bJ Y) hr (ac (aT 0) ag)))
  (ai (aN (yV (fJ (BA hr)) fI (aT 1) (yD 2)) (aq oh) aG)
  (ai (aB 3 Ho.nd rfl (Or.inl rfl) (zu hr (aT 2) (yD 1)))
  (ai (aN (cL (bK (yE (yS (de Y) hr (ac (aT 0) (ac (aT 3) ag)))))) (aq (ay (aU (ac bb ag)))) aG)
  (ai (aB 4 Ho.nd rfl (Or.inl rfl) (zL 5 (eB Y hB) hr (ac (aT 0) ag)))
  (ai (aN (yV (cI (BA hr)) cH (aT 1) (yD 4)) (aq (ay (zL 5 (jh Y hB) hr (ac (aT 0) (ac (aT 4) (ac (aT 3) ag)))))) aG)
  (aq (ay (zL 5 (ij Y hB) hr (ac (aT 0) (ac (aT 4) (ac (aT 3) ag)))))))))))))
def qB(Y:Ev K mg)(hB:BMain mg base):yG P w K mg base zB 5 Y.Bb.f Y.Bb.fd ["net", "name"] (spT ⟨P,w,K,zT K⟩ 2 (gL (Y.iF,Y.oF,Y.bY))):=bX (qk Y hB) (qp _)
def KZ:av ["thing", "rest"] ["thing"] (ap lf):=Bd
def pc(Y:Ev K mg):GQ P w base Y.DH 2 fA :=
 aW (bn Y.DH.F KZ (by decide) (λy6 A outer s H E hr=>by
  unfold fm;exact(ai (aN (lQ (kK (cL (bK (yE (kH "tuple" (by decide) Y.zO Y.zA aaQ (yD 0))))) (kK (yV qr nL (dI f7 f8 (by rfl) Y.Ci acf (e7 (yD 0))) (yE af)) (kK (cL (bK (yE (yS (jn Y) hr (ac (zu hr (aT 0) (yE af)) ag))))) (oq (cL (bK (yE (yS (jn Y) hr (ac (zu hr (aT 0) (yE af)) ag)))))))))) (aq (ay kI)) aG)
  (ai (aB 1 KZ.nd rfl (Or.inl rfl) (iQ (aT 0) (dR (yE af)) dS))
  (ai (aN (yV (aR (AB hr)) aQ (zu hr (aT 0) (yE af)) (yE bb)) (aq (ay (yS (fQ Y) hr (ac (aT 1) ag)))) aG)
  (ai (aN (yV (aR (AB hr)) aQ (zu hr (aT 0) (yE af)) (yE bb)) (aq (ay (eJ (Be (aR (AB hr)) aQ (dI f7 f8 (by rfl) Y.Ci acf (e7 (yD 1))) (yE af)) (eG (yS (n8 Y) hr (ac (zu hr (aT 1) (yE af)) ag)))))) aG)
  (aq (ay (eJ (Be (cI (BA hr)) cH (zu hr (aT 0) (yE af)) (yE (aU (ac bb (ac bb (ac bb ag)))))) (eG (Be (aR (AB hr)) aQ (dI f7 f8 (by rfl) Y.Ci acf (e7 (yD 1))) (yE af)))))))))))) oY
def jP:(["tie", "name", "cost"]:List Str).Nodup:=by decide +kernel
def N4:av ["net", "deed", "name", "cost"] ["net", "deed"] (ap gX):=Bd
def mT(Y:Ev K mg):GQ P w base Y.zV 2 cm :=
 aW (bn Y.zV.F N4 (by decide) (λy6 A outer s H E hr=>by
  unfold dw;exact(ai (kG (iQ (aT 1) (dR (yE af)) dS) (ip (n:=2) rfl (bx (aZ 2 N4.nd rfl (Or.inr rfl)) (bx (aZ 3 N4.nd rfl (Or.inr rfl)) fW)) (bM (bM ig))))
  (ai (aN (yV (fJ (BA hr)) fI (aT 2) (yE (yS (bJ Y) hr (ac (aT 0) ag)))) (aq oh) aG)
  (aq (ay (aU (ac (zu hr (aT 0) (yE af)) (ac (dg bz bA (by rfl) Y.zA aaQ (DV (ac (DQ (iT (N:=["tie", "name", "cost"]) (bi (zu hr (aT 0) (yE af))) (λ_ _ _ _ _=>aP (i:=0) jP rfl (Or.inl rfl)) (λ_ _ _ _ _=>fY) (λ_ _ _ _ _=>(oj (yV (aR (AB hr)) aQ (zu hr (aT 0) (yE af)) (yD 1)) (aK (iQ (aT 0) dS (dR (yE af))) (yE (aU (ac (aT 2) ag)))) (aT 0))))) ag))) ag))))))))) mP
def K0:av ["net", "deed", "done"] ["net", "deed"] (ap jF):=Bd
def pd(Y:Ev K mg):GQ P w base Y.CM 3 fB :=
 aW (bn Y.CM.F K0 (by decide) (λy6 A outer s H E hr=>by
  unfold fo;exact(ai (aN (cL (bK (yE (yS (pc Y) hr (ac (aT 1) ag))))) (aq oh) aG)
  (t9 2 (k:=2) (T:=[("place",Y.zx.f,cM),("leave",Y.zl.f,cy),("tie",Y.zW.f,dE),("untie",Y.Ap.f,eR),("cost",Y.zV.f,cm)]) K0.nd rfl (Or.inl rfl) (by rfl) Y.Dr.mg Y.Dr.tab (List.forall_mem_cons.mpr ⟨⟨_,_,yG.mono (ku Y) (by decide),Y.zx.n.kp,Y.zx.b⟩,(List.forall_mem_cons.mpr ⟨⟨_,_,yG.mono (jV Y) (by decide),Y.zl.n.kp,Y.zl.b⟩,(List.forall_mem_cons.mpr ⟨⟨_,_,yG.mono (mU Y) (by decide),Y.zW.n.kp,Y.zW.b⟩,(List.forall_mem_cons.mpr ⟨⟨_,_,yG.mono (n5 Y) (by decide),Y.Ap.n.kp,Y.Ap.b⟩,(List.forall_mem_cons.mpr ⟨⟨_,_,yG.mono (mT Y) (by decide),Y.zV.n.kp,Y.zV.b⟩,(λ_ hq=>(nomatch hq))⟩)⟩)⟩)⟩)⟩) (hr.mono (by decide)) (zu hr (aT 1) (yE af)) (λ_ _=>rfl) (pv 2) (ac (aT 0) (ac (aT 1) ag)))))) oZ
def Dp:av ["_law_state", "_law_many", "_law_letters", "_law_base", "_law_size", "_law_at_here", "_law_first", "_law_found", "_law_k", "_law_two"] ["_law_state", "_law_many"] (ap EF):=Bd
def mz(Y:Ev K mg):GO P w base Y.EU 2 e8 :=
 iP (kD Y.EU.F Dp (by decide) (λy6 A outer s H E hr=>by
  unfold gS;exact(ai (aB 2 Dp.nd rfl (Or.inl rfl) bb)
  (ai (aB 3 Dp.nd rfl (Or.inl rfl) (zu hr (aT 2) (yE (yU 0 (aI Y) hr (ac af ag)))))
  (ai (aB 4 Dp.nd rfl (Or.inl rfl) (yU 0 (aI Y) hr (ac af ag)))
  (ai (aB 5 Dp.nd rfl (Or.inl rfl) (yU 0 (aI Y) hr (ac (aK (aT 4) (yE af)) ag)))
  (ai (aB 6 Dp.nd rfl (Or.inl rfl) (yU 0 (aI Y) hr (ac af ag)))
  (ai (dP 7 Dp.nd rfl (Or.inl rfl) (dq ag))
  (ai (eD abr rfl (io (by rfl) Y.BG (ac (aT 1) ag)) (aZ 8 Dp.nd rfl (Or.inl rfl)) (ai (aB 9 Dp.nd rfl (Or.inl rfl) (aK (zu hr (aT 2) (yE (fU (aK (aT 6) (yE (fT af (yD 8)))) (yE af)))) (yE (zu hr (aT 2) (yE (fU (aK (aT 6) (yE (sw (aT 8) (yE af)))) (yE af)))))))
  (aq (aN (lQ (ou (yV qr nL (aT 1) (yE af)) (lR (yV (aR (AB hr)) aQ (aT 4) (yE af))))) (aq (dQ (yE (iR 7 abo abn bE cA (pv 7) (ac (fT (aT 3) (yE (aK (aT 8) (yE af)))) ag))))) (aq (dQ (yE (iR 7 abo abn bE cA (pv 7) (ac (aK (aK (fT (aT 3) (yD 5)) (yD 9)) (yE (fT (aT 3) (yE (bQ (aT 4) (yD 5)))))) ag)))))))))
  (aq (ay (aT 7)))))))))))) rC
def N7:av ["_law_state", "_law_sort"] ["_law_state", "_law_sort"] (ap Gr):=Bd
def t7(Y:Ev K mg):GO P w base Y.GV 2 jY :=
 iP (kD Y.GV.F N7 (by decide) (λy6 A outer s H E hr=>by
  unfold jw;exact(ai (aN (yV (aR (AB hr)) aQ (aT 1) (yE af)) (aq (ay af)) aG)
  (ai (aN (yV (aR (AB hr)) aQ (aT 1) (yE af)) (aq (ay (bQ (yU 0 (aI Y) hr (ac af ag)) (yE af)))) aG)
  (ai (aN (yV (aR (AB hr)) aQ (aT 1) (yE af)) (aq (ay (bQ (yU 0 (aI Y) hr (ac af ag)) (yE af)))) aG)
  (aq (ay (zu hr (DQ (dq (ac (bQ (fS af (yE af)) (yE af)) (ac (bQ af (yE (fS af (yE af)))) (ac af (ac (yU 0 (aI Y) hr (ac (fS af (yE af)) ag)) ag)))))) (yE (yU 0 (aI Y) hr (ac af ag))))))))))) tI
def Gb:av ["_law_state", "_law_family", "_law_many", "_law_k", "_law_half", "_law_side", "_law_one"] ["_law_state", "_law_family", "_law_many", "_law_k"] (ap Gp):=Bd
def t6(Y:Ev K mg):GO P w base Y.GU 2 jX :=
 iP (kD Y.GU.F Gb (by decide) (λy6 A outer s H E hr=>by
  unfold jv;exact(ai (aN (yV (aR (AB hr)) aQ (aT 1) (yE af)) (aq (ay (aU (ac (fU (aT 3) (yD 2)) (ac (fU (aK (aT 3) (yE af)) (yD 2)) ag))))) aG)
  (ai (aN (yV (aR (AB hr)) aQ (aT 1) (yE af)) (aq (ay (aU (ac af (ac (aK af (yE (yU 0 (aI Y) hr (ac (bQ (aT 2) (yE af)) ag)))) ag))))) aG)
  (ai (aN (lQ (ou (yV (aR (AB hr)) aQ (aT 1) (yE af)) (lR (yV yi xc (aT 2) (yE af))))) (ai (aB 4 Gb.nd rfl (Or.inl rfl) (sw (aT 2) (yE af)))
  (ai (aB 5 Gb.nd rfl (Or.inl rfl) (yU 0 (aI Y) hr (ac af ag)))
  (ai (aB 6 Gb.nd rfl (Or.inl rfl) (yU 0 (aI Y) hr (ac (aT 4) ag)))
  (aq (ay (aU (ac (aK (fT (aT 5) (yD 4)) (yD 6)) (ac (aK (fT (aT 5) (yD 4)) (yE (fU (aK (aK (aT 6) (yE af)) (yE (yU 0 (aI Y) hr (ac (bQ (aT 4) (yE af)) ag)))) (yD 4)))) ag)))))))) aG)
  (ai (aB 6 Gb.nd rfl (Or.inl rfl) (yU 0 (aI Y) hr (ac (aT 2) ag)))
  (aq (ay (aU (ac (aT 6) (ac (fU (aK (aK (aT 6) (yE af)) (yE (yU 0 (aI Y) hr (ac (bQ (aT 2) (yE af)) ag)))) (yD 2)) ag))))))))))) tH
def Cm:av ["_law_state", "_law_most", "_law_ties_most", "_law_many", "_law_words_here", "_law_pool", "_law_count", "_law_names", "_law_family", "_law_sort", "_law_ties", "_law_k", "_law_one", "_law_other", "_law_two"] ["_law_state", "_law_most", "_law_ties_most"] (ap Jm):=Bd
def vV(Y:Ev K mg):GO P w base Y.J8 3 lY :=
 iP (kD Y.J8.F Cm (by decide) (λy6 A outer s H E hr=>by
  unfold kQ;exact(ai (aB 3 Cm.nd rfl (Or.inl rfl) (yU 0 (aI Y) hr (ac (aK (aT 1) (yE af)) ag)))
  (ai (aB 4 Cm.nd rfl (Or.inl rfl) (yU 0 (mz Y) hr (ac (aK (aT 3) (yE af)) ag)))
  (ai (aB 5 Cm.nd rfl (Or.inl rfl) (iQ (aT 4) dS (dR (yE (dI (xY rfl) x3 (by rfl) Y.Fn PyProof.Rows.boot_max (DV (ac af (ac (aK (aT 3) (yE (yU 0 (aI Y) hr (ac af ag)))) ag))))))))
  (ai (aB 6 Cm.nd rfl (Or.inl rfl) (yU 0 (aI Y) hr (ac (aK (aT 2) (yE af)) ag)))
  (ai (aB 7 Cm.nd rfl (Or.inl rfl) (yU 0 (mz Y) hr (ac (aT 6) ag)))
  (ai (og 8 9 rfl Cm.nd rfl rfl (by decide) rfl rfl (ac (yU 0 (aI Y) hr (ac af ag)) (ac (yU 0 (aI Y) hr (ac af ag)) ag)) rfl)
  (ai (dP 10 Cm.nd rfl (Or.inl rfl) (dq ag))
  (ai (eD abr rfl (io (by rfl) Y.BG (ac (aT 6) ag)) (aZ 11 Cm.nd rfl (Or.inl rfl)) (ai (kG (yU 0 (t6 Y) hr (ac (aT 8) (ac (dI f7 f8 (by rfl) Y.Ci acf (e7 (yD 5))) (ac (aT 11) ag)))) (ip (n:=2) rfl (bx (aZ 12 Cm.nd rfl (Or.inl rfl)) (bx (aZ 13 Cm.nd rfl (Or.inl rfl)) fW)) (bM (bM ig))))
  (ai (aB 14 Cm.nd rfl (Or.inl rfl) (DQ (eF rfl (by rfl) Y.zN (DV (ac (DQ (dq (ac (zu hr (aT 5) (yD 12)) (ac (zu hr (aT 5) (yD 13)) ag)))) ag)))))
  (aq (dQ (yE (iR 10 abo abn bE cA (pv 10) (ac (aU (ac (zu hr (aT 7) (yD 11)) (ac (zu hr (aT 14) (yE af)) (ac (zu hr (aT 14) (yE af)) (ac (yU 0 (t7 Y) hr (ac (aT 9) ag)) ag))))) ag))))))))
  (aq (ay (aU (ac (dg bz bA (by rfl) Y.zA aaQ (DV (ac (DQ (eF rfl (by rfl) Y.zN (DV (ac (iQ (aT 4) dS (dR (yD 3))) ag)))) ag))) (ac (dg bz bA (by rfl) Y.zA aaQ (DV (ac (DQ (ub (by rfl) Y.zN (e7 (yD 10)))) ag))) ag))))))))))))))) vb
def N6:av ["_law_net_here", "_law_name", "_law_cost_here", "#t"] ["_law_net_here", "_law_name", "_law_cost_here"] (ap OH):=Bd
def wO(Y:Ev K mg)(hB:BMain mg base):yG P w K mg base zB 4 Y.KP.f Y.KP.fd ["_law_net_here", "_law_name", "_law_cost_here"] (spT ⟨P,w,K,zT K⟩ 3 (zF 3 (jZ (Y.iF,Y.oF,Y.bY)))) :=
 cj (nm := "#t") Y.KP.F N6 rfl (by decide) rfl (by unfold Cy;decide +kernel) (λy6 BB A outer s H E hr=>by
  unfold jZ;exact(aq (ay (zL 3 (eB Y hB) hr (ac (yS (pd Y) hr (ac (aT 0) (ac (aU (ac bb (ac (aT 1) (ac (aT 2) ag)))) ag))) ag)))))
def kC(Y:Ev K mg)(hB:BMain mg base):yG P w K mg base zB 4 Y.KP.f Y.KP.fd ["_law_net_here", "_law_name", "_law_cost_here"] (spT ⟨P,w,K,zT K⟩ 3 (gc (Y.iF,Y.oF,Y.bY))):=bX (wO Y hB) (xa _)
def mS:(["_law_one", "_law_name"]:List Str).Nodup:=by decide +kernel
def Oa:av ["_law_tree", "_law_name", "_law_other"] ["_law_tree", "_law_name", "_law_other"] (ap kX):=Bd
def kA(Y:Ev K mg):GQ P w base Y.DD 1 dJ :=
 aW (bn Y.DD.F Oa (by decide) (λy6 A outer s H E hr=>by
  unfold gj;exact(aq (ay (dg bz bA (by rfl) Y.zA aaQ (DV (ac (DQ (eF rfl (by rfl) Y.zN (DV (ac (aK (DQ (iT (N:=["_law_one", "_law_name"]) (bi (aT 0)) (λ_ _ _ _ _=>aP (i:=0) mS rfl (Or.inl rfl)) (λ_ _ _ _ _=>fX (yV (gy (Al hr)) ed (aT 0) (yD 1))) (λ_ _ _ _ _=>(aT 0)))) (yE (DQ (dq (ac (aT 2) ag))))) ag)))) ag))))))) qq
def Hn:av ["_law_net_here", "_law_tree", "_law_name", "_law_told", "_law_below", "_law_above", "#t"] ["_law_net_here", "_law_tree", "_law_name"] (ap EG):=Bd
def rh(Y:Ev K mg)(hB:BMain mg base):yG P w K mg base zB 6 Y.BZ.f Y.BZ.fd ["_law_net_here", "_law_tree", "_law_name"] (spT ⟨P,w,K,zT K⟩ 3 (zF 6 (eU (Y.iF,Y.oF,Y.bY)))) :=
 cj (nm := "#t") Y.BZ.F Hn rfl (by decide) rfl (by unfold Cy;decide +kernel) (λy6 BB A outer s H E hr=>by
  unfold eU;exact(ai (aB 3 Hn.nd rfl (Or.inl rfl) (zL 6 (qB Y hB) hr (ac (aT 0) (ac (aT 2) ag))))
  (ai (aN (yV (aR (AB hr)) aQ (zu hr (aT 3) (yE af)) (yE bb)) (aq (ay (eJ (Be (fJ (BA hr)) fI (aT 2) (yD 1)) (eG (Be (aR (AB hr)) aQ (zL 6 (kC Y hB) hr (ac (aT 0) (ac (aT 2) (ac (bQ af (yE (fS af (yE af)))) ag)))) (yD 1)))))) aG)
  (ai (aN (yV ye xb (zu hr (aT 3) (yE af)) (yE ik)) (aq (ay (eJ (Be (aR (AB hr)) aQ (zu hr (aT 3) (yE af)) (yE bb)) (eJ (Be (cI (BA hr)) cH (aT 2) (yD 1)) (eG (Be (aR (AB hr)) aQ (zL 6 (kC Y hB) hr (ac (aT 0) (ac (aT 2) (ac (bQ (fS af (yE af)) (yE af)) ag)))) (yD 1))))))) aG)
  (ai (og 4 5 rfl Hn.nd rfl rfl (by decide) rfl rfl (ac (aT 1) (ac (yS (kA Y) hr (ac (aT 1) (ac (aT 2) (ac (zu hr (aT 3) (yE af)) ag)))) ag)) rfl)
  (ai (aN (yV (aR (AB hr)) aQ (zu hr (aT 3) (yE af)) (yE bb)) (aq (og 4 5 rfl Hn.nd rfl rfl (by decide) rfl rfl (ac (yS (kA Y) hr (ac (aT 1) (ac (zu hr (aT 3) (yE af)) (ac (aT 2) ag)))) (ac (aT 1) ag)) rfl)) aG)
  (ai (aN (lQ (kK (yV (gy (Al hr)) ed (Be (cI (BA hr)) cH (aT 2) (yD 1)) (yE (Be (aR (AB hr)) aQ (zu hr (aT 3) (yE af)) (yE bb)))) (oq (yV (xi (AB hr)) ve (zL 6 (kC Y hB) hr (ac (aT 0) (ac (aT 2) (ac (zu hr (aT 3) (yE af)) ag)))) (yD 4))))) (aq (ay kI)) aG)
  (aq (ay (ym (Be uC xf (dI jW x5 (by rfl) Y.GY ado (DV (ac (aK (zu hr (aT 3) (yE af)) (yE af)) ag))) (yE (fS af (yE af)))) (eG (Be (aR (AB hr)) aQ (zL 6 (kC Y hB) hr (ac (aT 0) (ac (aT 2) (ac (aK (zu hr (aT 3) (yE af)) (yE af)) ag)))) (yD 5)))))))))))))
def sh(Y:Ev K mg)(hB:BMain mg base):yG P w K mg base zB 6 Y.BZ.f Y.BZ.fd ["_law_net_here", "_law_tree", "_law_name"] (spT ⟨P,w,K,zT K⟩ 3 (iy (Y.iF,Y.oF,Y.bY))):=bX (rh Y hB) (rD _)
def Fq:av ["_law_script", "_law_state", "_law_turn", "_law_net_here", "_law_tree", "_law_tie", "#t"] ["_law_script"] (ap Jn):=Bd
def uV(Y:Ev K mg)(hB:BMain mg base):yG P w K mg base zB 7 Y.EX.f Y.EX.fd ["_law_script"] (spT ⟨P,w,K,zT K⟩ 1 (zF 6 (iA (Y.iF,Y.oF,Y.bY)))) :=
 cj (nm := "#t") Y.EX.F Fq rfl (by decide) rfl (by unfold Cy;decide +kernel) (λy6 BB A outer s H E hr=>by
  unfold iA;exact(ai (su 1 0 Fq.nd rfl (Or.inl rfl) (si Y) (hr.mono (by decide)) Y.Bq.n.mg Y.Bq.n.kp Y.Bq.b (pv 0))
  (ai (eD abr rfl (io (by rfl) Y.BG (ac (aK af (yE (dI f7 f8 (by rfl) Y.Ci acf (DV (ac (iQ (aT 0) dS (dR (yE af))) ag))))) ag)) (aZ 2 Fq.nd rfl (Or.inl rfl)) (ai (aB 3 Fq.nd rfl (Or.inl rfl) (yU 1 (vV Y) hr (ac af (ac af ag))))
  (ai (aB 4 Fq.nd rfl (Or.inl rfl) (zL 6 (eB Y hB) hr (ac (aT 3) ag)))
  (aq (eD abr rfl (bi (zu hr (aT 3) (yE af))) (aZ 5 Fq.nd rfl (Or.inl rfl)) (aq (aN (cL (bK (yE (zL 6 (sh Y hB) hr (ac (aT 3) (ac (aT 4) (ac (zu hr (aT 5) (yE af)) ag))))))) (aq (ay kI)) aG)))))))
  (aq (ay kI)))))
def xm(Y:Ev K mg)(hB:BMain mg base):yG P w K mg base zB 7 Y.EX.f Y.EX.fd ["_law_script"] (Cz K (Y.iF,Y.oF,Y.bY)):=vN (uV Y hB) (vc _)
open PySem L2
variable{fd:abl}{ps:List Str}
def RG(us:List Value)(h:us.length=1)(k:∀a0,acA fd ⟨[a0],[]⟩=pure (ps.zip [a0])):acA fd ⟨us,[]⟩=pure (ps.zip us):=by obtain⟨a0,u0,rfl⟩:=aaw (h);obtain rfl:=List.length_eq_zero_iff.mp (aaW (h));exact k a0
def Uo(us:List Value)(h:us.length=2)(k:∀a0 a1,acA fd ⟨[a0,a1],[]⟩=pure (ps.zip [a0,a1])):acA fd ⟨us,[]⟩=pure (ps.zip us):=by obtain⟨a0,u0,rfl⟩:=aaw (h);obtain⟨a1,u1,rfl⟩:=aaw (aaW (h));obtain rfl:=List.length_eq_zero_iff.mp (aaW (aaW (h)));exact k a0 a1
def Um(us:List Value)(h:us.length=3)(k:∀a0 a1 a2,acA fd ⟨[a0,a1,a2],[]⟩=pure (ps.zip [a0,a1,a2])):acA fd ⟨us,[]⟩=pure (ps.zip us):=by obtain⟨a0,u0,rfl⟩:=aaw (h);obtain⟨a1,u1,rfl⟩:=aaw (aaW (h));obtain⟨a2,u2,rfl⟩:=aaw (aaW (aaW (h)));obtain rfl:=List.length_eq_zero_iff.mp (aaW (aaW (aaW (h))));exact k a0 a1 a2
def Ul(us:List Value)(h:us.length=4)(k:∀a0 a1 a2 a3,acA fd ⟨[a0,a1,a2,a3],[]⟩=pure (ps.zip [a0,a1,a2,a3])):acA fd ⟨us,[]⟩=pure (ps.zip us):=by obtain⟨a0,u0,rfl⟩:=aaw (h);obtain⟨a1,u1,rfl⟩:=aaw (aaW (h));obtain⟨a2,u2,rfl⟩:=aaw (aaW (aaW (h)));obtain⟨a3,u3,rfl⟩:=aaw (aaW (aaW (aaW (h))));obtain rfl:=List.length_eq_zero_iff.mp (aaW (aaW (aaW (aaW (h)))));exact k a0 a1 a2 a3
structure zj(K:aaf)(x:Str)(st:Stmt) where
 {f:Addr}
 {od an:Option Addr}
 {sl:Array (Option Value)}
 {oc kV dc pm cd ct:Value}
 a:abh K aaJ x=some (some (.ref f))
 l:K.lookup f=some ⟨oc,od,.func (acj x x (dU st) (bp st) (ap st) .none kV dc pm an cd ct),sl⟩
 c:adz K cd x=true
 k:abx K (.ref f)=true
variable{K:aaf}{h:Heap}{mg:Str->Option Value}{x:Str}{st:Stmt}
def zf(X:K.In h)(G:h.Ns aaJ mg)(d:zj K x st)
  (hb:∀(kV doc pm:Value) (an:Option Addr) (y6 ct:Value) (us:List Value),us.length=ps.length->acA (acj x x (dU st) (bp st) (ap st) .none kV doc pm an y6 ct) ⟨us,[]⟩=pure (ps.zip us):=by (intro _ _ _ _ _ _ us hl;first|exact RG us hl λ_=>rfl|exact Uo us hl λ_ _=>rfl|exact Um us hl λ_ _ _=>rfl|exact Ul us hl λ_ _ _ _=>rfl)):Df K mg x st ps :=
 ⟨d.f,_,sj d.l d.c d.k,(sj d.l d.c d.k).binds hb,adI X G d.a,d.k⟩
structure MY(K:aaf)(x:Str)(D:List (Str×Addr)) where
 {a:Addr}
 {es:Array DictEntry}
 {ep:Nat}
 n:abh K aaJ x=some (some (.ref a))
 l:K.lookup a=some ⟨.type "dict",none,.dict es ep,#[]⟩
 ne:(a==abW)=false
 r:PyProof.Rows.KTD.Rows (λ(f:Addr) v=>v=aa0 f) es.toList D
def O0(X:K.In h)(G:h.Ns aaJ mg){D:List (Str×Addr)}(d:MY K x D):TabAt K mg x D :=
 ⟨d.a,adI X G d.n,λ_ X'=>⟨d.ne,_,d.es,d.ep,X' _ _ d.l,⟨rfl,rfl,rfl⟩,rfl,d.r⟩⟩
def x8{l:aeo}{w:World}{fa c1 T1 c2 T2 c3 T3:Addr}{RU:Tok}(X:K.In h)(G:h.Ns aaJ mg)(S7:mg "law" = some (.ref fa))
  (d1:zj K "is_word" la) (d2:zj K "is_whole" jE) (d3:zj K "is_open" lb) (d4:zj K "ties_by_name" ft) (d5:zj K "open_ties" gZ) (d6:zj K "ranks" EH) (d7:zj K "cheapest_of" fw) (d8:zj K "dearest_of" gx) (d9:zj K "out_of" EI) (RC:zj K "cheaper_first" dC) (Ui:zj K "without_round" dz) (Uh:zj K "cheapest" g0) (Ug:zj K "neighbours" fu) (Ue:zj K "came_by" li) (Ud:zj K "reached" jD) (Uc:zj K "only" Gn) (Ub:zj K "way" Jk) (Ua:zj K "side_of" kY) (T9:zj K "greatest_cost" dB) (T8:zj K "margin_within" dA) (T7:zj K "margin_without" cR) (T6:zj K "margin" kZ) (T5:zj K "are_ends_and_cost" eY) (T4:zj K "is_deed" lf) (RB:zj K "place_comes" jk) (RA:zj K "place_leaves" gY) (Rz:zj K "tie_comes" mo) (Ry:zj K "tie_goes" m8) (Rx:zj K "tie_costs" gX) (TZ:zj K "changed" jF) (TY:zj K "_law_begin" AA) (TX:zj K "_law_next" Fc) (TV:zj K "_law_words" EF) (TU:zj K "_law_cost" Gr) (TR:zj K "_law_ends" Gp) (TQ:zj K "_law_net" Jm) (TN:zj K "_law_at" OH) (TM:zj K "_law_turned" kX) (TL:zj K "_law_right" EG) (NR:zj K "law" Jn) (t1:MY K "DEEDS" [("place",RB.f),("leave",RA.f),("tie",Rz.f),("untie",Ry.f),("cost",Rx.f)]) (hcd1:d7.cd=.ref c1) (hC1:aaN K c1 T1=true) (hcd2:d8.cd=.ref c2) (hC2:aaN K c2 T2=true) (hcd3:RC.cd=.ref c3) (hC3:aaN K c3 T3=true)
  (z1:abh K aaJ "ValueError" = some none) (z2:abh K aaJ "abs" = some none) (z3:abh K aaJ "all" = some none) (z4:abh K aaJ "bool" = some none) (z5:abh K aaJ "int" = some none) (z6:abh K aaJ "isinstance" = some none) (z7:abh K aaJ "len" = some none) (z8:abh K aaJ "max" = some none) (z9:abh K aaJ "min" = some none) (z10:abh K aaJ "range" = some none) (z11:abh K aaJ "sorted" = some none) (z12:abh K aaJ "str" = some none) (z13:abh K aaJ "tuple" = some none) (q1:abh K aaJ "LONGEST_WORD" = some (some (.int 8 RU))) :
  ∃fd:abl,(∀(s:Shared) (v:Value),BindsTo s fd ⟨[v],[]⟩ [("_law_script",v)])/\(∀T∈[T1,T2,T3],∃c,aaN K c T=true)/\∀base:Heap,K.In base->base.Ns aaJ mg->BMain mg base->yG l.prog w K mg base zB 7 fa fd ["_law_script"] (Q.Cz K (T1,T2,T3)):=by
 obtain⟨V,_,v,RR,RQ,RP⟩:∃V:Ev K mg,∃hb,V.EX=zf X G NR hb/\V.iF=T1/\V.oF=T2/\V.bY=T3:=⟨{DF:=zf X G d1,CL:=zf X G d2,DG:=zf X G d3,A5:=zf X G d4,B0:=zf X G d5,EV:=zf X G d6,zy:=zf X G d7,zG:=zf X G d8,EW:=zf X G d9,zd:=zf X G RC,AD:=zf X G Ui,Ag:=zf X G Uh,A6:=zf X G Ug,DI:=zf X G Ue,CK:=zf X G Ud,GS:=zf X G Uc,J7:=zf X G Ub,DE:=zf X G Ua,AE:=zf X G T9,zo:=zf X G T8,zg:=zf X G T7,Bb:=zf X G T6,Ac:=zf X G T5,DH:=zf X G T4,zx:=zf X G RB,zl:=zf X G RA,zW:=zf X G Rz,Ap:=zf X G Ry,zV:=zf X G Rx,CM:=zf X G TZ,Bq:=zf X G TY,Fl:=zf X G TX,EU:=zf X G TV,GV:=zf X G TU,GU:=zf X G TR,J8:=zf X G TQ,KP:=zf X G TN,DD:=zf X G TM,BZ:=zf X G TL,EX:=zf X G NR,DL:=aaV X G z1,GY:=aaV X G z2,IP:=aaV X G z3,GX:=aaV X G z4,IM:=aaV X G z5,zO:=aaV X G z6,Ci:=aaV X G z7,Fn:=aaV X G z8,IL:=aaV X G z9,BG:=aaV X G z10,zN:=aaV X G z11,IK:=aaV X G z12,zA:=aaV X G z13,A8:=⟨_,adI X G q1⟩,Dr:=O0 X G t1,iF:=T1,Bj:=⟨c1,hcd1,hC1⟩,oF:=T2,BD:=⟨c2,hcd2,hC2⟩,bY:=T3,AU:=⟨c3,hcd3,hC3⟩},λ_ _ _ _ _ _ us hl=>RG us hl λ_=>rfl,rfl,rfl,rfl,rfl⟩
 have g:=λbase hB=>xm (P:=l.prog) (w:=w) (base:=base) V hB;rw[v,RR,RQ,RP]at g;have e:=S7.symm.trans (adI X G NR.a);obtain rfl:fa=NR.f:=by injection e with e;injection e
 exact⟨_,λs v=>.of_eq rfl,List.forall_mem_cons.mpr ⟨⟨c1,hC1⟩,List.forall_mem_cons.mpr ⟨⟨c2,hC2⟩,List.forall_mem_cons.mpr ⟨⟨c3,hC3⟩,λ_ z=>nomatch z⟩⟩⟩,λbase _ _=>g base⟩
def walk{l:aeo}{q:aaA}{loose:List Str}{XP:(Str->Option Value)->Heap->Prop}{YP:World->Heap->Prop}{d:DefRec}{K:Params->aaf}{T1 T2 T3:Addr}(hn:l.most=some 63)(MA:d.params.defaults=[])
  (hY:∀(w:World) (h:Heap),YP w h->(K w.params).In h/\∀T∈[T1,T2,T3],h.get? T=some (acW #[])) (hK1:∀w:World,(K w.params).lookup T1=none) (hK2:∀w:World,(K w.params).lookup T2=none) (hK3:∀w:World,(K w.params).lookup T3=none) (hne:[T1,T2,T3].Nodup)
  (F:∀(w:World) (mg:Str->Option Value) (fa:Addr) (h:Heap),(K w.params).In h->h.Ns aaJ mg->mg d.name=some (.ref fa) ->
   ∃fd:abl,(∀(s:Shared) (u:Value),BindsTo s fd ⟨[u],[]⟩ [("_law_script",u)])/\(∀T∈[T1,T2,T3],∃c,aaN (K w.params) c T=true)/\∀base:Heap,(K w.params).In base->base.Ns aaJ mg->BMain mg base->yG l.prog w (K w.params) mg base zB 7 fa fd ["_law_script"] (Q.Cz (K w.params) (T1,T2,T3))) :
  PySem.W.WalkO q loose XP YP l.row.toRowW d [] (λf vs=>PySem.call f vs) :=
 L2.qM (n:=63) (k:=7) (x := "_law_script") (sp:=λw=>Q.Cz (K w.params) (T1,T2,T3)) hn (by decide) MA ⟨rfl,by decide,by decide,rfl⟩ hY (λw=>List.forall_mem_cons.mpr ⟨hK1 w,List.forall_mem_cons.mpr ⟨hK2 w,List.forall_mem_cons.mpr ⟨hK3 w,λ_ z=>nomatch z⟩⟩⟩) F λw H a ns hl hS hT=>⟨a,ns,rfl,hS,hl,hne,hT,λH' e=>⟨rfl,e⟩⟩
end Pre
open PySem PySem.W PyProof.Rows
set_option maxRecDepth 100000 in
set_option maxHeartbeats 0 in
theorem PySem.Challenge.cw_cheaptree_k44_whole_at_the_told_cost_holds : PySem.Challenge.rw_cheaptree_k44_whole_at_the_told_cost.Holds := by
 w_on; o_law; km_head; (case hw=>w_witness2)
 k_fill
 refine Pre.walk (l:=PySem.Challenge.rw_cheaptree_k44_whole_at_the_told_cost) rfl rfl (fun w h Y=>⟨PySem.W.km_in_of Y,List.forall_mem_cons.mpr ⟨PySem.W.km_tabs_of Y _ (List.mem_cons_of_mem _ (List.mem_cons_self ..)),List.forall_mem_cons.mpr ⟨PySem.W.km_tabs_of Y _ (List.mem_cons_self ..),List.forall_mem_cons.mpr ⟨PySem.W.km_tabs_of Y _ (List.mem_cons_of_mem _ (List.mem_cons_of_mem _ (List.mem_cons_self ..))),fun _ z=>nomatch z⟩⟩⟩⟩) ?hK1 ?hK2 ?hK3 ?hne ?F
 case F =>
  intro w mg fa h KX G hmg
  refine' Pre.x8 KX G hmg ⟨?a1,?l1,?c1,?k1⟩ ⟨?a2,?l2,?c2,?k2⟩ ⟨?a3,?l3,?c3,?k3⟩ ⟨?a4,?l4,?c4,?k4⟩ ⟨?a5,?l5,?c5,?k5⟩ ⟨?a6,?l6,?c6,?k6⟩ ⟨?a7,?l7,?c7,?k7⟩ ⟨?a8,?l8,?c8,?k8⟩ ⟨?a9,?l9,?c9,?k9⟩ ⟨?a10,?l10,?c10,?k10⟩ ⟨?a11,?l11,?c11,?k11⟩ ⟨?a12,?l12,?c12,?k12⟩ ⟨?a13,?l13,?c13,?k13⟩ ⟨?a14,?l14,?c14,?k14⟩ ⟨?a15,?l15,?c15,?k15⟩ ⟨?a16,?l16,?c16,?k16⟩ ⟨?a17,?l17,?c17,?k17⟩ ⟨?a18,?l18,?c18,?k18⟩ ⟨?a19,?l19,?c19,?k19⟩ ⟨?a20,?l20,?c20,?k20⟩ ⟨?a21,?l21,?c21,?k21⟩ ⟨?a22,?l22,?c22,?k22⟩ ⟨?a23,?l23,?c23,?k23⟩ ⟨?a24,?l24,?c24,?k24⟩ ⟨?a25,?l25,?c25,?k25⟩ ⟨?a26,?l26,?c26,?k26⟩ ⟨?a27,?l27,?c27,?k27⟩ ⟨?a28,?l28,?c28,?k28⟩ ⟨?a29,?l29,?c29,?k29⟩ ⟨?a30,?l30,?c30,?k30⟩ ⟨?a31,?l31,?c31,?k31⟩ ⟨?a32,?l32,?c32,?k32⟩ ⟨?a33,?l33,?c33,?k33⟩ ⟨?a34,?l34,?c34,?k34⟩ ⟨?a35,?l35,?c35,?k35⟩ ⟨?a36,?l36,?c36,?k36⟩ ⟨?a37,?l37,?c37,?k37⟩ ⟨?a38,?l38,?c38,?k38⟩ ⟨?a39,?l39,?c39,?k39⟩ ⟨?a40,?l40,?c40,?k40⟩ ⟨?tn1,?tl1,?te1,?tr1⟩ ?hcd1 ?hC1 ?hcd2 ?hC2 ?hcd3 ?hC3 ?z1 ?z2 ?z3 ?z4 ?z5 ?z6 ?z7 ?z8 ?z9 ?z10 ?z11 ?z12 ?z13 ?q1
  case a1 | l1 | c1 | k1 | a2 | l2 | c2 | k2 | a3 | l3 | c3 | k3 | a4 | l4 | c4 | k4 | a5 | l5 | c5 | k5 | a6 | l6 | c6 | k6 | a7 | l7 | c7 | k7 | a8 | l8 | c8 | k8 | a9 | l9 | c9 | k9 | a10 | l10 | c10 | k10 | a11 | l11 | c11 | k11 | a12 | l12 | c12 | k12 | a13 | l13 | c13 | k13 | a14 | l14 | c14 | k14 | a15 | l15 | c15 | k15 | a16 | l16 | c16 | k16 | a17 | l17 | c17 | k17 | a18 | l18 | c18 | k18 | a19 | l19 | c19 | k19 | a20 | l20 | c20 | k20 | a21 | l21 | c21 | k21 | a22 | l22 | c22 | k22 | a23 | l23 | c23 | k23 | a24 | l24 | c24 | k24 | a25 | l25 | c25 | k25 | a26 | l26 | c26 | k26 | a27 | l27 | c27 | k27 | a28 | l28 | c28 | k28 | a29 | l29 | c29 | k29 | a30 | l30 | c30 | k30 | a31 | l31 | c31 | k31 | a32 | l32 | c32 | k32 | a33 | l33 | c33 | k33 | a34 | l34 | c34 | k34 | a35 | l35 | c35 | k35 | a36 | l36 | c36 | k36 | a37 | l37 | c37 | k37 | a38 | l38 | c38 | k38 | a39 | l39 | c39 | k39 | a40 | l40 | c40 | k40 | z1 | z2 | z3 | z4 | z5 | z6 | z7 | z8 | z9 | z10 | z11 | z12 | z13 | q1=>k_is
  (case tn1=>k_is); (case tl1=>k_is); (case te1=>rfl); (case tr1=>repeat (first | exact .nil | refine .cons rfl rfl ?_))
  (case hcd1=>exact rfl); (case hC1=>kernel_rfl); (case hcd2=>exact rfl); (case hC2=>kernel_rfl); (case hcd3=>exact rfl); (case hC3=>kernel_rfl)
 case hK1=>(intro w; kernel_rfl)
 case hK2=>(intro w; kernel_rfl)
 case hK3=>(intro w; kernel_rfl)
 case hne=>decide +kernel
