import PyProof.Rows.All
import Wide.All
import OpenK.AllK
import Wide.FinOn
import Lean
import PyProof.EqAt
import PyProof.EqKinds
import PyProof.TupleCall
import KE.KDictOf
import KE.KDictSum
import KE.KIntText
import KE.KLam
import KE.KMinBuiltin
import KE.KNestM
import KE.KPairComp
import KE.KSortKey
import KE.KSortTup
import KE.KTab
import KE.LcSums
import PyProof.AttrMissHeap
import PyProof.Conv_int_bool
import PyProof.DictValues
import PyProof.Draws
import PyProof.EnumFor
import PyProof.EnumMake
import PyProof.EnumStmt
import PyProof.FactsAll.list_1
import PyProof.ListStr
import PyProof.MeetsStr2
import PyProof.NeKinds
import PyProof.ReprLen
import PyProof.ReprRoads
import PyProof.Rows.EnumRows
import PyProof.Rows.SetFrom
import PyProof.Rows.SortRev
import PyProof.Rows.StrBin
import PyProof.Rows.TupAdd
import PyProof.SetRoads
import PyProof.StrBlockG
import PyProof.StrBlockI
import PyProof.StrLawsChain
import PyProof.StrLawsIn
import PyProof.StrLawsRepr
import PyProof.StrLawsTight
import PyProof.StrWalks
import PyProof.WalksMore
import PyProof.ZipIter
import PySem.Challenge.RW_cheaptree_k42_margins_of_other_ties
set_option compiler.extract_closed false
set_option Elab.async false
set_option linter.all false
set_option maxRecDepth 100000
open List renaming getElem?_eq_getElem→aaa,getD_eq_getElem?_getD→aac,length_map→aae,size_toArray→aaf,getElem?_map→aah,getElem?_eq_none→aaq,mem_cons_of_mem→aar,mem_append_right→aat,map_cons→aau,getElem?_append_left→aav,mem_cons_self→aay,exists_cons_of_length_eq_add_one→aaz,replicate→aaC,getElem?_set_ne→aaD,map_map→aaG,map_congr_left→aaH,length_take→aaI,mem_cons→aaK,mem_of_getElem?→aaN,length_append→aaQ,length_cons→aaR,range→aaS,not_mem_nil→aaV,map_append→aaW,length_filter_le→aa5,replicate_succ→aa6,getElem?_zip_eq_some→aa7,append_nil→abb,lookup_cons→abg,getElem_inj→abh,set_eq_of_length_le→abl,take_length→abm,mem_append_left→abo,mapM_cons→abt,mem_map_of_mem→abv,take_succ→abx,getElem?_set→abC,pairwise_iff_getElem→abD,find?_cons→abG,getElem_mem→abK,getElem_map→abL,mem_of_mem_take→abM,getElem?_cons_zero→abP,getElem_take→abT,flatten_cons→abU,filter_congr→abV,getElem?_range→abX,filter_sublist→abY,filterMap_cons→abZ,nodup_iff_pairwise_ne→ab2,getElem?_append_right→ab3,zip_cons_cons→ab6,length_replicate→ab7,nil_append→acb,length_nil→acd,length_reverse→acj,getElem?_cons_succ→ack,getElem?_set_self→aco,mem_append→acr,ext_getElem?→acx,foldl_cons→acJ,filter_filter→acK,filterMap_map→acL,length→acN,nodup_range→acR,filter_cons→acS,any_eq_true→acT,reverse_reverse→acU,of_mem_zip→ac1,nodup_cons→ac2,mem_filter→ac3,lookup→ac4,toArray→ac9,drop_eq_getElem_cons→adf,nodup_append→adq,length_range→adr,foldl_append→ads,eq_of_mem_replicate→adt,map_snd_zip→adC,take_of_length_le→adI,length_pos_of_mem→adJ,drop_eq_nil_of_le→adK,range_succ→adS,map_nil→adT,length_zip→adU,getElem?_toArray→adV,any_map→adW,lt_irrefl→ad8,getElem_of_mem→aee,getD→aen,take_sublist→aew,pairwise_map→aex,eraseIdxIfInBounds_toArray→aey,append_assoc→aez,take_append_of_le_length→aeM,map_reverse→aeN,all_eq_true→aeO,length_set→ae6,forIn_cons→ae7,perm_ext_iff_of_nodup→afa,mem_of_find?_eq_some→afg,findIdx?_eq_none_iff→afh
open PySem renaming wpAny_bind→aab,starEach→aai,wpAny_pure→aaj,sizeLine_eq→aax,Program→aaE,mainGlobals→aaJ,wpAny_mono→aaM,wpAny_holding→aaT,foldedSetIterable→aa0,compareOp→aa9,wpAny_seqItems→abq,FuncData→abz,wpAny_field→abA,wpAny_call_entry→abJ,wpAny_callSpecial?_slot→abN,wpAny_newObj_type→abR,mem_of_lookup→abW,wpAny_Call_Name_kw→ab4,swapsWith→ab9,bootBuiltins→acg,wpAny_newList→ach,binaryOp→aci,wpAny_tryCatch→acl,assignEach→acm,wpAny_setField_rec→acp,wpAny_passesOwn→acq,wpAny_truthy_bool→acs,wpAny_standAt→act,sysModules→acu,behindInMarks→acv,attributeBase→acw,codeAmong→acz,wpAny_letGo→acC,wpAny_rule→acD,wpAny_pyIter_tuple→acG,bindArgs→acP,holding→acQ,plainId_quiet→acW,sliceBounds→acY,Builtin→ac6,tupleKind_room_in1→ac7,NameKind→ac8,boot_len→adc,wpAny_pyIter_list→adi,wpAny_pyNext_tuple_item→adv,swapsWithSole→adw,swappedStores→adx,keywordEach→adz,comprehension→adA,wpAny_pyNext_tuple_end→adF,wpAny_typeOf→adM,wpAny_execs_nil→adN,getItem→adP,codeAny_builtin→adQ,Keyword→adX,call_meets→ad2,wpAny_updateSeq_pair→ad3,wpAny_newFunctionEnv→ad4,wpAny_newTuple→ad5,codeAny→aec,wpAny_onRaise→aeh,wpAny_attempt→aei,wpAny_assign_Name→aeo,wpAny_Name→aep,valueAt→aeq,closureFor→aer,builtinsNs→aes,codeAny_mono→aeF,wpAny_eqBool_str→aeJ,noFill_tuple_add→aeK,compPost→aeQ,backToKw→aeR,wpAny_updateSeq→aeT,tupleKind→aeU,subscripted→aeV,letOwnedTupleGo→aeW,callerA→aeY
open PySem.Heap renaming get?_push_of_some→aad,lt_size→aak,get?_push_size→aal,size_push→aby,get?_update_ne→aef,SameBut→aeI
open PySem.W renaming Frag→aag,mg_none_of→aaP,codeHdIn→abf,nsIn→abp,kia_one→abr,keepIn→abw,fnOf→acE,kas_item→acO,tabObj→ade,kitOne→ad6,codeIn→ad7,kas_rev→aeb,methodObj→aet,instObj→ae3,OpenLaw→ae4,lookIn→aff
open Nat renaming le_refl→aam,ne_of_lt→aaw,lt_of_lt_of_le→aaA,zero_le→aaU,zero_add→aaY,le_trans→aaZ,lt_or_ge→aa4,lt_irrefl→abd,lt_succ_self→abu,lt_succ_of_lt→abB,ne_of_gt→abQ,add_assoc→acX,lt_trichotomy→adp,le_of_eq→adR,le_of_lt→aeG,add_comm→aeH,le_add_right→aeL,le_succ→ae5
open Sum renaming inr→aan,inl→ae0
open Option.some renaming inj→aao,injEq→aeu
open Option renaming map_eq_some_iff→aap,getD_some→acB,isSome_some→aem,isSome_map→aev
open PySem.Value renaming ref→aas,none→aaO,type→abS,str→adk,int→adm
open Bool renaming false_ne_true→aaB,eq_iff_iff→aaL,and_eq_true→aa2,false_eq_true→ab8,or_eq_true→ad0,not_false→aea,not_eq_true'→aeC
open PySem.Str renaming ofString→aaF
open PySem.Heap.SameBut renaming update→aaX
open PySem.Obj renaming mapSeq→aa1
open Nat.succ renaming inj→aa3
open PySem.Builtin.SmallTypes renaming nextOf→aa8,ownedTupleIsFree→ab0,ownedTupleHandOut→ad9
open PySem.PassesOwn renaming never→aba
open Array renaming length_toList→abe,getElem?_eq_getElem→adh,toList_zip→adD,toList_map→adE,getElem?_toList→ad1,size_zip→afj
open PySem.NameKind renaming free→abi,cell→acI
open PySem.F renaming type_list_append→abj,slot_list_append→abk,plain_max_loop→ab1,slot_tuple_iterator_next→acy,plainAttrs_list→acH,args_tuple_add_2→ado,entry_tuple_add→adB,slot_tuple_add→adG,slot_zip_next→adZ,args_tuple_iterator_next_1→aeS,entry_tuple_iterator_next→ae8
open PyProof.Rows renaming boot_tuple→abn,get?_update_seq→abF,listUpdate_at→ab5,slot_tuple_getitem→aca,entry_list_sort→acZ,callWith_type1→ac0,tuples'→ada,slot_list_sort→adb,seqEpoch_at→ady,boot_bool→adH,listItems_at→adO,boot_sorted→aed,AllBare→aeg,assignInOrder_cons→aej,plain_sorted→aeD,entry_sorted→aeE,kind_sorted→aeX,callWith_kw→aeZ,args_list_sort→afe
open Classical renaming byContradiction→abE
open List.Pairwise renaming imp_of_mem→abH,nil→aeA
open Int renaming emod_lt_of_pos→abI,emod_nonneg→ace,toNat_natCast→aeB,mul_le_mul_of_nonneg_left→aeP
open Ne renaming symm→abO
open False renaming elim→acf
open True renaming intro→acn
open PySem.Builtin.Slice renaming slicePlaces→acA,sliceAdjust→adg,sliceApplied→afd
open PySem.Builtin.Tuple renaming tupleExact→acF,tupleItemsOf→afc
open PySem.Builtin.Str renaming occurrences→acM
open PySem.Around renaming under_plainId→acV
open PySem.Data renaming fields→ac5,cell→ae9
open PyProof.Rows.SortSt renaming mk'→adn
open PySem.Builtin.List renaming listTooLong→adu
open PySem.Calls renaming callWith_builtin→adL,Name_function_global→afb,call_function_entry→afi
open ForInStep renaming yield→adY
open PySem.SeqAt.EqAt renaming int_int→aek,same→ae2
open PySem.Paired renaming length→ael
open StateT renaming run_pure→ae1
namespace PySem.W.Fast
def tw16043766503023455132:=()
def tw4368456318587488689:=()
def tw13616178806220929484:=()
def tw18061443585404183973:=()
def tw390390762262168292:=()
def tw3888679114458811448:=()
def tw9503563928698766934:=()
def tw6692007620121959061:=()
def tw17289779115853958330:=()
def tw18362191903834880913:=()
def tw17695712006031149768:=()
def tw12972442855875538359:=()
def tw12059842056299326943:=()
def tw3552895590983814759:=()
def tw12830371626161333091:=()
def tw7439439718471667998:=()
def tw8760541697760099045:=()
def tw14880498184754575382:=()
def tw10278866945611570997:=()
def tw18265246158294755223:=()
def tw14080637477904937882:=()
def tw1932158295727275784:=()
def tw11481356964954639772:=()
def tw16360007627692484895:=()
def tw3922009512115077404:=()
def tw47459954579668949:=()
def tw4287245043311529864:=()
def tw1075211300288894379:=()
def tw14231724974179498644:=()
def tw12085402285184813737:=()
def tw15688975745198181934:=()
def tw16407705151087434599:=()
def tw1278646421528901659:=()
def tw1849050530164557320:=()
def tw13324988632338225213:=()
def tw2219065469775720293:=()
def tw6571587504124648635:=()
def tw11191540606236562786:=()
def tw396234151755758819:=()
def tw15152325234259282733:=()
def tw3635764182458296455:=()
def tw17048388046390252144:=()
def tw9298016298956445892:=()
def tw18092759650191167359:=()
def tw11480848745354312713:=()
def tw12988117029520301726:=()
def tw4421937085646659025:=()
def tw14587101499069339084:=()
def tw11162629239026721821:=()
def tw4652318491748713160:=()
def tw10091103852339423139:=()
def tw13545706403209302394:=()
def tw17476572924183754265:=()
def tw3707972208252376474:=()
def tw2079806231620881084:=()
def tw1609680246249862286:=()
def tw1635858605649395217:=()
def tw15669291799251236767:=()
def tw17692638151160611701:=()
def tw9533388009544623943:=()
def tw10253155904568220862:=()
def tw1633292027496652738:=()
def tw6824502638537973122:=()
def tw13660808451306124489:=()
def tw6044404613436346775:=()
def tw2277672905409550589:=()
def tw10230345895828008188:=()
def tw15405113285101736439:=()
def tw11534486517279388188:=()
def tw2652143191049990269:=()
def tw14903566971254705347:=()
def tw8569456163887496864:=()
def tw2735778503252583029:=()
def tw14600733685706409475:=()
def tw14317427720699465008:=()
def tw11763599522569664581:=()
def tw6783076589658424407:=()
def tw3893126368651215500:=()
def tw8749058602239041278:=()
def tw10759920799040463509:=()
def tw13809078130720784932:=()
def tw5564174828071620161:=()
def tw12823146137050759891:=()
def tw4631780618237253063:=()
def tw7375546160695811670:=()
def tw1587553846207679443:=()
def tw3153467593022551524:=()
def tw6292223405740299388:=()
def tw9350742373818538380:=()
def tw13600734342881281330:=()
def tw1026349588036051353:=()
def tw9786387127476411013:=()
def tw8263829063997667629:=()
def tw9495542605676188473:=()
def tw17390860737983886050:=()
def tw16607958256690584033:=()
def tw6242050233034465156:=()
def tw2032474621598898998:=()
def tw10330799710068404441:=()
def tw6002515249712977249:=()
def tw1042927985897903030:=()
def tw11953074037554165628:=()
def tw10017410193758496503:=()
def tw14453060686558822217:=()
def tw5216363794200106876:=()
def tw7439174525645082100:=()
def tw12118129067788069702:=()
def tw15606293039531795066:=()
def tw11648091732738156963:=()
def tw1889347386611955900:=()
def tw12245730253768457247:=()
def tw13185335187356238755:=()
def tw11407373665521327943:=()
def tw12207316067325953129:=()
def tw16392748522917218495:=()
def tw1546818429036579969:=()
def tw11356584445359794427:=()
def tw11932028741705533724:=()
def tw15633326460077646012:=()
def tw2389492433936629454:=()
def tw15370801692742718802:=()
def tw13439955458799833150:=()
def tw13194191866740388179:=()
def tw336295013245436478:=()
def tw12387674045248698648:=()
def tw3569441132048788114:=()
def tw4011325370487229451:=()
def tw3437521621489573422:=()
def tw18275948586842555274:=()
def tw1814531443781660050:=()
def tw3296512921040844886:=()
def tw17492958802025524379:=()
def tw16801591036259404804:=()
def tw3497250160826693769:=()
def tw6975679860403319113:=()
def tw4231136231748004405:=()
def tw14110669388251208085:=()
def tw5363693803908750097:=()
def tw3517947691771870577:=()
def tw10906961186453626893:=()
def tw5225112445826029119:=()
def tw11151901343002972081:=()
end PySem.W.Fast
theorem Z0:True:=trivial
namespace L2
open PySem PySem.Spec PyProof.Rows
abbrev Key:=Sum Int Str
def CH:Key->Value->Bool
 |.inl k,v=>Value.isInt k v
 |.inr x,v=>Value.isStrOf x v
def O2(w:World):Key->Int
 |.inl k=>hashInt k
 |.inr x=>hashStr w x
theorem aR:∀{k:Key} {v:Value},CH k v=true->(∃i t,k=ae0 i/\v=adm i t)\/(∃x t,k=aan x/\v=adk x t)
 |.inl i,v,h=>by
  obtain⟨t,e⟩:=Value.isInt_shape (k:=i) (v:=v) h
  exact .inl ⟨i,t,rfl,e⟩
 |.inr x,v,h=>by
  obtain⟨t,e⟩:=Value.isStrOf_shape (x:=x) (v:=v) h
  exact .inr ⟨x,t,rfl,e⟩
theorem qX(i:Int)(t:Tok):CH (.inl i) (.int i t)=true:=by simp[CH,Value.isInt]
theorem qW(x:Str)(t:Tok):CH (.inr x) (.str x t)=true:=by simp[CH,Value.isStrOf]
theorem wW(a b:Int):decide ((ae0 a:Key)=ae0 b)=(a==b):=by
 by_cases e:a=b
 .subst e;simp
 .have h:¬ (ae0 a:Key)=ae0 b:=λq=>e (Sum.inl.inj q)
  rw[decide_eq_false h]
  exact(beq_eq_false_iff_ne.mpr e).symm
theorem wT(a b:Str):decide ((aan a:Key)=aan b)=decide (a=b):=by
 by_cases e:a=b
 .subst e;simp
 .have h:¬ (aan a:Key)=aan b:=λq=>e (Sum.inr.inj q)
  rw[decide_eq_false h,decide_eq_false e]
theorem wV(a:Int)(b:Str):decide ((ae0 a:Key)=aan b)=false:=decide_eq_false (λq=>nomatch q)
theorem wU(a:Str)(b:Int):decide ((aan a:Key)=ae0 b)=false:=decide_eq_false (λq=>nomatch q)
def aF(prog:aaE)(w:World):PySem.KeyKind prog w Key where
 is:=CH
 hash:=O2 w
 inj:=λv a b ha hb=>by
  rcases aR ha with ⟨i,t,rfl,rfl⟩|⟨x,t,rfl,rfl⟩
  .rcases aR hb with ⟨j,u,rfl,e⟩|⟨y,u,rfl,e⟩
   .injection e with e1 _;rw[e1]
   .exact nomatch e
  .rcases aR hb with ⟨j,u,rfl,e⟩|⟨y,u,rfl,e⟩
   .exact nomatch e
   .injection e with e1 _;rw[e1]
 byValue:=λk v h=>by
  rcases aR h with ⟨i,t,rfl,rfl⟩|⟨x,t,rfl,rfl⟩<;>rfl
 pyHash:=λhv h=>by
  rcases aR hv with ⟨i,t,rfl,rfl⟩|⟨x,t,rfl,rfl⟩
  .exact wpAny_pyHash_int h
  .exact wpAny_pyHash_str h
 eqBool:=λhu hv h=>by
  rcases aR hu with ⟨i,t,rfl,rfl⟩|⟨x,t,rfl,rfl⟩
  .rcases aR hv with ⟨j,u,rfl,rfl⟩|⟨y,u,rfl,rfl⟩
   .rw[wW]at h;exact wpAny_eqBool_int h
   .rw[wV]at h;exact SeqAt.EqAt.int_str i t y u _ _ _ _ h
  .rcases aR hv with ⟨j,u,rfl,rfl⟩|⟨y,u,rfl,rfl⟩
   .rw[wU]at h;exact SeqAt.EqAt.str_int x t j u _ _ _ _ h
   .rw[wT]at h;exact aeJ h
 «strs»:=λk x t v h=>by
  rcases aR h with ⟨i,u,rfl,e⟩|⟨y,u,rfl,e⟩
  .exact nomatch e
  .injection e with e1 _
   subst e1
   cases v<;>rfl
theorem nB(prog:aaE)(w:World)(i:Int)(t:Tok):(aF prog w).is (.inl i) (.int i t)=true:=qX i t
theorem ij(prog:aaE)(w:World)(x:Str)(t:Tok):(aF prog w).is (.inr x) (.str x t)=true:=qW x t
inductive V where
 |lT|bl (b:Bool)|int (i:Int)|str (x:Str)|Fs (b:Array UInt8)|K9 (b:UInt64)|ref (a:Addr)|ty (n:String)
 deriving DecidableEq
def RelV:V->Value->Prop
 |.lT,u=>u=aaO
 |.bl b,u=>u=Value.bool b
 |.int i,u=>∃t,u=adm i t
 |.str x,u=>∃t,u=adk x t
 |.Fs b,u=>∃t,u=Value.bytes b t
 |.K9 b,u=>∃t,u=Value.float b t
 |.ref a,u=>u=aas a
 |.ty n,u=>u=abS n
abbrev tO:List V->List Value->Prop:=Paired RelV
variable{xs:List V}{us:List Value}
theorem tO.length(r:tO xs us):xs.length=us.length:=ael r
theorem tO.get:∀{xs:List V} {us:List Value} {i:Nat} {x:V},tO xs us->xs[i]?=some x->∃u,us[i]?=some u/\RelV x u
 |_,_,_,_,.nil,e=>by simp at e
 |_,_,0,_,.cons r _,e=>by simp at e;subst e;exact⟨_,rfl,r⟩
 |_,_,i+1,x,.cons _ t,e=>by
  obtain⟨u,h1,h2⟩:=tO.get (i:=i) (x:=x) t (by simpa using e)
  exact⟨u,by simpa using h1,h2⟩
variable{x:V}{u:Value}
theorem tO.set(r:RelV x u):∀{xs:List V} {us:List Value} (i:Nat),tO xs us->tO (xs.set i x) (us.set i u)
 |_,_,_,.nil=>.nil
 |_,_,0,.cons _ t=>.cons r t
 |_,_,i+1,.cons q t=>.cons q (tO.set r i t)
theorem tO.append:∀{xs ys:List V} {us ws:List Value},tO xs us->tO ys ws->tO (xs++ys) (us++ws)
 |_,_,_,_,.nil,s=>s
 |_,_,_,_,.cons r t,s=>.cons r (tO.append t s)
theorem tO.take:∀{xs:List V} {us:List Value} (n:Nat),tO xs us->tO (xs.take n) (us.take n)
 |_,_,0,_=>.nil
 |_,_,_+1,.nil=>.nil
 |_,_,n+1,.cons r t=>.cons r (tO.take n t)
theorem tO.drop:∀{xs:List V} {us:List Value} (n:Nat),tO xs us->tO (xs.drop n) (us.drop n)
 |_,_,0,r=>r
 |_,_,_+1,.nil=>.nil
 |_,_,n+1,.cons _ t=>tO.drop n t
def BN:Option V->Option Value->Prop
 |some v,some u=>RelV v u
 |none,none=>True
 |_,_=>False
def KV{κ:Type}:List (κ×V)->List (κ×Value)->Prop:=Paired λ(p:κ×V) (q:κ×Value)=>p.1=q.1/\RelV p.2 q.2
def kV:Key->V
 |.inl i=>.int i
 |.inr x=>.str x
inductive HO where
 |lst (xs:List V)
 |tup (xs:List V)
 |dK (kvs:List (Key×V))|dT (kvs:List (List Key×V))
 |set (S:Int->Bool) (n:Nat)
 |ins (C dx:Addr) (fs:List (Str×V))
 |own (x:Addr)
 |xd (fs:List (Str×V))
 |met (f x:Addr)
 |Nw (lo hi:Int)
 |Ay (o:Obj) (u:HO)
 |Ib (ps:Array Value)
 |ext (φ:Heap->Prop)
abbrev Hp:=Addr->Option HO
def upd(H:Hp)(a:Addr)(o:HO):Hp:=λb=>if b=a then some o else H b
variable{H:Hp}{a:Addr}{o:HO}
theorem ai:upd H a o a=some o:=by unfold upd;rw[if_pos rfl]
variable{b:Addr}
theorem af(h:b≠a):upd H a o b=H b:=by unfold upd;rw[if_neg h]
theorem ue{u:HO}:upd (upd H a o) a u=upd H a u:=by
 funext b;unfold upd;split<;>rfl
theorem pD{u:HO}(h:H a=some o)(h':H b=some u)(d:o≠u):a≠b:=by
 intro e;subst e;rw[h]at h';exact d (aao h')
theorem av(h:H a=some o)(h':H b=none):a≠b:=by
 intro e;subst e;rw[h]at h';cases h'
variable(P:aaE)(w:World)
def yk(H:Hp)(h:Heap)(a:Addr):HO->Prop
 |.lst xs=>xs.length<=sizeLine/\∃(gE:List Value) (n:Nat),tO xs gE/\h.get? a=some {cls:=.type "list",data:=.seq gE.toArray n}
 |.tup xs=>xs.length<=sizeLine/\∃gE:List Value,tO xs gE/\IsTup h a gE.toArray
 |.dK kvs=>kvs.length<=sizeLine/\(a==acu)=false/\∃vs,KV kvs vs/\h.DictOf (aF P w) a vs
 |.dT kvs=>kvs.length<=sizeLine/\(a==acu)=false/\∃xs:List (List Key×Addr×Value),
   Paired (λ(p:List Key×V) (q:List Key×Addr×Value)=>p.1=q.1/\H q.2.1=some (.tup (p.1.map kV))/\RelV p.2 q.2.2) kvs xs /\
   ∃o es ep,h.get? a=some o/\o.ExactDict/\o.data=.dict es ep/\es.toList=xs.map (entryOfKey (aeU (aF P w)))/\(xs.map (·.1)).Nodup
 |.set S n=>h.SetOf (intKind P w) a S n
 |.ins C dx fs=>H dx=some (.own a)/\fs.length<=1000/\dx≠a/\h.get? a=some (ae3 C dx) /\
   ∃mA,h.Ns1 dx mA/\(∀f,BN (fs.lookup f) (mA f))/\PySem.Within mA (fs.map (·.1))
 |.own _=>∃o,h.get? a=some o
 |.xd fs=>∃mA,h.Ns1 a mA/\∀f,BN (fs.lookup f) (mA f)
 |.Nw lo hi=>∃t u v,h.get? a=some {cls:=.type "range",data:=.fields #[.int lo t,.int hi u,.int 1 v]}
 |.Ay o u=>h.get? a=some o/\yk H h a u
 |.Ib ps=>h.get? a=some {cls:=.none,data:=.fields ps}
 |.met f x=>h.get? a=some (aet (.ref f) (.ref x))
 |.ext φ=>φ h/\(∃o,h.get? a=some o)/\∀h1 h2:Heap,φ h1->(∀o,h1.get? a=some o->h2.get? a=some o)->φ h2
def AA(H:Hp)(h:Heap):Prop:=∀a o,H a=some o->yk P w H h a o
variable{P:aaE}{w:World}{H':Hp}{h h':Heap}
theorem yk.lt(x:yk P w H h a o):a<h.objs.size:=by
 cases o with
 |lst xs=>obtain⟨_,_,_,_,e⟩:=x;exact aak e
 |tup xs=>obtain⟨_,_,_,p⟩:=x;exact p.lt
 |dK kvs=>obtain⟨_,_,_,_,o,_,_,e,_⟩:=x;exact aak e
 |dT kvs=>obtain⟨_,_,_,_,o,_,_,e,_⟩:=x;exact aak e
 |set S n=>obtain⟨o,_,_,_,e,_⟩:=x;exact aak e
 |ins C dx fs=>obtain⟨_,_,_,e,_⟩:=x;exact aak e
 |own y=>obtain⟨_,e⟩:=x;exact aak e
 |xd fs=>obtain⟨_,⟨_,_,_,e,_⟩,_⟩:=x;exact aak e
 |Nw lo hi=>obtain⟨_,_,_,e⟩:=x;exact aak e
 |Ay ob u=>obtain⟨e,_⟩:=x;exact aak e
 |Ib ps=>exact aak (show h.get? a=some _ from x)
 |met f y=>exact aak (show h.get? a=some _ from x)
 |ext φ=>obtain⟨_,⟨_,e⟩,_⟩:=x;exact aak e
variable{α:Type}
theorem Paired.Jy{β:Type}{F G:α->β->Prop}:∀{l₁:List α} {l₂:List β},Paired F l₁ l₂->(∀a b,F a b->G a b)->Paired G l₁ l₂
 |_,_,.nil,_=>.nil
 |_,_,.cons r t,f=>.cons (f _ _ r) (Paired.Jy t f)
theorem yk.BV(x:yk P w H h a o)(k:∀b u,(b=a\/H b=some (.own a))->h.get? b=some u->h'.get? b=some u)
  (ho:∀b,H b=some (.own a)->H' b=some (.own a)) (ht:∀b xs,H b=some (.tup xs)->H' b=some (.tup xs)):yk P w H' h' a o:=by
 induction o with
 |lst xs=>obtain⟨z,gE,n,r,e⟩:=x;exact⟨z,gE,n,r,k _ _ (.inl rfl) e⟩
 |tup xs=>obtain⟨z,gE,r,ob,e,c⟩:=x;exact⟨z,gE,r,ob,k _ _ (.inl rfl) e,c⟩
 |dK kvs=>obtain⟨z,y,vs,r,ob,es,ep,e,c⟩:=x;exact⟨z,y,vs,r,ob,es,ep,k _ _ (.inl rfl) e,c⟩
 |dT kvs=>
  obtain⟨z,y,xs,r,ob,es,ep,e,c⟩:=x
  exact⟨z,y,xs,Paired.Jy r λp q z=>⟨z.1,ht _ _ z.2.1,z.2.2⟩,ob,es,ep,k _ _ (.inl rfl) e,c⟩
 |set S n=>obtain⟨ob,es,ep,t,e,c⟩:=x;exact⟨ob,es,ep,t,k _ _ (.inl rfl) e,c⟩
 |ins C dx fs=>
  obtain⟨d,z,ne,e,mA,⟨od,es,ep,e2,c⟩,r⟩:=x
  exact⟨ho _ d,z,ne,k _ _ (.inl rfl) e,mA,⟨od,es,ep,k _ _ (.inr d) e2,c⟩,r⟩
 |own y=>obtain⟨ob,e⟩:=x;exact⟨ob,k _ _ (.inl rfl) e⟩
 |xd fs=>obtain⟨mA,⟨od,es,ep,e,c⟩,r⟩:=x;exact⟨mA,⟨od,es,ep,k _ _ (.inl rfl) e,c⟩,r⟩
 |Nw lo hi=>obtain⟨t,u,v,e⟩:=x;exact⟨t,u,v,k _ _ (.inl rfl) e⟩
 |Ay ob u ih=>obtain⟨e,q⟩:=x;exact⟨k _ _ (.inl rfl) e,ih q⟩
 |Ib ps=>
  have e:h.get? a=some {cls:=.none,data:=.fields ps}:=x
  show h'.get? a=some {cls:=.none,data:=.fields ps}
  exact k a _ (.inl rfl) e
 |met f y=>
  have e:h.get? a=some (aet (.ref f) (.ref y)):=x
  show h'.get? a=some (aet (.ref f) (.ref y))
  exact k a _ (.inl rfl) e
 |ext φ=>obtain⟨p,⟨o,e⟩,st⟩:=x;exact⟨st _ _ p λo q=>k _ _ (.inl rfl) q,⟨o,k _ _ (.inl rfl) e⟩,st⟩
theorem AA.lt(x:AA P w H h)(e:H a=some o):a<h.objs.size:=(x a o e).lt
theorem AA.fresh(x:AA P w H h)(e:h.objs.size<=a):H a=none:=by
 cases q:H a with
 |none=>rfl
 |some u=>exact absurd (aaA (x.lt q) e) (abd _)
theorem AA.kept(x:AA P w H h)(k:∀b u,h.get? b=some u->h'.get? b=some u):AA P w H h':=λa o e=>
 (x a o e).BV (λb u _ q=>k b u q) (λ_ q=>q) λ_ _ q=>q
theorem AA.laid(x:AA P w H h)(k:∀b u,h.get? b=some u->h'.get? b=some u)(hp:h.objs.size<=a)(new:yk P w (upd H a o) h' a o):AA P w (upd H a o) h':=λb u e=>by
 have hn:=x.fresh hp
 by_cases hb:b=a
 .subst hb;rw[ai]at e;cases e;exact new
 .rw[af hb]at e
  exact(x b u e).BV (λc v _ q=>k c v q) (λc q=>by rw[af (av q hn)];exact q) λc xs q=>by rw[af (av q hn)];exact q
def Rd(H:Hp)(a:Addr)(u:HO):Prop:=H a=some u\/∃o,H a=some (.Ay o u)
theorem Rd.ok{u:HO}(r:Rd H a u)(x:AA P w H h):yk P w H h a u:=by
 rcases r with r|⟨o,r⟩
 .exact x a u r
 .obtain⟨_,q⟩:=x a _ r
  exact q
def M6:Option HO->Prop
 |some (.lst _)=>True
 |some (.dK _)=>True
 |some (.dT _)=>True
 |some (.set _ _)=>True
 |some (.ins _ _ _)=>True
 |some (.ext _)=>True
 |_=>False
variable{x e:Addr}{o':HO}
theorem AA.write(ok:AA P w H h)(mu:M6 (H x))(he:e=x\/H e=some (.own x))(k:∀b u,b≠e->h.get? b=some u->h'.get? b=some u)(KW:∃u,h'.get? e=some u)
  (new:yk P w (upd H x o') h' x o'):AA P w (upd H x o') h':=λb u q=>by
 have LR:∀c y,H c=some (.own y)->c≠x:=λc y r z=>by subst z;rw[r]at mu;exact mu
 have OS:∀c xs,H c=some (.tup xs)->c≠x:=λc xs r z=>by subst z;rw[r]at mu;exact mu
 by_cases hb:b=x
 .subst hb;rw[ai]at q;cases q;exact new
 .rw[af hb]at q
  by_cases Fp:b=e
  .have q':H b=some (.own x):=by
    rcases he with z|z
    .exact absurd (Fp.trans z) hb
    .rw[Fp];exact z
   rw[q]at q';cases q'
   obtain⟨v,hv⟩:=KW
   exact⟨v,by rw[Fp];exact hv⟩
  .refine(ok b u q).BV (λc v hc r=>k c v ?_ r) (λc r=>by rw[af (LR c b r)];exact r) λc xs r=>by rw[af (OS c xs r)];exact r
   rcases hc with rfl|hc
   .exact Fp
   .rintro rfl
    rcases he with z|z
    .exact LR c b hc z
    .rw[hc]at z;cases z;exact hb rfl
structure Un(fs ex:List Addr)(H H':Hp)(h h':Heap):Prop where
 keep:∀b o,h.get? b=some o->H b=none->b∉fs->b∉ex->h'.get? b=some o
 slot:∀b o,h.get? b=some o->H b=none->b∈fs->b∉ex->∃sl,h'.get? b=some {o with slots:=sl}
 free:∀b o,h.get? b=some o->H b=none->b∉ex->H' b=none
 there:∀b o,h.get? b=some o->b∉ex->∃o',h'.get? b=some o'
 Cq:∀b xs,H b=some (.tup xs)->H' b=some (.tup xs)
 C3:∀b o u,H b=some (.Ay o u)->H' b=some (.Ay o u)
 Dp:∀b ps,H b=some (.Ib ps)->∃more,H' b=some (.Ib (ps++more))
section
variable{fs Tz ex UT:List Addr}{H1 H2:Hp}{h1 h2:Heap}
theorem Un.any(u:Un fs ex H H1 h h1){ob:Obj}(q:h.get? b=some ob)(n:H b=none)(hx:b∉ex):∃sl,h1.get? b=some {ob with slots:=sl}:=by
 by_cases hb:b∈fs
 .exact u.slot b ob q n hb hx
 .exact⟨ob.slots,u.keep b ob q n hb hx⟩
theorem Un.kept(k:∀b u,h.get? b=some u->h'.get? b=some u):Un fs ex H H h h' :=
 ⟨λb ob q _ _ _=>k b ob q,λb ob q _ _ _=>⟨ob.slots,k b ob q⟩,λ_ _ _ n _=>n,λb ob q _=>⟨ob,k b ob q⟩,λ_ _ q=>q,λ_ _ _ q=>q,λ_ ps q=>⟨#[],by rw[q];simp⟩⟩
theorem Un.refl:Un fs ex H H h h:=Un.kept λ_ _ q=>q
theorem Un.laid(k:∀b u,h.get? b=some u->h'.get? b=some u)(hp:h.objs.size<=a)(hn:H a=none):Un fs ex H (upd H a o) h h' where
 keep:=λb u q _ _ _=>k b u q
 slot:=λb u q _ _ _=>⟨u.slots,k b u q⟩
 free:=λb u q n _=>by rw[af (aaw (aaA (aak q) hp))];exact n
 there:=λb u q _=>⟨u,k b u q⟩
 Cq:=λb xs q=>by rw[af (av q hn)];exact q
 C3:=λb u xs q=>by rw[af (av q hn)];exact q
 Dp:=λb ps q=>⟨#[],by rw[af (av q hn),q];simp⟩
theorem Un.write(mu:M6 (H x))(he:e=x\/H e=some (.own x))(k:∀b u,b≠e->h.get? b=some u->h'.get? b=some u)(KW:∃u,h'.get? e=some u):Un fs ex H (upd H x o) h h':=by
 have hx:∀b,H b=none->b≠x:=λb n z=>by subst z;rw[n]at mu;exact mu
 have hb:∀b,H b=none->b≠e:=λb n z=>by
  subst z
  rcases he with r|r
  .exact hx b n r
  .rw[n]at r;cases r
 have hm:∀b u,H b=some u->¬ M6 (some u)->b≠x:=λb u q nm z=>by subst z;rw[q]at mu;exact nm mu
 refine⟨λb u q n _ _=>k b u (hb b n) q,λb u q n _ _=>⟨u.slots,k b u (hb b n) q⟩,λb u q n _=>by rw[af (hx b n)];exact n,λb u q _=>?_,
  λb xs q=>by rw[af (hm b _ q λz=>z)];exact q,λb u xs q=>by rw[af (hm b _ q λz=>z)];exact q,λb ps q=>⟨#[],by rw[af (hm b _ q λz=>z),q];simp⟩⟩
 by_cases Fp:b=e
 .subst Fp;exact KW
 .exact⟨u,k b u Fp q⟩
end
def Nl(h:Heap)(H:Hp):List Addr:=(aaS h.objs.size).filter λa=>(H a).isSome
def Cu(h:Heap)(H:Hp):Heap:=PySem.W.hideAll h (Nl h H)
theorem rg(h:Heap)(H:Hp):(Cu h H).objs.size=h.objs.size:=PySem.W.hideAll_size _ _
theorem tf{o:Obj}(e:h.get? b=some o)(n:H b=none):(Cu h H).get? b=some o :=
 PySem.W.hideAll_get _ e λhm=>by
  have q:(H b).isSome=true:=(List.mem_filter.mp hm).2
  rw[n]at q;simp at q
theorem uT{o:Obj}(e:(Cu h H).get? b=some o):h.get? b=some o/\H b=none:=by
 have e':h.get? b=some o:=PySem.W.of_hideAll (Nl h H) e
 refine⟨e',?_⟩
 cases q:H b with
 |none=>rfl
 |some x=>
  have hm:b∈Nl h H:=List.mem_filter.mpr ⟨List.mem_range.mpr (aak e'),by simp[q]⟩
  have z:(Cu h H).get? b=none:=PySem.W.hideAll_none (Nl h H) hm
  rw[z]at e;cases e
def gZ(g h:Heap)(L:Addr):List (Addr×Obj):=(aaS h.objs.size).filterMap λa=>if a=L\/(g.get? a).isSome=true then none else (h.get? a).map λo=>(a,o)
variable{g:Heap}{L:Addr}
theorem dU{o:Obj}(h1:a≠L)(h2:g.get? a=none)(h3:h.get? a=some o):(a,o)∈gZ g h L :=
 List.mem_filterMap.mpr ⟨a,List.mem_range.mpr (aak h3),by simp[h1,h2,h3]⟩
theorem kc{p:Addr×Obj}(hp:p∈gZ g h L):p.1≠L/\g.get? p.1=none/\h.get? p.1=some p.2:=by
 obtain⟨b,_,e⟩:=List.mem_filterMap.mp hp
 split at e
 .cases e
 .rename_i hn
  cases q:h.get? b with
  |none=>rw[q]at e;simp at e
  |some u=>
   rw[q]at e
   simp only[Option.map_some,aeu]at e
   subst e
   refine⟨λz=>hn (.inl z),?_,q⟩
   show g.get? b=none
   cases r:g.get? b with
   |none=>rfl
   |some v=>exact(hn (.inr (by simp[r]))).elim
theorem iR:News g L h (gZ g h L):=λp hp=>let ⟨a,b,c⟩:=kc hp;⟨c,a,b⟩
structure Mod(K:aag)(mg:Str->Option Value)(base:Heap):Prop where
 kin:K.In base
 glob:base.Ns aaJ mg
 blt:∃mb,base.Ns aes mb/\∀x:Str,x ≠ "__name__" -> mb x=acg x
 nolimit:base.NoLimit
structure Cx where
 prog:aaE
 w:World
 K:aag
 mg:Str->Option Value
 base:Heap
 A:Around
 N:List Str
 s₀:Shared
 H₀:Hp
 env:Env
 outer:List Env
 stack:List Env
 ex:List Addr
 fn:Str->Bool
 calm:Bool
 pn:List (Addr×Obj)
 xe:Value->Shared->Prop
def GL(l:List Env):List Addr:=l.filterMap (·.frame)
abbrev Cx.fs(X:Cx):List Addr:=GL X.outer
def Dj(sc:Scope)(x:Str):Prop:=sc.names.lookup x=some .local\/sc.names.lookup x=some .cell\/sc.names.lookup x=some .free
def Loc(sc:Scope)(x:Str):Prop:=sc.names.lookup x=some .local\/sc.names.lookup x=some .cell
def Look(env:Env)(h:Heap)(m:Str->Option Value)(x:Str)(u:Value):Prop :=
 (env.kindOf x=some .local/\m x=some u)\/((env.kindOf x=some .cell\/env.kindOf x=some .free)/\∃c,env.cells.lookup x=some c/\h.IsCell c (some u))
structure Cx.Ok(X:Cx):Prop where
 mod:Mod X.K X.mg X.base
 kind:X.env.scope.kind=.function
 glob:X.env.globals=aaJ
 blt:X.env.builtins=aes
 above:X.s₀.heap.objs.size<=X.env.locals
 inj:∀x y c,X.env.cells.lookup x=some c->X.env.cells.lookup y=some c->x=y
 has:∀x,(X.env.kindOf x=some .cell\/X.env.kindOf x=some .free)->∃c,X.env.cells.lookup x=some c
 MT:∀x c,X.fn x=true->X.env.cells.lookup x=some c->X.s₀.heap.objs.size<=c
 hd:X.calm=true->X.A.handled=none
 frames:X.A.frames=some X.stack
 Nq:X.stack=X.outer\/(X.stack=X.env::X.outer/\X.env.frame=some X.env.locals)
 RC:∀b∈X.ex,b≠X.env.locals/\∀x c,X.env.cells.lookup x=some c->c≠b
 bs:∀b o,X.base.get? b=some o->X.s₀.heap.get? b=some o/\X.H₀ b=none
 HU:X.base.objs.size<=X.s₀.heap.objs.size
 Gm:∀b o,X.base.get? b=some o->b∉X.ex
 HN:∀b∈X.ex,b∉X.fs
 BL:X.s₀.heap.FunFrames X.base X.outer
 J5:∀b∈X.fs,X.H₀ b=none
structure Inv(X:Cx)(pins:List (Addr×Obj))(σ:List (Option V))(H:Hp)(s:Shared):Prop where
 ok:X.Ok
 os:s.os=X.s₀.os
 bare:aeg s.gens
 base:Un X.fs X.ex X.H₀ H X.s₀.heap s.heap
 loc:∃m,s.heap.Ns X.env.locals m/\∀(i:Nat) (x:Str) (v:V),X.N[i]?=some x->σ[i]?=some (some v)->Dj X.env.scope x->∃u,RelV v u/\Look X.env s.heap m x u
 cell:∀x c,X.env.cells.lookup x=some c->∃v,s.heap.IsCell c v
 free:H X.env.locals=none
 Ai:∀x c,X.env.cells.lookup x=some c->H c=none
 pin:∀p∈X.pn++pins,s.heap.get? p.1=some p.2/\H p.1=none/\p.1≠X.env.locals/\p.1∉X.fs/\∀v,p.2.data≠.cell v
 ye:AA X.prog X.w H s.heap
 len:σ.length=X.N.length
variable{X:Cx}{pins:List (Addr×Obj)}{σ:List (Option V)}{s:Shared}
theorem Cx.Ok.OU(ok:X.Ok){o:Obj}(e:X.base.get? b=some o):b∉X.fs:=λhb=>by
 have:=(ok.BL.mem hb).1
 rw[e]at this;cases this
theorem Inv.bs(I:Inv X pins σ H s):∀b o,X.base.get? b=some o->s.heap.get? b=some o/\H b=none:=λb o e=>
 ⟨I.base.keep b o (I.ok.bs b o e).1 (I.ok.bs b o e).2 (I.ok.OU e) (I.ok.Gm b o e),I.base.free b o (I.ok.bs b o e).1 (I.ok.bs b o e).2 (I.ok.Gm b o e)⟩
theorem Inv.bk(I:Inv X pins σ H s):∀b o,X.base.get? b=some o->s.heap.get? b=some o:=λb o e=>(I.bs b o e).1
theorem Inv.mod(I:Inv X pins σ H s):Mod X.K X.mg X.base:=I.ok.mod
theorem Inv.CI(I:Inv X pins σ H s):X.K.In s.heap:=I.ok.mod.kin.keeps I.bk
theorem Inv.fr(I:Inv X pins σ H s):∃m,Fr X.base X.env.locals s.heap m :=
 let ⟨m,hn,_⟩:=I.loc
 ⟨m,hn,I.bk,aaZ I.ok.HU I.ok.above⟩
theorem Inv.lt(I:Inv X pins σ H s):X.env.locals<s.heap.objs.size:=let ⟨_,hn,_⟩:=I.loc;hn.lt
theorem Inv.sz(I:Inv X pins σ H s):X.s₀.heap.objs.size<=s.heap.objs.size:=aaZ I.ok.above (aeG I.lt)
theorem Inv.OT(I:Inv X pins σ H s)(h:s.heap.objs.size<=a):a∉X.fs:=λhb=>by
 obtain⟨_,o,ho,_⟩:=I.ok.BL.mem hb
 exact absurd (aaA (aak ho) (aaZ I.sz h)) (abd _)
theorem Inv.Kk(I:Inv X pins σ H s):∀x c,X.env.cells.lookup x=some c->c≠X.env.locals:=λx c e z=>by
 obtain⟨v,o,ho,hd⟩:=I.cell x c e
 obtain⟨m,⟨o',es,ep,Di,JW,_⟩,_⟩:=I.loc
 rw[z,Di]at ho;cases ho;rw[JW]at hd;cases hd
theorem Inv.BL(I:Inv X pins σ H s):s.heap.FunFrames X.base X.outer:=by
 have all:∀(l:List Env),(∀b∈GL l,b∈X.fs)->X.s₀.heap.FunFrames X.base l->s.heap.FunFrames X.base l:=by
  intro l
  induction l with
  |nil=>intro _ _;trivial
  |cons env r ih=>
   intro hs hl
   obtain⟨hk,⟨L,o,hf,hn,ho,hd⟩,hr⟩:=hl
   have hL:L∈X.fs:=hs L (by unfold GL;rw[abZ,hf];exact aay)
   obtain⟨sl,e⟩:=I.base.slot L o ho (I.ok.J5 L hL) hL λz=>I.ok.HN L z hL
   exact⟨hk,⟨L,_,hf,hn,e,hd⟩,ih (λb hb=>hs b (by unfold GL;rw[abZ,hf];exact aar _ hb)) hr⟩
 exact all X.outer (λ_ hb=>hb) I.ok.BL
theorem Inv.stack(I:Inv X pins σ H s):s.heap.FunFrames X.base X.stack:=by
 rcases I.ok.Nq with e|⟨e,hf⟩
 .rw[e];exact I.BL
 .rw[e]
  obtain⟨m,hn,_⟩:=I.loc
  refine .cons (by rw[I.ok.kind];decide) hf hn ?_ I.BL
  exact Heap.get?_none_of_le (aaZ I.ok.HU I.ok.above)
theorem Inv.Bg(I:Inv X pins σ H s):∀b∈GL X.stack,b∈X.env.locals::X.fs:=λb hb=>by
 rcases I.ok.Nq with e|⟨e,hf⟩
 .rw[e]at hb;exact aar _ hb
 .rw[e]at hb
  unfold GL at hb
  rw[abZ,hf]at hb
  exact hb
theorem Inv.EK(I:Inv X pins σ H s):∀b∈GL X.stack,H b=none:=λb hb=>by
 rcases List.mem_cons.mp (I.Bg b hb)with e|hb
 .rw[e];exact I.free
 .obtain⟨_,o,ho,_⟩:=I.ok.BL.mem hb
  exact I.base.free b o ho (I.ok.J5 b hb) λz=>I.ok.HN b z hb
variable{t':Nat}
theorem Inv.step{g':Array GenState}{d':Drawn}{ch:List Addr}(I:Inv X pins σ H s)
  (Hg:∀b∈ch,(b∈X.ex\/X.s₀.heap.objs.size<=b)/\b≠X.env.locals/\(∀x c,X.env.cells.lookup x=some c->c≠b)/\∀p∈X.pn++pins,p.1≠b)
  (keep:∀b o,b≠X.env.locals->b∉X.fs->b∉ch->s.heap.get? b=some o->H b=none->h'.get? b=some o)
  (slot:∀b o,b≠X.env.locals->b∈X.fs->b∉ch->s.heap.get? b=some o->H b=none->∃sl,h'.get? b=some {o with slots:=sl}) (free:∀b o,b∉ch->s.heap.get? b=some o->H b=none->H' b=none)
  (there:∀b o,b∉ch->s.heap.get? b=some o->∃o',h'.get? b=some o')
  (Cq:∀b xs,H b=some (.tup xs)->H' b=some (.tup xs)) (C3:∀b o u,H b=some (.Ay o u)->H' b=some (.Ay o u)) (Dp:∀b ps,H b=some (.Ib ps)->∃more,H' b=some (.Ib (ps++more)))
  (ns:∀m,s.heap.Ns X.env.locals m->h'.Ns X.env.locals m) (ye:AA X.prog X.w H' h') (hg:aeg g') :
  Inv X pins σ H' {s with heap:=h',gens:=g',drawn:=d',toks:=t'}:=by
 have Q5:∀b o,X.s₀.heap.get? b=some o->b≠X.env.locals:=λb o e=>aaw (aaA (aak e) I.ok.above)
 have KG:∀b o,X.s₀.heap.get? b=some o->b∉X.ex->b∉ch:=λb o e hx hb=>by
  rcases(Hg b hb).1 with z|z
  .exact hx z
  .exact absurd (aaA (aak e) z) (abd _)
 have cellK:∀x c,X.env.cells.lookup x=some c->∀v,s.heap.IsCell c v->h'.IsCell c v:=λx c e v ⟨o,ho,hd⟩=>by
  have LY:c∉ch:=λz=>(Hg c z).2.2.1 x c e rfl
  by_cases hc:c∈X.fs
  .obtain⟨sl,q⟩:=slot c o (I.Kk x c e) hc LY ho (I.Ai x c e)
   exact⟨_,q,hd⟩
  .exact⟨o,keep c o (I.Kk x c e) hc LY ho (I.Ai x c e),hd⟩
 refine⟨I.ok,I.os,hg,⟨λb o e n hb hx=>?_,λb o e n hb hx=>?_,λb o e n hx=>?_,λb o e hx=>?_,λb xs e=>Cq b xs (I.base.Cq b xs e),λb o xs e=>C3 b o xs (I.base.C3 b o xs e),λb ps e=>?_⟩,?_,λx c e=>?_,?_,λx c e=>?_,λp hp=>?_,ye,I.len⟩
 .exact keep b o (Q5 b o e) hb (KG b o e hx) (I.base.keep b o e n hb hx) (I.base.free b o e n hx)
 .obtain⟨sl,e1⟩:=I.base.slot b o e n hb hx
  obtain⟨R0,e2⟩:=slot b _ (Q5 b o e) hb (KG b o e hx) e1 (I.base.free b o e n hx)
  exact⟨R0,e2⟩
 .obtain⟨o',e1⟩:=I.base.there b o e hx
  exact free b o' (KG b o e hx) e1 (I.base.free b o e n hx)
 .obtain⟨o',e1⟩:=I.base.there b o e hx
  exact there b o' (KG b o e hx) e1
 .obtain⟨m1,e1⟩:=I.base.Dp b ps e
  obtain⟨m2,e2⟩:=Dp b _ e1
  exact⟨m1++m2,by rw[e2,Array.append_assoc]⟩
 .obtain⟨m,hn,hl⟩:=I.loc
  refine⟨m,ns m hn,λi x v e1 e2 e3=>?_⟩
  obtain⟨u,r,l⟩:=hl i x v e1 e2 e3
  refine⟨u,r,?_⟩
  rcases l with l|⟨k,c,e,z⟩
  .exact .inl l
  .exact .inr ⟨k,c,e,cellK x c e _ z⟩
 .obtain⟨v,z⟩:=I.cell x c e
  exact⟨v,cellK x c e v z⟩
 .obtain⟨m,⟨o,_,_,ho,_⟩,_⟩:=I.loc
  exact free _ o (λz=>(Hg _ z).2.1 rfl) ho I.free
 .obtain⟨v,o,ho,hd⟩:=I.cell x c e
  exact free c o (λz=>(Hg c z).2.2.1 x c e rfl) ho (I.Ai x c e)
 .obtain⟨e,n,ne,nf,d⟩:=I.pin p hp
  have LY:p.1∉ch:=λz=>(Hg p.1 z).2.2.2 p hp rfl
  exact⟨keep p.1 p.2 ne nf LY e n,free p.1 p.2 LY e n,ne,nf,d⟩
theorem Inv.un(I:Inv X pins σ H s)(u:Un X.fs [] H H' s.heap h')(ye:AA X.prog X.w H' h'):Inv X pins σ H' {s with heap:=h',toks:=t'}:=by
 obtain⟨m,⟨o,es,ep,ho,r⟩,_⟩:=id I.loc
 obtain⟨sl,hL⟩:=u.any ho I.free (by simp)
 exact I.step (g':=s.gens) (d':=s.drawn) (ch:=[]) (λ_ z=>nomatch z) (λb o _ hb _ e n=>u.keep b o e n hb (by simp)) (λb o _ hb _ e n=>u.slot b o e n hb (by simp)) (λb o _ e n=>u.free b o e n (by simp)) (λb o _ e=>u.there b o e (by simp)) u.Cq u.C3 u.Dp (λm' hm=>by
  obtain⟨o',NV,NW,Di,r'⟩:=hm
  rw[ho]at Di;cases Di
  exact⟨_,NV,NW,hL,r'⟩) ye I.bare
theorem Inv.call{g':Array GenState}{d':Drawn}{ch:List Addr}(I:Inv X pins σ H s)(u:Un (GL X.stack) ch H H' s.heap h')(ye:AA X.prog X.w H' h')(hg:aeg g')
  (Hg:∀b∈ch,(b∈X.ex\/X.s₀.heap.objs.size<=b)/\b≠X.env.locals/\(∀x c,X.env.cells.lookup x=some c->c≠b)/\∀p∈X.pn++pins,p.1≠b) :
  Inv X pins σ H' {s with heap:=h',gens:=g',drawn:=d',toks:=t'}:=by
 obtain⟨m,⟨o,es,ep,ho,r⟩,_⟩:=id I.loc
 obtain⟨sl,hL⟩:=u.any ho I.free λz=>(Hg _ z).2.1 rfl
 exact I.step (ch:=ch) Hg (λb o hL hb hc e n=>u.keep b o e n (λz=>(List.mem_cons.mp (I.Bg b z)).elim hL hb) hc) (λb o _ _ hc e n=>u.any e n hc) (λb o hc e n=>u.free b o e n hc) (λb o hc e=>u.there b o e hc) u.Cq u.C3 u.Dp (λm' hm=>by
  obtain⟨o',NV,NW,Di,r'⟩:=hm
  rw[ho]at Di;cases Di
  exact⟨_,NV,NW,hL,r'⟩) ye hg
variable{it:Addr}
theorem Inv.turned(I:Inv X pins σ H s)(k:∀b o,b≠it->s.heap.get? b=some o->h'.get? b=some o)(hn:H it=none)(hL:it≠X.env.locals)
  (h1:it∈X.ex\/X.s₀.heap.objs.size<=it) (h2:∀x c,X.env.cells.lookup x=some c->c≠it) (h3:∀p∈X.pn++pins,p.1≠it):Inv X pins σ H {s with heap:=h',toks:=t'}:=by
 have LU:∀b u,H b=some u->b≠it:=λb u e z=>by rw[z,hn]at e;cases e
 refine I.step (g':=s.gens) (d':=s.drawn) (ch:=[it]) (λb hb=>?_) (λb o _ _ hc e _=>k b o (λz=>hc (by simp[z])) e) (λb o _ _ hc e _=>⟨o.slots,k b o (λz=>hc (by simp[z])) e⟩) (λ_ _ _ _ n=>n)
  (λb o hc e=>⟨o,k b o (λz=>hc (by simp[z])) e⟩) (λ_ _ e=>e) (λ_ _ _ e=>e) (λb ps e=>⟨#[],by rw[e];simp⟩) (λm hm=>?_) (λb u e=>?_) I.bare
 .have e:b=it:=by simpa using hb
  subst e
  exact⟨h1,hL,h2,h3⟩
 .obtain⟨o,es,ep,ho,r⟩:=hm
  exact⟨o,es,ep,k _ o (abO hL) ho,r⟩
 .refine(I.ye b u e).BV (λc v hc q=>k c v ?_ q) (λ_ q=>q) λ_ _ q=>q
  rcases hc with z|z
  .rw[z];exact LU b u e
  .exact LU c _ z
theorem Inv.tok(I:Inv X pins σ H s)(t:Nat):Inv X pins σ H {s with toks:=t}:=I.un (h':=s.heap) (t':=t) Un.refl I.ye
theorem Inv.kept(I:Inv X pins σ H s)(k:∀b u,s.heap.get? b=some u->h'.get? b=some u):Inv X pins σ H {s with heap:=h',toks:=t'}:=I.un (Un.kept k) (I.ye.kept k)
theorem Inv.laid(I:Inv X pins σ H s)(k:∀b u,s.heap.get? b=some u->h'.get? b=some u)(hp:s.heap.objs.size<=a)(new:yk X.prog X.w (upd H a o) h' a o):
  Inv X pins σ (upd H a o) {s with heap:=h',toks:=t'}:=I.un (Un.laid k hp (I.ye.fresh hp)) (I.ye.laid k hp new)
theorem Inv.write(I:Inv X pins σ H s)(mu:M6 (H x))(he:e=x\/H e=some (.own x))(k:∀b u,b≠e->s.heap.get? b=some u->h'.get? b=some u)(KW:∃u,h'.get? e=some u)
  (new:yk X.prog X.w (upd H x o) h' x o):Inv X pins σ (upd H x o) {s with heap:=h',toks:=t'}:=I.un (Un.write mu he k KW) (I.ye.write mu he k KW new)
theorem Inv.weak{σ':List (Option V)}(I:Inv X pins σ H s)(hl:σ'.length=σ.length)(w:∀(i:Nat) v,σ'[i]?=some (some v)->σ[i]?=some (some v)):Inv X pins σ' H s :=
 ⟨I.ok,I.os,I.bare,I.base,let ⟨m,hn,Fk⟩:=I.loc;⟨m,hn,λi x v e1 e2 e3=>Fk i x v e1 (w i v e2) e3⟩,I.cell,I.free,I.Ai,I.pin,I.ye,hl.trans I.len⟩
theorem Inv.EO{Im:List (Addr×Obj)}(I:Inv X pins σ H s)(h:∀p∈Im,s.heap.get? p.1=some p.2/\H p.1=none/\p.1≠X.env.locals/\p.1∉X.fs/\∀v,p.2.data≠.cell v):Inv X Im σ H s :=
 ⟨I.ok,I.os,I.bare,I.base,I.loc,I.cell,I.free,I.Ai,λp hp=>(List.mem_append.mp hp).elim (λz=>I.pin p (abo _ z)) (h p),I.ye,I.len⟩
variable{N:List Str}{i j:Nat}
theorem mo(hN:N.Nodup){x:Str}(a:N[i]?=some x)(b:N[j]?=some x):i=j:=by
 obtain⟨h1,e1⟩:=List.getElem?_eq_some_iff.mp a
 obtain⟨h2,e2⟩:=List.getElem?_eq_some_iff.mp b
 exact(abh hN).mp (e1.trans e2.symm)
variable{M:Model}{A:Around}{E:Value->Shared->Prop}{v:V}{Q:Unit->Shared->Prop}
theorem fU{x:Str}(I:Inv X pins σ H s)(hN:X.N.Nodup)(hi:X.N[i]?=some x)(hx:Loc X.env.scope x)(r:RelV v u)
  (h:∀s',Inv X pins (σ.set i (some v)) H s'->(∃a,aeI a s.heap s'.heap/\(a=X.env.locals\/X.env.cells.lookup x=some a))->Q () s') (hf:X.fn x=true\/X.env.scope.names.lookup x=some .local:=by first|exact .inl rfl|exact .inr rfl|assumption):wpAny M A (storeName X.env x u) Q E s:=by
 obtain⟨m,hn,hl⟩:=id I.loc
 have PR:(X.env.scope.kind==.class || (X.env.scope.kind==.module && X.env.locals != X.env.globals))=false:=by rw[I.ok.kind];rfl
 have hiσ:i<σ.length:=by rw[I.len];exact(List.getElem?_eq_some_iff.mp hi).1
 have Kk:=I.Kk
 have tracked:∀{a:Addr} {h':Heap},(∃o,s.heap.get? a=some o/\H a=none)->aeI a s.heap h'->AA X.prog X.w H h':=λ{a h'} ha hs b ob e=>by
  obtain⟨_,_,CK⟩:=ha
  refine(I.ye b ob e).BV (λc w' hc q=>(hs.2 c ?_).trans q) (λ_ q=>q) λ_ _ q=>q
  rintro rfl
  rcases hc with rfl|hc
  .rw[CK]at e;cases e
  .rw[CK]at hc;cases hc
 rcases hx with hk|hk
 .refine wpAny_storeName_local hk hn (λh' HE hs=>?_) PR
  obtain⟨oL,_,_,DX,_⟩:=id hn
  refine h _ ⟨I.ok,I.os,I.bare,⟨λb o e n hb hx=>?_,λb o e n hb hx=>?_,I.base.free,λb o e hx=>?_,I.base.Cq,I.base.C3,I.base.Dp⟩,⟨_,HE,λj y v' e1 e2 e3=>?_⟩,λy c e=>?_,I.free,I.Ai,λp hp=>?_,tracked ⟨oL,DX,I.free⟩ hs,by simpa using I.len⟩ ⟨_,hs,.inl rfl⟩
  .exact(hs.2 b (aaw (aaA (aak e) I.ok.above))).trans (I.base.keep b o e n hb hx)
  .obtain⟨sl,e1⟩:=I.base.slot b o e n hb hx
   exact⟨sl,(hs.2 b (aaw (aaA (aak e) I.ok.above))).trans e1⟩
  .obtain⟨o',e1⟩:=I.base.there b o e hx
   exact⟨o',(hs.2 b (aaw (aaA (aak e) I.ok.above))).trans e1⟩
  .by_cases hj:j=i
   .subst hj
    rw[hi]at e1;cases e1
    rw[aco hiσ]at e2
    cases e2
    exact⟨u,r,.inl ⟨hk,by simp⟩⟩
   .rw[aaD (abO hj)]at e2
    obtain⟨u',r',q⟩:=hl j y v' e1 e2 e3
    refine⟨u',r',?_⟩
    rcases q with ⟨k,e⟩|⟨k,c,e,z⟩
    .refine .inl ⟨k,?_⟩
     have:y≠x:=λe=>hj (mo hN e1 (e ▸ hi))
     simp[this,e]
    .exact .inr ⟨k,c,e,z.sameBut hs (Kk y c e)⟩
  .obtain⟨w',z⟩:=I.cell y c e
   exact⟨w',z.sameBut hs (Kk y c e)⟩
  .obtain⟨e,n,ne,nf,d⟩:=I.pin p hp
   exact⟨(hs.2 p.1 ne).trans e,n,ne,nf,d⟩
 .have PJ:X.fn x=true:=by
   rcases hf with z|z
   .exact z
   .rw[z]at hk;cases hk
  obtain⟨c,hc⟩:=I.ok.has x (.inl hk)
  obtain⟨w',z⟩:=I.cell x c hc
  refine wpAny_storeName_cell I.ok.kind hk hc z (λh' Dz hs=>?_)
  obtain⟨oc,KP,Po⟩:=id z
  refine h {s with heap:=h'} ⟨I.ok,I.os,I.bare,⟨λb o e n hb hx=>?_,λb o e n hb hx=>?_,I.base.free,λb o e hx=>?_,I.base.Cq,I.base.C3,I.base.Dp⟩,⟨m,hn.sameBut hs (abO (Kk x c hc)),λj y v' e1 e2 e3=>?_⟩,λy c' e=>?_,I.free,I.Ai,λp hp=>?_,tracked ⟨oc,KP,I.Ai x c hc⟩ hs,by simpa using I.len⟩ ⟨c,hs,.inr hc⟩
  .exact(hs.2 b (aaw (aaA (aak e) (I.ok.MT x c PJ hc)))).trans (I.base.keep b o e n hb hx)
  .obtain⟨sl,e1⟩:=I.base.slot b o e n hb hx
   exact⟨sl,(hs.2 b (aaw (aaA (aak e) (I.ok.MT x c PJ hc)))).trans e1⟩
  .obtain⟨o',e1⟩:=I.base.there b o e hx
   exact⟨o',(hs.2 b (aaw (aaA (aak e) (I.ok.MT x c PJ hc)))).trans e1⟩
  .by_cases hj:j=i
   .subst hj
    rw[hi]at e1;cases e1
    rw[aco hiσ]at e2
    cases e2
    exact⟨u,r,.inr ⟨.inl hk,c,hc,Dz⟩⟩
   .rw[aaD (abO hj)]at e2
    obtain⟨u',r',q⟩:=hl j y v' e1 e2 e3
    refine⟨u',r',?_⟩
    rcases q with q|⟨k,c',e,z'⟩
    .exact .inl q
    .refine .inr ⟨k,c',e,z'.sameBut hs ?_⟩
     rintro rfl
     exact hj (mo hN e1 (I.ok.inj _ _ _ e hc ▸ hi))
  .by_cases PU:c'=c
   .subst PU;exact⟨_,Dz⟩
   .obtain⟨w2,z2⟩:=I.cell y c' e
    exact⟨w2,z2.sameBut hs PU⟩
  .obtain⟨e,n,ne,nf,d⟩:=I.pin p hp
   refine⟨(hs.2 p.1 ?_).trans e,n,ne,nf,d⟩
   intro q
   rw[q,KP]at e
   have q':oc=p.2:=aao e
   exact d w' (by rw[<- q'];exact Po)
theorem fo{x:Str}(I:Inv X pins σ H s)(hN:X.N.Nodup)(hi:X.N[i]?=some x)(hx:Loc X.env.scope x)(r:RelV v u)
  (h:∀s',Inv X pins (σ.set i (some v)) H s'->Q () s') (hf:X.fn x=true\/X.env.scope.names.lookup x=some .local:=by first|exact .inl rfl|exact .inr rfl|assumption):wpAny M A (storeName X.env x u) Q E s :=
 fU I hN hi hx r (λs' I' _=>h s' I') hf
variable{s':Shared}
theorem Inv.MS{ch:List Addr}(I:Inv X pins σ H s)(ho:s'.os=s.os)(u:Un (GL X.stack) ch H H' s.heap s'.heap)(ye:AA X.prog X.w H' s'.heap)(hg:aeg s'.gens)
  (Hg:∀b∈ch,(b∈X.ex\/X.s₀.heap.objs.size<=b)/\b≠X.env.locals/\(∀x c,X.env.cells.lookup x=some c->c≠b)/\∀p∈X.pn++pins,p.1≠b):Inv X pins σ H' s':=by
 obtain⟨h',g',d',t',o'⟩:=s'
 have e:o'=s.os:=ho
 subst e
 exact I.call (g':=g') (t':=t') (d':=d') u ye hg Hg
abbrev XK:=Value->Option Addr->Hp->Prop
abbrev St:=List (Option V)
abbrev VK:=V->Hp->Prop
abbrev TE:=St->Hp->VK->Prop
abbrev TT:=St->Hp->(Bool->Hp->Prop)->Prop
abbrev TA:=St->Hp->(List V->Hp->Prop)->Prop
structure Ends where
 nx:St->Hp->Prop
 rt:VK
 bk:St->Hp->Prop:=λ_ _=>False
 ct:St->Hp->Prop:=λ_ _=>False
abbrev TS:=Ends->St->Hp->Prop
def EP(X:Cx)(pins:List (Addr×Obj))(σ:St)(Q:VK)(u:Value)(s':Shared):Prop:=∃v H',Inv X pins σ H' s'/\RelV v u/\Q v H'
def TP(X:Cx)(pins:List (Addr×Obj))(σ:St)(Q:Bool->Hp->Prop)(b:Bool)(s':Shared):Prop:=∃H',Inv X pins σ H' s'/\Q b H'
def AP(X:Cx)(pins:List (Addr×Obj))(σ:St)(Q:List V->Hp->Prop)(us:List Value)(s':Shared):Prop:=∃vs H',Inv X pins σ H' s'/\tO vs us/\Q vs H'
def SP(X:Cx)(pins:List (Addr×Obj))(D:Ends)(f:Flow)(s':Shared):Prop :=
 match f with
 |.next=>∃σ' H',Inv X pins σ' H' s'/\D.nx σ' H'
 |.brk=>∃σ' H',Inv X pins σ' H' s'/\D.bk σ' H'
 |.cont=>∃σ' H',Inv X pins σ' H' s'/\D.ct σ' H'
 |.ret u=>∃v σ' H',Inv X pins σ' H' s'/\RelV v u/\D.rt v H'
def PE(X:Cx)(e:Expr)(t:TE):Prop :=
 ∀(pins:List (Addr×Obj)) (s:Shared) (σ:St) (H:Hp) (Q:VK),Inv X pins σ H s->t σ H Q->wpAny (model X.prog X.w) X.A (eval e X.env) (EP X pins σ Q) X.xe s
def PT(X:Cx)(e:Expr)(t:TT):Prop :=
 ∀(pins:List (Addr×Obj)) (s:Shared) (σ:St) (H:Hp) (Q:Bool->Hp->Prop),Inv X pins σ H s->t σ H Q->wpAny (model X.prog X.w) X.A (isTrue e X.env (eval e X.env)) (TP X pins σ Q) X.xe s
def PW(X:Cx)(e:Expr)(t:TT):Prop :=
 ∀(whole:Sem Value) (pins:List (Addr×Obj)) (s:Shared) (σ:St) (H:Hp) (Q:Bool->Hp->Prop),Inv X pins σ H s->t σ H Q->wpAny (model X.prog X.w) X.A (isTrue e X.env whole) (TP X pins σ Q) X.xe s
theorem PW.pt{e:Expr}{t:TT}(h:PW X e t):PT X e t:=h _
def PA(X:Cx)(es:List Expr)(t:TA):Prop :=
 ∀(pos:Pos) (pins:List (Addr×Obj)) (s:Shared) (σ:St) (H:Hp) (Q:List V->Hp->Prop),Inv X pins σ H s->t σ H Q->wpAny (model X.prog X.w) X.A (spliced (backTo pos (aai es X.env))) (AP X pins σ Q) X.xe s
def PS(X:Cx)(st:Stmt)(t:TS):Prop :=
 ∀(pins:List (Addr×Obj)) (s:Shared) (σ:St) (H:Hp) (D:Ends),Inv X pins σ H s->t D σ H->wpAny (model X.prog X.w) X.A (exec st X.env) (SP X pins D) X.xe s
def EB(X:Cx)(st:List Stmt)(t:TS):Prop :=
 ∀(pins:List (Addr×Obj)) (s:Shared) (σ:St) (H:Hp) (D:Ends),Inv X pins σ H s->t D σ H->wpAny (model X.prog X.w) X.A (execs st X.env) (SP X pins D) X.xe s
theorem yM{t:Sem α}{Q Q':α->Shared->Prop}(h:wpAny M A t Q E s)(hQ:∀a s,Q a s->Q' a s):wpAny M A t Q' E s:=aaM h hQ λ_ _ x=>x
def yK(i:Nat):TE:=λσ H Q=>∃v,σ[i]?=some (some v)/\Q v H
def tC(v:V):TE:=λ_ H Q=>Q v H
variable{pos:Pos}
theorem wt{x:Str}(hN:X.N[i]?=some x)(hv:Dj X.env.scope x)(hd:(x==("__debug__" : Str))=false:=by decide)(Cd:(x==("__classdict__" : Str))=false:=by decide):PE X (.Name x pos) (yK i):=by
 intro pins s σ H Q I h
 obtain⟨v,e,h⟩:=h
 obtain⟨m,hn,hl⟩:=I.loc
 obtain⟨u,r,l⟩:=hl i x v hN e hv
 have fin:EP X pins σ Q u s:=⟨v,H,I,r,h⟩
 rcases l with ⟨hk,hm⟩|⟨hk,c,hc,Ac⟩
 .exact aep (wpAny_loadName_local I.ok.kind hk hn hm fin) hd
 .rcases hk with hk|hk
  .exact aep (wpAny_loadName_cell I.ok.kind hk hc Ac fin) hd
  .exact aep (wpAny_loadName_free I.ok.kind hk hc Ac fin Cd) hd
theorem aC{i j pos}:PE X (.Constant (.int i) j pos) (tC (.int i)):=λ_ _ _ H _ I h=>wpAny_Constant_int ⟨.int i,H,I.tok _,⟨_,rfl⟩,h⟩
theorem tZ{b j pos}:PE X (.Constant (.bool b) j pos) (tC (.bl b)):=λ_ _ _ H _ I h=>Constant_bool ⟨.bl b,H,I,rfl,h⟩
theorem qx{j pos}:PE X (.Constant .none j pos) (tC .lT):=λ_ _ _ H _ I h=>Constant_none ⟨.lT,H,I,rfl,h⟩
theorem wy{x j pos}:PE X (.Constant (.str x) j pos) (tC (.str x)):=λ_ _ _ H _ I h=>Calls.Constant_str ⟨.str x,H,I.tok _,⟨_,rfl⟩,h⟩
def Gl(X:Cx)(x:Str):Prop:=X.env.kindOf x=some .globalImplicit
theorem og{σ:St}{x:Str}{Q:Value->Shared->Prop}(I:Inv X pins σ H s)(hg:Gl X x)(hm:X.mg x=some u)(h:Q u s)
  (hd:(x==("__debug__" : Str))=false:=by decide):wpAny (model X.prog X.w) X.A (eval (.Name x pos) X.env) Q E s :=
 afb I.ok.kind hg (Calls.loadGlobal_global (by rw[I.ok.glob];exact I.mod.glob.keeps I.bk) hm h) hd
theorem cb{σ:St}{x:Str}{Q:Value->Shared->Prop}(I:Inv X pins σ H s)(hg:Gl X x)(hm:X.mg x=none)(hv:acg x=some u)(h:Q u s)
  (hn:x ≠ "__name__" :=by decide) (hd:(x==("__debug__" : Str))=false:=by decide):wpAny (model X.prog X.w) X.A (eval (.Name x pos) X.env) Q E s:=by
 obtain⟨mb,h1,h2⟩:=I.mod.blt
 exact afb I.ok.kind hg (Calls.loadGlobal_builtin (by rw[I.ok.glob];exact I.mod.glob.keeps I.bk) hm (by rw[I.ok.blt];exact h1.keeps I.bk) ((h2 x hn).trans hv) h) hd
theorem n4{x:Str}(hg:Gl X x)(hm:X.mg x=some u)(r:RelV v u)(hd:(x==("__debug__" : Str))=false:=by decide):PE X (.Name x pos) (tC v) :=
 λ_ _ _ H _ I h=>og I hg hm ⟨v,H,I,r,h⟩ hd
theorem uD{x:Str}(hg:Gl X x)(hm:X.mg x=none)(hv:acg x=some u)(r:RelV v u)(hn:x ≠ "__name__" :=by decide)(hd:(x==("__debug__" : Str))=false:=by decide):PE X (.Name x pos) (tC v) :=
 λ_ _ _ H _ I h=>cb I hg hm hv ⟨v,H,I,r,h⟩ hn hd
variable{a b:Expr}{ta tb:TE}
variable{tA Np:TT}{rest:List Expr}
def D7(t u:TT):TT:=λσ H Q=>t σ H λc H1=>if c=true then u σ H1 Q else Q false H1
def Lk(t u:TT):TT:=λσ H Q=>t σ H λc H1=>if c=true then Q true H1 else u σ H1 Q
def D5(t:TT):TT:=λσ H Q=>t σ H λc H1=>Q (!c) H1
theorem pw_and1(ha:PT X a tA):PW X (.BoolOp .And [a] pos) tA:=by
 intro wh pins s σ H Q I h
 refine isTrue_and (yM (ha pins s σ H Q I h) λc s1 e=>?_)
 cases c with
 |true=>exact isTrue_and_nil e
 |false=>exact e
theorem pw_or1(ha:PT X a tA):PW X (.BoolOp .Or [a] pos) tA:=by
 intro wh pins s σ H Q I h
 refine isTrue_or (yM (ha pins s σ H Q I h) λc s1 e=>?_)
 cases c with
 |false=>exact isTrue_or_nil e
 |true=>exact e
theorem pw_and(ha:PT X a tA)(hb:PW X (.BoolOp .And (b::rest) pos) Np):PW X (.BoolOp .And (a::b::rest) pos) (D7 tA Np):=by
 intro wh pins s σ H Q I h
 refine isTrue_and (yM (ha pins s σ H _ I h) λc s1 ⟨H1,I1,q1⟩=>?_)
 cases c with
 |true=>exact hb wh pins s1 σ H1 Q I1 q1
 |false=>exact⟨H1,I1,q1⟩
theorem pw_or(ha:PT X a tA)(hb:PW X (.BoolOp .Or (b::rest) pos) Np):PW X (.BoolOp .Or (a::b::rest) pos) (Lk tA Np):=by
 intro wh pins s σ H Q I h
 refine isTrue_or (yM (ha pins s σ H _ I h) λc s1 ⟨H1,I1,q1⟩=>?_)
 cases c with
 |true=>exact⟨H1,I1,q1⟩
 |false=>exact hb wh pins s1 σ H1 Q I1 q1
theorem wj(ha:PT X a tA):PT X (.UnaryOp .Not a pos) (D5 tA):=by
 intro pins s σ H Q I h
 exact isTrue_not (ha pins s σ H (λc H1=>Q (!c) H1) I h)
def Lw(ta tb:TE):TE:=λσ H Q=>ta σ H λx H1=>∃c,x=.bl c/\if c=true then tb σ H1 Q else Q (.bl false) H1
def Lm(ta:TE):TE:=λσ H Q=>ta σ H λx H1=>∃c,x=.bl c/\Q (.bl (!c)) H1
theorem wz{op}{t:TE}(h:PE X a t):PE X (.BoolOp op [a] pos) t:=λpins s σ H Q I hw=>BoolOp_one (h pins s σ H Q I hw)
theorem wC(ha:PE X a ta)(hb:PE X (.BoolOp .And (b::rest) pos) tb):PE X (.BoolOp .And (a::b::rest) pos) (Lw ta tb):=by
 intro pins s σ H Q I h
 refine BoolOp_and (yM (ha pins s σ H _ I h) λv s1 ⟨x,H1,I1,r1,q1⟩=>?_)
 obtain⟨c,rfl,q1⟩:=q1
 cases r1
 refine acs ?_
 cases c with
 |true=>exact hb pins s1 σ H1 Q I1 q1
 |false=>exact⟨.bl false,H1,I1,rfl,q1⟩
theorem wA(ha:PE X a ta):PE X (.UnaryOp .Not a pos) (Lm ta):=by
 intro pins s σ H Q I h
 refine UnaryOp_ (yM (ha pins s σ H _ I h) λv s1 ⟨x,H1,I1,r1,q1⟩=>?_)
 obtain⟨c,rfl,q1⟩:=q1
 cases r1
 exact not_of (acs ⟨.bl (!c),H1,I1,rfl,q1⟩)
def RZ(t:TT)(ta tb:TE):TE:=λσ H Q=>t σ H λc H1=>if c=true then ta σ H1 Q else tb σ H1 Q
variable{c:Expr}
theorem sv(hc:PT X c tA)(ha:PE X a ta)(hb:PE X b tb):PE X (.IfExp c a b pos) (RZ tA ta tb):=by
 intro pins s σ H Q I h
 refine wpAny_IfExp (yM (hc pins s σ H _ I h) λd s1 ⟨H1,I1,q1⟩=>?_)
 cases d with
 |true=>exact ha pins s1 σ H1 Q I1 q1
 |false=>exact hb pins s1 σ H1 Q I1 q1
def zp(K:aag)(H:Hp)(a:Addr)(xs:List V):Prop :=
 Rd H a (.lst xs) \/
  ∃(o:Obj) (gE:Array Value) (n:Nat),K.lookup a=some o/\o.cls=.type "list" /\ o.dict=none/\o.data=.seq gE n/\gE.size<=sizeLine/\tO xs gE.toList
def zg(K:aag)(H:Hp)(a:Addr)(xs:List V):Prop :=
 Rd H a (.tup xs) \/
  ∃(o:Obj) (gE:Array Value) (n:Nat),K.lookup a=some o/\o.cls=.type "tuple" /\ o.data=.seq gE n/\gE.size<=sizeLine/\tO xs gE.toList
def Qv:Value->Option V
 |.none=>some .lT
 |.bool b=>some (.bl b)
 |.int i _=>some (.int i)
 |.str x _=>some (.str x)
 |.bytes b _=>some (.Fs b)
 |.float b _=>some (.K9 b)
 |.ref a=>some (.ref a)
 |.type n=>some (.ty n)
 |_=>none
theorem RelV.abs{x:V}(r:RelV x u):Qv u=some x:=by
 cases x with
 |lT=>cases r;rfl
 |bl _=>cases r;rfl
 |int _=>obtain⟨t,rfl⟩:=r;rfl
 |str _=>obtain⟨t,rfl⟩:=r;rfl
 |Fs _=>obtain⟨t,rfl⟩:=r;rfl
 |K9 _=>obtain⟨t,rfl⟩:=r;rfl
 |ref _=>cases r;rfl
 |ty _=>cases r;rfl
variable{y:V}
theorem RelV.inj{x:V}(r:RelV x u)(q:RelV y u):x=y:=aao (r.abs.symm.trans q.abs)
theorem tO.inj:∀{xs ys:List V} {us:List Value},tO xs us->tO ys us->xs=ys
 |_,_,_,.nil,.nil=>rfl
 |_,_,_,.cons r t,.cons r' t'=>by rw[r.inj r',tO.inj t t']
variable{σ:St}{a:Addr}{ys:List V}
variable{K:aag}
theorem zp.of(h:H a=some (.lst xs)):zp K H a xs:=.inl (.inl h)
theorem Inv.list(I:Inv X pins σ H s)(h:zp X.K H a xs):∃gE:List Value,tO xs gE/\PlainL s.heap a gE.toArray/\xs.length<=sizeLine:=by
 rcases h with h|⟨o,gE,n,hk,hc,hd,hs,hz,r⟩
 .obtain⟨z,gE,n,r,e⟩:=h.ok I.ye
  exact⟨gE,r,⟨_,n,e,rfl,rfl,rfl⟩,z⟩
 .refine⟨gE.toList,r,⟨o,n,I.CI a o hk,hc,hd,by simpa using hs⟩,?_⟩
  have e:=r.length
  simp only[abe]at e
  omega
theorem Inv.tuple(I:Inv X pins σ H s)(h:zg X.K H a xs):∃gE:List Value,tO xs gE/\IsTup s.heap a gE.toArray/\xs.length<=sizeLine:=by
 rcases h with h|⟨o,gE,n,hk,hc,hs,hz,r⟩
 .obtain⟨z,gE,r,p⟩:=h.ok I.ye
  exact⟨gE,r,p,z⟩
 .refine⟨gE.toList,r,⟨o,I.CI a o hk,hc,n,by simpa using hs⟩,?_⟩
  have e:=r.length
  simp only[abe]at e
  omega
theorem Inv.Dv(I:Inv X pins σ H s)(h:zp X.K H a xs)(h':zp X.K H a ys):xs=ys:=by
 obtain⟨gE,r,⟨o,n,e,_,_,d⟩,_⟩:=I.list h
 obtain⟨its',r',⟨o',n',e',_,_,d'⟩,_⟩:=I.list h'
 rw[e]at e';cases e'
 rw[d]at d'
 injection d' with d1 _
 have:gE=its':=by simpa using congrArg Array.toList d1
 subst this
 exact r.inj r'
theorem Inv.zR(I:Inv X pins σ H s)(h:zg X.K H a xs)(h':zg X.K H a ys):xs=ys:=by
 obtain⟨gE,r,⟨o,e,_,n,d⟩,_⟩:=I.tuple h
 obtain⟨its',r',⟨o',e',_,n',d'⟩,_⟩:=I.tuple h'
 rw[e]at e';cases e'
 rw[d]at d'
 injection d' with d1 _
 have:gE=its':=by simpa using congrArg Array.toList d1
 subst this
 exact r.inj r'
abbrev Cx.Cp(X:Cx)(E:Value->Shared->Prop):Cx:={X with xe:=E}
abbrev Cx.Gk(X:Cx):Cx:=X.Cp λ_ _=>False
theorem Cx.Ok.Cp(ok:X.Ok)(E:Value->Shared->Prop):(X.Cp E).Ok :=
 ⟨ok.mod,ok.kind,ok.glob,ok.blt,ok.above,ok.inj,ok.has,ok.MT,ok.hd,ok.frames,ok.Nq,ok.RC,ok.bs,ok.HU,ok.Gm,ok.HN,ok.BL,ok.J5⟩
theorem Cx.Ok.Ao(ok:(X.Cp E).Ok):X.Ok :=
 ⟨ok.mod,ok.kind,ok.glob,ok.blt,ok.above,ok.inj,ok.has,ok.MT,ok.hd,ok.frames,ok.Nq,ok.RC,ok.bs,ok.HU,ok.Gm,ok.HN,ok.BL,ok.J5⟩
theorem Inv.Cp(I:Inv X pins σ H s)(E:Value->Shared->Prop):Inv (X.Cp E) pins σ H s:=⟨I.ok.Cp E,I.os,I.bare,I.base,I.loc,I.cell,I.free,I.Ai,I.pin,I.ye,I.len⟩
theorem Inv.Ao(I:Inv (X.Cp E) pins σ H s):Inv X pins σ H s:=⟨I.ok.Ao,I.os,I.bare,I.base,I.loc,I.cell,I.free,I.Ai,I.pin,I.ye,I.len⟩
theorem SP.Ao{D:Ends}{f:Flow}(h:SP (X.Cp E) pins D f s'):SP X pins D f s':=by
 cases f with
 |next=>obtain⟨σ',H',I,q⟩:=h;exact⟨σ',H',I.Ao,q⟩
 |brk=>obtain⟨σ',H',I,q⟩:=h;exact⟨σ',H',I.Ao,q⟩
 |cont=>obtain⟨σ',H',I,q⟩:=h;exact⟨σ',H',I.Ao,q⟩
 |ret u=>obtain⟨v,σ',H',I,r,q⟩:=h;exact⟨v,σ',H',I.Ao,r,q⟩
theorem EB.Gk{st:List Stmt}{t:TS}(h:EB X.Gk st t):EB X st t:=λpins s σ H D I hw=>
 aaM (h pins s σ H D (I.Cp _) hw) (λ_ _ q=>q.Ao) λ_ _ z=>acf z
variable{st:Stmt}{rest:List Stmt}{t u:TS}{e:Expr}{te:TE}
def Ic:TS:=λD σ H=>D.nx σ H
def FQ(t u:TS):TS:=λD σ H=>t {D with nx:=u D} σ H
theorem nV:EB X [] Ic:=λ_ _ σ H _ I h=>adN ⟨σ,H,I,h⟩
theorem bA(h1:PS X st t)(h2:EB X rest u):EB X (st::rest) (FQ t u):=by
 intro pins s σ H D I h
 refine wpAny_execs_cons (yM (h1 pins s σ H {D with nx:=u D} I h) λf s1 q=>?_)
 cases f with
 |next=>
  obtain⟨σ',H',I',q⟩:=q
  exact h2 pins s1 σ' H' D I' q
 |ret v=>exact q
 |brk=>exact q
 |cont=>exact q
theorem cS(h1:PS X st t):EB X [st] t:=by
 intro pins s σ H D I h
 refine wpAny_execs_cons (yM (h1 pins s σ H D I h) λf s1 q=>?_)
 cases f with
 |next=>exact adN q
 |ret v=>exact q
 |brk=>exact q
 |cont=>exact q
def Ls:TS:=λD σ H=>D.ct σ H
theorem nh:PS X (.Continue pos) Ls:=λ_ _ σ H _ I h=>wpAny_Continue ⟨σ,H,I,h⟩
theorem Inv.quiet(I:Inv X pins σ H s):interactive X.env=false:=by simp[interactive,I.ok.kind]
def Lp(te:TE):TS:=λD σ H=>te σ H λ_ H1=>D.nx σ H1
theorem jZ(he:PE X e te)(hs:ab9 e none pos.line X.env=pure false:=by rfl):PS X (.Expr e pos) (Lp te):=by
 intro pins s σ H D I h
 exact wpAny_Expr_any (yM (he pins s σ H _ I h) λv s1 ⟨x,H1,I1,r1,q1⟩=>⟨σ,H1,I1,q1⟩) I.quiet hs
def IX(te:TE):TS:=λD σ H=>te σ H D.rt
theorem eh(he:PE X e te):PS X (.Return (some e) pos) (IX te):=by
 intro pins s σ H D I h
 exact wpAny_Return_some (yM (he pins s σ H _ I h) λv s1 ⟨x,H1,I1,r1,q1⟩=>⟨x,σ,H1,I1,r1,q1⟩)
def Lo(c:TT)(t u:TS):TS:=λD σ H=>c σ H λb H1=>if b=true then t D σ H1 else u D σ H1
theorem tW{a b:List Stmt}{tc:TT}(hc:PT X c tc)(ha:EB X a t)(hb:EB X b u):PS X (.If c a b pos) (Lo tc t u):=by
 intro pins s σ H D I h
 refine wpAny_If (yM (hc pins s σ H _ I h) λd s1 ⟨H1,I1,q1⟩=>?_)
 cases d with
 |true=>exact ha pins s1 σ H1 D I1 q1
 |false=>exact hb pins s1 σ H1 D I1 q1
abbrev TG:=V->St->Hp->(St->Hp->Prop)->Prop
abbrev FH:=List V->St->Hp->(St->Hp->Prop)->Prop
def PG(X:Cx)(target:Expr)(t:TG):Prop :=
 ∀(pins:List (Addr×Obj)) (s:Shared) (σ:St) (H:Hp) (v:V) (u:Value) (Q:St->Hp->Prop),Inv X pins σ H s->RelV v u->t v σ H Q ->
  wpAny (model X.prog X.w) X.A (assign target X.env u) (λ_ s'=>∃σ' H',Inv X pins σ' H' s'/\Q σ' H') X.xe s
def M4(X:Cx)(ts:List Expr)(t:FH):Prop :=
 ∀(pins:List (Addr×Obj)) (s:Shared) (σ:St) (H:Hp) (vs:List V) (us:List Value) (Q:St->Hp->Prop),Inv X pins σ H s->tO vs us->t vs σ H Q ->
  wpAny (model X.prog X.w) X.A (assignInOrder ((acm ts X.env).map (·.2)) us) (λ_ s'=>∃σ' H',Inv X pins σ' H' s'/\Q σ' H') X.xe s
abbrev G0:=V->V->V->Hp->(Hp->Prop)->Prop
def DL(X:Cx)(t:G0):Prop :=
 ∀(pins:List (Addr×Obj)) (s:Shared) (σ:St) (H:Hp) (o i v:V) (ov iv u:Value) (Q:Hp->Prop),Inv X pins σ H s->RelV o ov->RelV i iv->RelV v u->t o i v H Q ->
  wpAny (model X.prog X.w) X.A (setItem ov iv u) (λ_ s'=>∃H',Inv X pins σ H' s'/\Q H') X.xe s
def zD(i:Nat):TG:=λv σ H Q=>Q (σ.set i (some v)) H
theorem aU{x:Str}(hN:X.N.Nodup)(hi:X.N[i]?=some x)(hx:Loc X.env.scope x)(hf:X.fn x=true\/X.env.scope.names.lookup x=some .local:=by first|exact .inl rfl|exact .inr rfl|assumption):PG X (.Name x pos) (zD i):=by
 intro pins s σ H v u Q I r h
 exact aeo (fo I hN hi hx r (λs' I'=>⟨_,H,I',h⟩) hf)
def J3:FH:=λvs σ H Q=>vs=[]/\Q σ H
def DB(t:TG)(u:FH):FH:=λvs σ H Q=>∃v r,vs=v::r/\t v σ H λσ' H'=>u r σ' H' Q
theorem j5:M4 X [] J3:=by
 intro pins s σ H vs us Q I r h
 obtain⟨e,h⟩:=h
 subst e
 cases r
 exact assignInOrder_nil ⟨σ,H,I,h⟩
theorem dk{es:List Expr}{t:TG}{u:FH}(h1:PG X e t)(h2:M4 X es u)
  (hs:(acm (e::es) X.env).map (·.2)=assign e X.env::(acm es X.env).map (·.2):=by rfl):M4 X (e::es) (DB t u):=by
 intro pins s σ H vs us Q I r h
 obtain⟨v,vr,e1,h⟩:=h
 subst e1
 cases r with
 |cons r rr=>
  rw[hs]
  refine aej (yM (h1 pins s σ H _ _ _ I r h) λ_ s1 ⟨σ1,H1,I1,q1⟩=>?_)
  exact h2 pins s1 σ1 H1 _ _ Q I1 rr q1
def J1(K:aag)(n:Nat)(t:FH):TG:=λv σ H Q=>∃a xs,v=.ref a/\zg K H a xs/\xs.length=n/\t xs σ H Q
variable{k n:Nat}
theorem lX{es:List Expr}{t:FH}(hc:X.calm=true)(h:M4 X es t)
  (hn:(acm es X.env).length=n:=by rfl) (Ha:(acm es X.env).findIdx? (·.1)=none:=by rfl):PG X (.Tuple es k pos) (J1 X.K n t):=by
 intro pins s σ H v u Q I r hw
 obtain⟨a,xs,e1,hq,hl,hw⟩:=hw
 subst e1
 cases r
 obtain⟨gE,rv,ht,hz⟩:=I.tuple hq
 refine assign_Tuple_tuple (I.ok.hd hc) ht (by simp[hn,<- hl,rv.length]) Ha λh' hx=>?_
 have I1:Inv X pins σ H {s with heap:=h'}:=I.kept (t':=s.toks) λb o e=>hx b o (aaw (aak e)) e
 exact h pins _ σ H xs _ Q I1 (by simpa using rv) hw
def J2(to ti:TE)(t:G0):TG:=λv σ H Q=>to σ H λo H1=>ti σ H1 λi H2=>t o i v H2 λH3=>Q σ H3
theorem lY{o i:Expr}{to ti:TE}{t:G0}(ho:PE X o to)(hi:PE X i ti)(hs:DL X t)
  (ha:∀v,assign (.Subscript o i pos) X.env v=(do
   let ov <- acQ [v] (eval o X.env)
   let iv <- acQ [v,ov] (eval i X.env)
   standAt pos
   acQ [v,ov,iv] (setItem ov iv v)
   release [v,ov,iv] []):=by intro _;rfl):PG X (.Subscript o i pos) (J2 to ti t):=by
 intro pins s σ H v u Q I r h
 rw[ha]
 refine aab (aaT (yM (ho pins s σ H _ I h) λov s1 ⟨x,H1,I1,r1,q1⟩=>?_))
 refine aab (aaT (yM (hi pins s1 σ H1 _ I1 q1) λiv s2 ⟨y,H2,I2,r2,q2⟩=>?_))
 refine aab (act (aab (aaT (yM (hs pins s2 σ H2 x y v ov iv u _ I2 r1 r2 r q2) λ_ s3 ⟨H3,I3,q3⟩=>?_))))
 exact wpAny_release ⟨σ,H3,I3,q3⟩
def D6(te:TE)(g:TG):TS:=λD σ H=>te σ H λx H1=>g x σ H1 D.nx
variable{tg:Expr}
theorem jl{g:TG}(he:PE X e te)(hg:PG X tg g)(hs:adw [tg] e pos.line X.env=pure false:=by rfl)(hw:adx [tg] e X.env=pure none:=by rfl)
  (h1:(acm [tg] X.env).map (·.2)=[assign tg X.env]:=by rfl):PS X (.Assign [tg] e pos) (D6 te g):=by
 intro pins s σ H D I h
 refine wpAny_Assign_stores (yM (he pins s σ H _ I h) λv s1 ⟨x,H1,I1,r1,q1⟩=>?_) hs hw
 rw[h1]
 exact yM (hg pins s1 σ H1 x v _ I1 r1 q1) λ_ s2 q=>q
variable{pos':Pos}
theorem ee{x:Str}(hN:X.N.Nodup)(hi:X.N[i]?=some x)(hx:Loc X.env.scope x)(he:PE X e te)(hs:ab9 e (some (.Name x pos')) pos.line X.env=pure false:=by rfl)(hf:X.fn x=true\/X.env.scope.names.lookup x=some .local:=by first|exact .inl rfl|exact .inr rfl|assumption):
  PS X (.Assign [.Name x pos'] e pos) (D6 te (zD i)):=by
 intro pins s σ H D I h
 refine wpAny_Assign_Name (yM (he pins s σ H _ I h) λv s1 ⟨y,H1,I1,r1,q1⟩=>?_) hs
 exact fo I1 hN hi hx r1 (λs2 I2=>⟨_,H1,I2,q1⟩) hf
def Ow(i j:Nat)(ta:TA):TS:=λD σ H=>ta σ H λvs H1=>∃v w,vs=[v,w]/\D.nx ((σ.set i (some v)).set j (some w)) H1
variable{py:Pos}
theorem wk{x y:Str}{a:Expr}{ta:TA}{px pt:Pos}{kt k2 pt2}(hc:X.calm=true)(hN:X.N.Nodup)(hi:X.N[i]?=some x)(hj:X.N[j]?=some y)(AR:i≠j)
  (hx:X.env.scope.names.lookup x=some .local) (hy:X.env.scope.names.lookup y=some .local) (ha:PA X [a,b] ta)
  (hw:adx [.Tuple [.Name x px,.Name y py] kt pt] (.Tuple [a,b] k2 pt2) X.env=pure (some [x,y]))
  (hs:adw [.Tuple [.Name x px,.Name y py] kt pt] (.Tuple [a,b] k2 pt2) pos.line X.env=pure false:=by rfl) :
  PS X (.Assign [.Tuple [.Name x px,.Name y py] kt pt] (.Tuple [a,b] k2 pt2) pos) (Ow i j ta):=by
 intro pins s σ H D I h
 rw[exec_Assign_arm]
 refine aab (act ?_)
 rw[hs]
 refine aab (aaj ?_)
 rw[if_neg (by decide)]
 refine aab (Tuple_ (yM (ha _ pins s σ H _ I h) λus s1 ⟨vs,H1,I1,r1,q1⟩=>?_))
 obtain⟨v,w,e1,q1⟩:=q1
 subst e1
 obtain⟨u1,u2,rfl,rv,BA⟩:∃u1 u2,us=[u1,u2]/\RelV v u1/\RelV w u2:=by
  cases r1 with
  |cons p q=>
   cases q with
   |cons p' q'=>
    cases q'
    exact⟨_,_,rfl,p,p'⟩
 refine abR ?_ (by show 2<=sizeLine;decide)
 have I2:Inv X pins σ H1 {s1 with heap:=s1.heap.push {cls:=.type "tuple",data:=.seq [u1,u2].toArray}}:=I1.kept (t':=s1.toks) λb o e=>aad _ e
 rw[hw]
 refine aab (aaj ?_)
 show wpAny (model X.prog X.w) X.A (do rule "assign.swapped-stores"; let items <- unpackItems (.ref s1.heap.objs.size) 2 none;assignInOrder [λv=>bindName X.env y v,λv=>bindName X.env x v] items.reverse;pure Flow.next) _ _ _
 refine aab (acD (aab (unpackItems_tuple (items:=#[u1,u2]) (I.ok.hd hc) (IsTup.new s1.heap _) λh' NJ=>?_)))
 have I3:=I2.kept (h':=h') (t':=s1.toks) λb o e=>NJ b o (aaw (aak e)) e
 show wpAny _ _ (assignInOrder [λv=>bindName X.env y v,λv=>bindName X.env x v] [u2,u1] >>= λ_=>pure Flow.next) _ _ _
 refine aab (aej (wpAny_bindName (fo I3 hN hj (.inl hy) BA (λs2 I4=>?_) (.inr hy))))
 refine aej (wpAny_bindName (fo I4 hN hi (.inl hx) rv (λs3 I5=>assignInOrder_nil (aaj ?_)) (.inr hx)))
 rw[List.set_comm _ _ (abO AR)]at I5
 exact⟨_,H1,I5,q1⟩
def IV(c:TT)(tb:TS):TS:=λD σ H=>∃W:Nat->St->Hp->Prop,(∃m,W m σ H)/\∀m σ H,W m σ H ->
 c σ H λb H1=>if b=true then ∃N:St->Hp->Prop,(∀σ' H',N σ' H'->∃m',m'<m/\W m' σ' H')/\tb {D with nx:=N,ct:=N,bk:=D.nx} σ H1 else D.nx σ H1
variable{body:List Stmt}
theorem lV{tc:TT}{tb:TS}(hp:PassesOwn (model X.prog X.w) X.A X.env X.xe)(hc:PT X c tc)(hb:EB X body tb):PS X (.While c body [] pos) (IV tc tb):=by
 intro pins s σ H D I h
 obtain⟨W,⟨m0,w0⟩,turn⟩:=h
 refine wpAny_While (codeAny_whileLoop (λn s'=>∃σ' H',Inv X pins σ' H' s'/\W n σ' H') ?_ m0 ⟨σ,H,I,w0⟩)
 rintro n s1 ⟨σ1,H1,I1,w1⟩
 refine acq hp (yM (hc pins s1 σ1 H1 _ I1 (turn n σ1 H1 w1)) λb s2 ⟨H2,I2,q2⟩=>?_)
 cases b with
 |true=>
  obtain⟨N,hN,q2⟩:=q2
  rw[if_pos rfl]
  refine acq hp (yM (hb pins s2 σ1 H2 _ I2 q2) λf s3 q3=>?_)
  cases f with
  |next=>
   obtain⟨σ3,H3,I3,n3⟩:=q3
   obtain⟨m',hm,w3⟩:=hN σ3 H3 n3
   exact⟨m',hm,σ3,H3,I3,w3⟩
  |cont=>
   obtain⟨σ3,H3,I3,n3⟩:=q3
   obtain⟨m',hm,w3⟩:=hN σ3 H3 n3
   exact⟨m',hm,σ3,H3,I3,w3⟩
  |brk=>exact q3
  |ret v=>exact q3
 |false=>
  rw[if_neg aaB]
  exact adN ⟨σ1,H2,I2,q2⟩
structure It where
 go:Nat->Hp->Prop
 yld:Nat->Hp->V->Hp->Prop
 stop:Nat->Hp->Prop
def zN(X:Cx)(pins:List (Addr×Obj))(H:Hp)(b:Addr):Prop :=
 H b=none/\b≠X.env.locals/\b∉X.fs/\(b∈X.ex\/X.s₀.heap.objs.size<=b)/\(∀x c,X.env.cells.lookup x=some c->c≠b)/\∀p∈X.pn++pins,p.1≠b
theorem Inv.DC{b:Addr}(I:Inv X pins σ H s)(hb:s.heap.objs.size<=b)(hn:H' b=none):zN X pins H' b:=by
 refine⟨hn,abQ (aaA I.lt hb),I.OT hb,.inr (aaZ I.sz hb),λx c e z=>?_,λp hp z=>?_⟩
 .obtain⟨v,q⟩:=I.cell x c e
  exact absurd (aaA q.lt (by rw[z];exact hb)) (abd _)
 .exact absurd (aaA (aak (I.pin p hp).1) (by rw[z];exact hb)) (abd _)
structure Turn(P:aaE)(w:World)(K:aag)(tg:Expr)(J:It)(fp:List Addr)(it:Addr)(tn:Nat->Heap->Prop):Prop where
 mem:it∈fp
 obj:∀i h,tn i h->∀b∈fp,∃o,h.get? b=some o/\∀v,o.data≠.cell v
 keep:∀i h h',tn i h->(∀b∈fp,∀o,h.get? b=some o->h'.get? b=some o)->tn i h'
 item:∀(X:Cx),X.prog=P->X.w=w->X.K=K->X.calm=true->∀(i:Nat) (pins:List (Addr×Obj)) (s:Shared) (σ:St) (H:Hp) (E:Value->Shared->Prop),Inv X pins σ H s->(∀b∈fp,zN X pins H b)->tn i s.heap->J.go i H ->
  wpAny (model P w) X.A (pyNext (.ref it)) (λr s1=>∃u,r=some u /\
   wpAny (model P w) X.A (aeW tg (.ref it) u) (λ_ s2=>∃x H',Inv X pins σ H' s2/\RelV x u/\J.yld i H x H'/\tn (i+1) s2.heap/\∀b∈fp,H' b=none) E s1) E s
 done:∀(X:Cx),X.prog=P->X.w=w->X.K=K->X.calm=true->∀(i:Nat) (pins:List (Addr×Obj)) (s:Shared) (σ:St) (H:Hp) (E:Value->Shared->Prop),Inv X pins σ H s->(∀b∈fp,zN X pins H b)->tn i s.heap->J.stop i H ->
  wpAny (model P w) X.A (pyNext (.ref it)) (λr s1=>r=none/\Inv X pins σ H s1) E s
 self:∀(A:Around) (i:Nat) (s:Shared) (Q:Value->Shared->Prop) (E:Value->Shared->Prop),tn i s.heap->Q (.ref it) s->wpAny (model P w) A (pyIter (.ref it)) Q E s
abbrev TI:=St->Hp->(It->Hp->Prop)->Prop
def RJ(X:Cx)(pins:List (Addr×Obj))(σ:St)(tg:Expr)(R:It->Hp->Prop)(ND:Value)(s2:Shared):Prop :=
 ∃(it:Addr) (fp:List Addr) (tn:Nat->Heap->Prop) (J:It) (H':Hp),ND=.ref it/\Inv X pins σ H' s2/\Turn X.prog X.w X.K tg J fp it tn/\tn 0 s2.heap/\(∀b∈fp,zN X pins H' b)/\R J H'
def PI(X:Cx)(tg iter:Expr)(wi:TI):Prop :=
 ∀(pins:List (Addr×Obj)) (s:Shared) (σ:St) (H:Hp) (R:It->Hp->Prop),Inv X pins σ H s->wi σ H R ->
  wpAny (model X.prog X.w) X.A (eval iter X.env) (λv s1=>wpAny (model X.prog X.w) X.A (pyIter v) (RJ X pins σ tg R) X.xe s1) X.xe s
theorem pJ{u:Value}{o:Obj}{n:String}{vs:Array Value}(ho:s.heap.get? it=some o)(hc:o.cls=.type n)(hd:o.data=.fields vs)
  (hn:["enumerate", "zip", "dict_itemiterator", "dict_reverseitemiterator", "odict_iterator", "itertools.zip_longest", "itertools.pairwise"].contains n=false) (hQ:Q () s):wpAny M A (aeW tg (.ref it) u) Q E s:=by
 unfold aeW
 cases tg<;>first
  |exact aaj hQ
  |(cases u<;>first
    |exact aaj hQ
    |(
      refine aab (wpAny_load ho ?_)
      rw[hc,hd]
      show wpAny M A (if (["enumerate", "zip", "dict_itemiterator", "dict_reverseitemiterator", "odict_iterator", "itertools.zip_longest", "itertools.pairwise"].contains n && vs[0]?==some (rawInt _))=true then _ else _) Q E s
      rw[if_neg (by intro h;rw[hn,Bool.false_and]at h;cases h)]
      exact aaj hQ))
def Hl(K:aag)(a:Addr):It :=
 ⟨λi H=>∃xs x,zp K H a xs/\xs[i]?=some x,λi H x H'=>H'=H/\∀xs,zp K H a xs->xs[i]?=some x,λi H=>∃xs,zp K H a xs/\xs.length<=i⟩
def QA(K:aag)(a:Addr):It :=
 ⟨λi H=>∃xs x,zg K H a xs/\xs[i]?=some x,λi H x H'=>H'=H/\∀xs,zg K H a xs->xs[i]?=some x,λi H=>∃xs,zg K H a xs/\xs.length<=i⟩
def N4(lo:Int)(n:Nat):It:=⟨λi _=>i<n,λi H x H'=>H'=H/\x=.int (lo+i),λi _=>n<=i⟩
theorem kQ(a it:Addr):Turn P w K tg (Hl K a) [it] it (λi h=>h.IsListIter it a i) where
 mem:=by simp
 obj:=λi h st b hb=>by
  have e:b=it:=by simpa using hb
  subst e
  obtain⟨o,e,c,d⟩:=st
  exact⟨o,e,λv z=>by rw[d]at z;cases z⟩
 keep:=λi h h' st k=>st.at λo e=>k it (by simp) o e
 item:=by
  intro X hP hw hK hc i pins s σ H E I hf st hg
  subst hP hw hK
  obtain⟨xs,x,hq,hx⟩:=hg
  obtain⟨gE,rv,p,hz⟩:=I.list hq
  obtain⟨u,hu,ru⟩:=rv.get hx
  obtain⟨f0,f1,f2,f3,f4,f5⟩:=hf it (by simp)
  refine wpAny_pyNext_list_item st p.isList (x:=u) (by simpa using hu) λh' CB sb=>?_
  have I1:Inv X pins σ H {s with heap:=h'}:=I.turned (t':=s.toks) (λb o hb e=>(sb.2 b hb).trans e) f0 f1 f3 f4 f5
  obtain⟨o,e,c,d⟩:=id CB
  exact⟨u,rfl,pJ (s:={s with heap:=h'}) e c d (by decide) ⟨x,H,I1,ru,⟨rfl,λys hy=>by rw[I.Dv hy hq];exact hx⟩,CB,λb hb=>(hf b hb).1⟩⟩
 done:=by
  intro X hP hw hK hc i pins s σ H E I hf st hg
  subst hP hw hK
  obtain⟨xs,hq,hx⟩:=hg
  obtain⟨gE,rv,p,hz⟩:=I.list hq
  obtain⟨f0,f1,f2,f3,f4,f5⟩:=hf it (by simp)
  have hl:=rv.length
  exact wpAny_pyNext_list_end (I.ok.hd hc) st p.isList (by simp;omega) λh' eb=>⟨rfl,I.turned (t':=s.toks) (λb o hb e=>eb b o hb e) f0 f1 f3 f4 f5⟩
 self:=λ_ _ _ _ _ st h=>wpAny_pyIter_listiter st h
theorem oY(a it:Addr):Turn P w K tg (QA K a) [it] it (λi h=>h.IsTupleIter it a i) where
 mem:=by simp
 obj:=λi h st b hb=>by
  have e:b=it:=by simpa using hb
  subst e
  obtain⟨o,e,c,d⟩:=st
  exact⟨o,e,λv z=>by rw[d]at z;cases z⟩
 keep:=λi h h' st k=>st.at λo e=>k it (by simp) o e
 item:=by
  intro X hP hw hK hc i pins s σ H E I hf st hg
  subst hP hw hK
  obtain⟨xs,x,hq,hx⟩:=hg
  obtain⟨gE,rv,p,hz⟩:=I.tuple hq
  obtain⟨u,hu,ru⟩:=rv.get hx
  obtain⟨f0,f1,f2,f3,f4,f5⟩:=hf it (by simp)
  refine adv st (show s.heap.IsTuple a gE.toArray from p) (x:=u) (by simpa using hu) λh' CB sb=>?_
  have I1:Inv X pins σ H {s with heap:=h'}:=I.turned (t':=s.toks) (λb o hb e=>(sb.2 b hb).trans e) f0 f1 f3 f4 f5
  obtain⟨o,e,c,d⟩:=id CB
  exact⟨u,rfl,pJ (s:={s with heap:=h'}) e c d (by decide) ⟨x,H,I1,ru,⟨rfl,λys hy=>by rw[I.zR hy hq];exact hx⟩,CB,λb hb=>(hf b hb).1⟩⟩
 done:=by
  intro X hP hw hK hc i pins s σ H E I hf st hg
  subst hP hw hK
  obtain⟨xs,hq,hx⟩:=hg
  obtain⟨gE,rv,p,hz⟩:=I.tuple hq
  obtain⟨f0,f1,f2,f3,f4,f5⟩:=hf it (by simp)
  have hl:=rv.length
  exact adF (I.ok.hd hc) st (show s.heap.IsTuple a gE.toArray from p) (by simp;omega) λh' eb=>⟨rfl,I.turned (t':=s.toks) (λb o hb e=>eb b o hb e) f0 f1 f3 f4 f5⟩
 self:=λ_ _ _ _ _ st h=>wpAny_pyIter_tupleiter st h
theorem oZ(it:Addr)(lo:Int)(n:Nat):Turn P w K tg (N4 lo n) [it] it (λi h=>IsRangeIter h it (lo+(i:Nat)*1) ((n:Int) - (i:Nat)) 1) where
 mem:=by simp
 obj:=λi h st b hb=>by
  have e:b=it:=by simpa using hb
  subst e
  exact⟨_,st,λv z=>by
   have z':ac5 _=ae9 v:=z
   cases z'⟩
 keep:=λi h h' st k=>k it (by simp) _ st
 item:=by
  intro X hP hw hK hc i pins s σ H E I hf st hg
  subst hP hw hK
  obtain⟨f0,f1,f2,f3,f4,f5⟩:=hf it (by simp)
  have W:=Walks.range (prog:=X.prog) (w:=X.w) (I.ok.hd hc) it lo 1 n
  refine W.item i s _ _ hg st λv h' tk hv CB kk=>?_
  obtain⟨t,rfl⟩:=hv
  have I1:Inv X pins σ H {s with heap:=h',toks:=tk}:=I.turned (λb o hb e=>kk b o (by simpa using hb) e) f0 f1 f3 f4 f5
  refine⟨_,rfl,pJ (s:={s with heap:=h',toks:=tk}) (n := "range_iterator") CB rfl rfl (by decide) ⟨.int (lo+i),H,I1,⟨t,?_⟩,⟨rfl,rfl⟩,CB,λb hb=>(hf b hb).1⟩⟩
  rw[Int.mul_one]
 done:=by
  intro X hP hw hK hc i pins s σ H E I hf st hg
  subst hP hw hK
  obtain⟨f0,f1,f2,f3,f4,f5⟩:=hf it (by simp)
  exact wpAny_pyNext_range_end (I.ok.hd hc) st (by have:n<=i:=hg;omega) λh' eb=>⟨rfl,I.turned (t':=s.toks) (λb o hb e=>eb b o hb e) f0 f1 f3 f4 f5⟩
 self:=λ_ _ _ _ _ st h=>wpAny_pyIter_rangeiter st h
def Mp(K:aag)(tl:TE):TI:=λσ H R=>tl σ H λx H1=>∃a,x=.ref a/\(∃xs,zp K H1 a xs)/\R (Hl K a) H1
theorem nW{l:Expr}{tl:TE}(hl:PE X l tl):PI X tg l (Mp X.K tl):=by
 intro pins s σ H R I h
 refine yM (hl pins s σ H _ I h) λv s1 ⟨x,H1,I1,r1,q1⟩=>?_
 obtain⟨a,e,⟨xs,hq⟩,q⟩:=q1
 subst e
 cases r1
 obtain⟨gE,rv,p,hz⟩:=I1.list hq
 refine adi p.isList ?_
 refine⟨s1.heap.objs.size,[s1.heap.objs.size],_,_,H1,rfl,I1.kept (t':=s1.toks) λb o e=>aad _ e,kQ a _,⟨_,aal _ rfl,rfl,rfl⟩,λb hb=>?_,q⟩
 have e:b=s1.heap.objs.size:=by simpa using hb
 subst e
 exact I1.DC (aam _) (I1.ye.fresh (aam _))
theorem sg{R:It->Hp->Prop}{lo hi:Int}{t u v:Tok}{tk:Nat}(I:Inv X pins σ H s)(h1 : -(2 ^ 62)<=lo)(h2:lo<2 ^ 62)(h3 : -(2 ^ 62)<=hi)(h4:hi<2 ^ 62)
  (q:R (N4 lo (hi - lo).toNat) H):wpAny (model X.prog X.w) X.A (pyIter (.ref s.heap.objs.size)) (RJ X pins σ tg R) E {s with heap:=s.heap.push {cls:=.type "range",data:=.fields #[.int lo t,.int hi u,.int 1 v]},toks:=tk}:=by
 refine wpAny_pyIter_range (IsRange.new ..) (small_one h1 h2 h3 h4) ?_
 have I1:Inv X pins σ H {s with heap:=s.heap.push {cls:=.type "range",data:=.fields #[.int lo t,.int hi u,.int 1 v]},toks:=tk}:=I.kept λb o e=>aad _ e
 refine⟨(s.heap.push {cls:=.type "range",data:=.fields #[.int lo t,.int hi u,.int 1 v]}).objs.size,[(s.heap.push {cls:=.type "range",data:=.fields #[.int lo t,.int hi u,.int 1 v]}).objs.size],_,_,H,rfl,
  I1.kept (t':=tk) λb o e=>aad _ e,oZ _ lo (hi - lo).toNat,?_,λb hb=>?_,q⟩
 .have e1:lo+((0:Nat):Int)*1=lo:=by simp
  have e2:(((hi - lo).toNat:Nat):Int) - ((0:Nat):Int)=Builtin.Range.rangeSize lo hi 1:=by rw[rangeSize_one];split<;>omega
  show IsRangeIter _ _ (lo+((0:Nat):Int)*1) ((((hi - lo).toNat:Nat):Int) - ((0:Nat):Int)) 1
  rw[e1,e2]
  exact aal _ rfl
 .have e:b=(s.heap.push {cls:=.type "range",data:=.fields #[.int lo t,.int hi u,.int 1 v]}).objs.size:=by simpa using hb
  subst e
  exact I1.DC (aam _) (I1.ye.fresh (aam _))
def Mo(ta:TA):TI:=λσ H R=>ta σ H λvs H1=>∃j:Int,vs=[.int j] /\ -(2 ^ 62)<=j/\j<2 ^ 62/\R (N4 0 j.toNat) H1
theorem qt{a:Expr}{ta:TA}{p:Pos}(hg:Gl X "range")(hm:X.mg "range" = none)(ha:PA X [a] ta)(hs:aai [a] X.env=[(false,eval a X.env)]:=by rfl):PI X tg (.Call (.Name "range" p) [a] [] pos) (Mo ta):=by
 intro pins s σ H R I h
 refine Call_ (cb I hg hm boot_range (ac0 (yM (ha pos pins s σ H _ I h) λus s1 ⟨vs,H1,I1,r1,q1⟩=>?_) hs rfl))
 obtain⟨j,e,q1,q2,q⟩:=q1
 subst e
 cases r1 with
 |cons r rr=>
  cases rr
  obtain⟨t,rfl⟩:=r
  exact call_range_1 (sg I1 (by omega) (by omega) q1 q2 (by simpa using q))
def Oy(wi:TI)(g:TG)(tb:TS):TS:=λD σ H=>wi σ H λJ H1=>∃W:Nat->Nat->St->Hp->Prop,(∃m,W 0 m σ H1)/\∀i m σ H,W i m σ H ->
 (J.stop i H/\D.nx σ H)\/(J.go i H/\∃N:St->Hp->Prop,(∀σ' H',N σ' H'->∃m',m'<m/\W (i+1) m' σ' H')/\∀x H',J.yld i H x H'->g x σ H' λσ2 H2=>tb {D with nx:=N,ct:=N,bk:=D.nx} σ2 H2)
def Bj(fp:List Addr)(h:Heap):List (Addr×Obj):=fp.filterMap λb=>(h.get? b).map λo=>(b,o)
variable{fp:List Addr}
theorem bn{b:Addr}{o:Obj}(hb:b∈fp)(e:h.get? b=some o):(b,o)∈Bj fp h:=List.mem_filterMap.mpr ⟨b,hb,by rw[e];rfl⟩
theorem qJ{p:Addr×Obj}(hp:p∈Bj fp h):p.1∈fp/\h.get? p.1=some p.2:=by
 obtain⟨b,hb,e⟩:=List.mem_filterMap.mp hp
 cases q:h.get? b with
 |none=>rw[q]at e;cases e
 |some o=>
  rw[q]at e
  have e':(b,o)=p:=aao e
  subst e'
  exact⟨hb,q⟩
theorem Inv.pinned(I:Inv X pins σ H s)(hf:∀b∈fp,zN X pins H b)(ho:∀b∈fp,∃o,s.heap.get? b=some o/\∀v,o.data≠.cell v):Inv X (pins++Bj fp s.heap) σ H s :=
 I.EO λp hp=>(List.mem_append.mp hp).elim (λz=>I.pin p (aat _ z)) λz=>by
  obtain⟨hb,e⟩:=qJ z
  obtain⟨f0,f1,f2,_⟩:=hf p.1 hb
  obtain⟨o,e',d⟩:=ho p.1 hb
  rw[e]at e';cases e'
  exact⟨e,f0,f1,f2,d⟩
theorem Inv.zQ{pl:List (Addr×Obj)}(I:Inv X (pins++pl) σ H s):Inv X pins σ H s:=I.EO λp hp=>I.pin p (aat _ (abo _ hp))
theorem qp{iter:Expr}{wi:TI}{g:TG}{tb:TS}(hp:PassesOwn (model X.prog X.w) X.A X.env X.xe)(hc:X.calm=true)(hi:PI X tg iter wi)(hg:PG X tg g)(hb:EB X body tb)
  (hs:∀x,aa0 iter X.env x=pure x:=by intro _;rfl):PS X (.For tg iter body [] pos) (Oy wi g tb):=by
 intro pins s σ H D I h
 refine wpAny_For (yM (hi pins s σ H _ I h) λv s1 h1=>yM h1 λND s2 h2=>?_) hs
 obtain⟨it,fp,tn,J,H2,e,I2,T,Jb,f2,W,⟨m0,w0⟩,turn⟩:=h2
 subst e
 have IZ:∀{H':Hp},(∀b∈fp,H' b=none)->∀b∈fp,zN X pins H' b:=λhn b hb=>⟨hn b hb,(f2 b hb).2⟩
 refine codeAny_forLoop_any (λn s'=>∃i σ' H',Inv X pins σ' H' s'/\tn i s'.heap/\(∀b∈fp,H' b=none)/\W i n σ' H') ?_ m0 ⟨0,σ,H2,I2,Jb,λb hb=>(f2 b hb).1,w0⟩
 rintro n s3 ⟨i,σ3,H3,I3,QO,Rz,w3⟩
 rcases turn i n σ3 H3 w3 with ⟨stop,qn⟩|⟨go,N,hN,step⟩
 .refine acq hp (yM (T.done X rfl rfl rfl hc i pins s3 σ3 H3 X.xe I3 (IZ Rz) QO stop) λr s4 ⟨hr,I4⟩=>?_)
  subst hr
  exact adN ⟨σ3,H3,I4,qn⟩
 .refine acq hp (yM (T.item X rfl rfl rfl hc i pins s3 σ3 H3 X.xe I3 (IZ Rz) QO go) λr s4 ⟨u,hr,h4⟩=>?_)
  subst hr
  refine acq hp (yM h4 λ_ s5 ⟨x,H5,I5,r5,y5,Hq,J6⟩=>?_)
  have Uz:=I5.pinned (IZ J6) (T.obj _ _ Hq)
  refine acq hp (yM (hg _ s5 σ3 H5 x u _ Uz r5 (step x H5 y5)) λ_ s6 ⟨σ6,H6,I6,q6⟩=>?_)
  refine acq hp (yM (hb _ s6 σ6 H6 _ I6 q6) λf s7 q7=>?_)
  have again:∀{σ7:St} {H7:Hp},Inv X (pins++Bj fp s5.heap) σ7 H7 s7->N σ7 H7->∃m,m<n/\∃i σ' H',Inv X pins σ' H' s7/\tn i s7.heap/\(∀b∈fp,H' b=none)/\W i m σ' H':=λ{σ7 H7} I7 n7=>by
   obtain⟨m',hm,w7⟩:=hN σ7 H7 n7
   refine⟨m',hm,i+1,σ7,H7,I7.zQ,T.keep _ _ _ Hq λb hb o e=>(I7.pin (b,o) (aat _ (aat _ (bn hb e)))).1,λb hb=>?_,w7⟩
   obtain⟨o,e,d⟩:=T.obj _ _ Hq b hb
   exact(I7.pin (b,o) (aat _ (aat _ (bn hb e)))).2.1
  cases f with
  |next=>obtain⟨σ7,H7,I7,n7⟩:=q7;exact again I7 n7
  |cont=>obtain⟨σ7,H7,I7,n7⟩:=q7;exact again I7 n7
  |brk=>obtain⟨σ7,H7,I7,q7⟩:=q7;exact⟨σ7,H7,I7.zQ,q7⟩
  |ret v=>obtain⟨x7,σ7,H7,I7,r7,q7⟩:=q7;exact⟨x7,σ7,H7,I7.zQ,r7,q7⟩
theorem tB{g:TG}{tb:TS}{D:Ends}(Pv:Nat->St->Hp->Prop)(h0:Pv 0 σ H)(hl:∀i σ H,i<=xs.length->Pv i σ H->zp K H a xs)
  (hs:∀i x σ H,xs[i]?=some x->Pv i σ H->g x σ H λσ2 H2=>tb {D with nx:=Pv (i+1),ct:=Pv (i+1),bk:=D.nx} σ2 H2) (hd:∀σ H,Pv xs.length σ H->D.nx σ H) :
  ∃W:Nat->Nat->St->Hp->Prop,(∃m,W 0 m σ H)/\∀i m σ H,W i m σ H ->
   ((Hl K a).stop i H/\D.nx σ H)\/((Hl K a).go i H/\∃N:St->Hp->Prop,(∀σ' H',N σ' H'->∃m',m'<m/\W (i+1) m' σ' H')/\∀x H',(Hl K a).yld i H x H'->g x σ H' λσ2 H2=>tb {D with nx:=N,ct:=N,bk:=D.nx} σ2 H2):=by
 refine⟨λi m σ H=>m=xs.length - i/\i<=xs.length/\Pv i σ H,⟨xs.length,by simp,aaU _,h0⟩,?_⟩
 rintro i m σ H ⟨rfl,hi,p⟩
 have q:=hl i σ H hi p
 by_cases y6:i<xs.length
 .refine .inr ⟨⟨xs,xs[i],q,by simp[y6]⟩,Pv (i+1),λσ' H' p'=>⟨xs.length - (i+1),by omega,rfl,y6,p'⟩,λx H' y=>?_⟩
  obtain⟨e,y⟩:=y
  subst e
  exact hs i x σ _ (y xs q) p
 .have e:i=xs.length:=by omega
  subst e
  exact .inl ⟨⟨xs,q,aam _⟩,hd σ H p⟩
abbrev R2:=V->V->Hp->VK->Prop
def zf(X:Cx)(f:Value->Value->Sem Value)(r:R2):Prop :=
 ∀(pins:List (Addr×Obj)) (s:Shared) (σ:St) (H:Hp) (x y:V) (v u:Value) (Q:VK),Inv X pins σ H s->RelV x v->RelV y u->r x y H Q ->
  wpAny (model X.prog X.w) X.A (f v u) (EP X pins σ Q) X.xe s
def yq(X:Cx)(f:Value)(r:List V->Hp->VK->Prop):Prop :=
 ∀(pins:List (Addr×Obj)) (s:Shared) (σ:St) (H:Hp) (xs:List V) (us:List Value) (Q:VK),Inv X pins σ H s->tO xs us->r xs H Q ->
  wpAny (model X.prog X.w) X.A (call f us) (EP X pins σ Q) X.xe s
def Qw(X:Cx)(r:V->Hp->(Bool->Hp->Prop)->Prop):Prop :=
 ∀(pins:List (Addr×Obj)) (s:Shared) (σ:St) (H:Hp) (x:V) (v:Value) (Q:Bool->Hp->Prop),Inv X pins σ H s->RelV x v->r x H Q ->
  wpAny (model X.prog X.w) X.A (truthy v) (TP X pins σ Q) X.xe s
def BI(r:R2)(ta tb:TE):TE:=λσ H Q=>ta σ H λx H1=>tb σ H1 λy H2=>r x y H2 Q
def rI(C:Int->Int->Prop)(g:Int->Int->V):R2:=λx y H Q=>∃i j,x=.int i/\y=.int j/\C i j/\Q (g i j) H
def FD(g:Int->Int->V):R2:=λx y H Q=>∃i j,x=.int i/\y=.int j/\Q (g i j) H
variable{a:Expr}{tc:TE}
theorem Km(ha:PE X a ta)(hb:PE X b tb){R:V->V->Hp->Prop}(I:Inv X pins σ H s)
  (h:ta σ H λx H1=>tb σ H1 λy H2=>R x y H2) {Q:Value->Shared->Prop} {f:Value->Value->Sem Value}
  (hf:∀v u s2 x y H2,Inv X pins σ H2 s2->RelV x v->RelV y u->R x y H2->wpAny (model X.prog X.w) X.A (f v u) Q X.xe s2) :
  wpAny (model X.prog X.w) X.A (eval a X.env) (λv s₁=>wpAny (model X.prog X.w) X.A (eval b X.env) (λu s₂=>wpAny (model X.prog X.w) X.A (f v u) Q X.xe s₂) X.xe s₁) X.xe s:=by
 refine yM (ha pins s σ H _ I h) λv s1 ⟨x,H1,I1,r1,q1⟩=>?_
 refine yM (hb pins s1 σ H1 _ I1 q1) λu s2 ⟨y,H2,I2,r2,q2⟩=>?_
 exact hf v u s2 x y H2 I2 r1 r2 q2
variable{r:R2}
theorem bh{op:Operator}(ho:zf X (aci op) r)(ha:PE X a ta)(hb:PE X b tb):PE X (.BinOp a op b pos) (BI r ta tb):=by
 intro pins s σ H Q I h
 exact wpAny_BinOp (Km ha hb I h λv u s2 x y H2 I2 rx ry q=>ho pins s2 σ H2 x y v u Q I2 rx ry q)
variable{f:Value->Value->Sem Value}
theorem Nx{C:Int->Int->Prop}{g:Int->Int->Int}
  (rule:∀(i j:Int) (t u:Tok) (s:Shared) (Q:Value->Shared->Prop) (E:Value->Shared->Prop),C i j->Q (.int (g i j) s.toks) {s with toks:=s.toks+1}->wpAny (model X.prog X.w) X.A (f (.int i t) (.int j u)) Q E s) :
  zf X f (rI C λi j=>.int (g i j)):=by
 intro pins s σ H x y v u Q I rx ry h
 obtain⟨i,j,rfl,rfl,hc,q⟩:=h
 obtain⟨t,rfl⟩:=rx
 obtain⟨t',rfl⟩:=ry
 exact rule i j t t' s _ _ hc ⟨.int (g i j),H,I.tok _,⟨_,rfl⟩,q⟩
theorem LP{g:Int->Int->Int}
  (rule:∀(i j:Int) (t u:Tok) (s:Shared) (Q:Value->Shared->Prop) (E:Value->Shared->Prop),Q (.int (g i j) s.toks) {s with toks:=s.toks+1}->wpAny (model X.prog X.w) X.A (f (.int i t) (.int j u)) Q E s) :
  zf X f (FD λi j=>.int (g i j)):=by
 intro pins s σ H x y v u Q I rx ry h
 obtain⟨i,j,rfl,rfl,q⟩:=h
 obtain⟨t,rfl⟩:=rx
 obtain⟨t',rfl⟩:=ry
 exact rule i j t t' s _ _ ⟨.int (g i j),H,I.tok _,⟨_,rfl⟩,q⟩
theorem Ju{g:Int->Int->Bool}
  (rule:∀(i j:Int) (t u:Tok) (s:Shared) (Q:Value->Shared->Prop) (E:Value->Shared->Prop),Q (.bool (g i j)) s->wpAny (model X.prog X.w) X.A (f (.int i t) (.int j u)) Q E s) :
  zf X f (FD λi j=>.bl (g i j)):=by
 intro pins s σ H x y v u Q I rx ry h
 obtain⟨i,j,rfl,rfl,q⟩:=h
 obtain⟨t,rfl⟩:=rx
 obtain⟨t',rfl⟩:=ry
 exact rule i j t t' s _ _ ⟨.bl (g i j),H,I,rfl,q⟩
def Kv(i j:Int):Prop:=0<j/\j<1073741824
def QH(i j:Int):Prop:=0<=j/\j<=1000000/\i.natAbs<2 ^ 64
def Fw(i j:Int):Prop:=(-(2 ^ 64)<i/\i<2 ^ 64)\/(-(2 ^ 64)<j/\j<2 ^ 64)
theorem Fw.ok{i j:Int}(h:Fw i j):IntMulOk i j:=by
 rcases h with ⟨h1,h2⟩|⟨h1,h2⟩
 .exact .of_left (intBits_le_64 h1 h2)
 .exact .of_right (intBits_le_64 h1 h2)
theorem gg:zf X (aci .Add) (FD λi j=>.int (i+j)):=LP λ_ _ _ _ _ _ _ q=>add_int q
theorem wE:zf X (aci .Sub) (FD λi j=>.int (i - j)):=LP λ_ _ _ _ _ _ _ q=>sub_int q
theorem jn:zf X (aci .Mult) (rI Fw λi j=>.int (i*j)):=Nx λ_ _ _ _ _ _ _ hc q=>mul_int q hc.ok
theorem j9:zf X (aci .FloorDiv) (rI Kv λi j=>.int (i / j)):=Nx λi j _ _ _ _ _ hc q=>by
 have h1:(0:Int)<j:=hc.1
 have h2:j<1073741824:=hc.2
 exact floordiv_int (by omega) (by rw[Int.fdiv_eq_ediv_of_nonneg i (by omega)];exact q) (.inl (PyProof.noPylong_small (by omega)))
theorem dn:zf X (aci .Mod) (rI (λ_ j=>0<j) λi j=>.int (i % j)):=Nx λi j _ _ _ _ _ hc q=>by
 have h1:(0:Int)<j:=hc
 exact mod_int' (by omega) (by rw[Int.fmod_eq_emod_of_nonneg i (by omega)];exact q)
theorem mh:zf X (aci .Pow) (rI QH λi j=>.int (i ^ j.toNat)):=Nx λ_ _ _ _ _ _ _ hc q=>pow_int_small hc.1 hc.2.1 hc.2.2 q
def Ht:V->V->Bool
 |.lT,.lT=>true|.lT,.int _=>true|.int _,.lT=>true|.lT,.bl _=>true|.bl _,.lT=>true|.lT,.str _=>true|.str _,.lT=>true
 |.int _,.int _=>true|.bl _,.bl _=>true|.str _,.str _=>true|.Fs _,.Fs _=>true
 |.int _,.str _=>true|.str _,.int _=>true|.bl _,.str _=>true|.str _,.bl _=>true
 |_,_=>false
def R3:R2:=λx y H Q=>Ht x y=true/\Q (.bl (decide (x=y))) H
def OL:R2:=λx y H Q=>Ht x y=true/\Q (.bl (!decide (x=y))) H
theorem oJ{i j:Int}:decide (V.int i=V.int j)=(i==j):=by
 rw[aaL]
 simp
theorem rL{i j:Bool}:decide (V.bl i=V.bl j)=(i==j):=by
 rw[aaL]
 simp
theorem oI{i j:Str}:decide (V.str i=V.str j)=(i==j):=by
 rw[aaL]
 simp
theorem oK{i j:Array UInt8}:decide (V.Fs i=V.Fs j)=(i.toList==j.toList):=by
 rw[aaL]
 cases i
 cases j
 simp
theorem aD{Q:VK}{k k':Bool}(I:Inv X pins σ H s)(q:Q (.bl k) H)(e:k=k'):EP X pins σ Q (.bool k') s:=by
 subst e
 exact⟨.bl k,H,I,rfl,q⟩
theorem xQ:zf X (aa9 .Eq) R3:=by
 intro pins s σ H x y v u Q I rx ry h
 obtain⟨hs,q⟩:=h
 cases x with
 |lT=>
  cases rx
  cases y with
  |lT=>cases ry;exact PySem.EqNone.eq_none_none (aD I q (by simp))
  |bl j=>cases ry;exact PySem.EqNone.eq_none_bool (aD I q (by simp))
  |int j=>obtain⟨t',rfl⟩:=ry;exact PySem.EqNone.eq_none_int (aD I q (by simp))
  |str j=>obtain⟨t',rfl⟩:=ry;exact PySem.EqNone.eq_none_str (aD I q (by simp))
  |_=>exact absurd (show false=true from hs) aaB
 |bl i=>
  cases rx
  cases y with
  |lT=>cases ry;exact PySem.EqNone.eq_bool_none (aD I q (by simp))
  |bl j=>cases ry;exact eq_bool (aD I q rL)
  |str j=>obtain⟨t',rfl⟩:=ry;exact PySem.EqMixed.eq_bool_str (aD I q (by simp))
  |_=>exact absurd (show false=true from hs) aaB
 |int i=>
  obtain⟨t,rfl⟩:=rx
  cases y with
  |lT=>cases ry;exact PySem.EqNone.eq_int_none (aD I q (by simp))
  |int j=>obtain⟨t',rfl⟩:=ry;exact eq_int (aD I q oJ)
  |str j=>obtain⟨t',rfl⟩:=ry;exact PySem.EqMixed.eq_int_str (aD I q (by simp))
  |_=>exact absurd (show false=true from hs) aaB
 |str i=>
  obtain⟨t,rfl⟩:=rx
  cases y with
  |lT=>cases ry;exact PySem.EqNone.eq_str_none (aD I q (by simp))
  |bl j=>cases ry;exact PySem.EqMixed.eq_str_bool (aD I q (by simp))
  |int j=>obtain⟨t',rfl⟩:=ry;exact PySem.EqMixed.eq_str_int (aD I q (by simp))
  |str j=>obtain⟨t',rfl⟩:=ry;exact eq_str (aD I q oI)
  |_=>exact absurd (show false=true from hs) aaB
 |Fs i=>
  obtain⟨t,rfl⟩:=rx
  cases y with
  |Fs j=>obtain⟨t',rfl⟩:=ry;exact PySem.W.eq_bytes (aD I q oK)
  |_=>exact absurd (show false=true from hs) aaB
 |_=>cases y<;>exact absurd (show false=true from hs) aaB
theorem xM:zf X (aa9 .NotEq) OL:=by
 intro pins s σ H x y v u Q I rx ry h
 obtain⟨hs,q⟩:=h
 cases x with
 |lT=>
  cases rx
  cases y with
  |lT=>cases ry;exact PySem.EqNone.ne_none_none (aD I q (by simp))
  |bl j=>cases ry;exact PySem.EqNone.ne_none_bool (aD I q (by simp))
  |int j=>obtain⟨t',rfl⟩:=ry;exact PySem.EqNone.ne_none_int (aD I q (by simp))
  |str j=>obtain⟨t',rfl⟩:=ry;exact PySem.EqNone.ne_none_str (aD I q (by simp))
  |_=>exact absurd (show false=true from hs) aaB
 |bl i=>
  cases rx
  cases y with
  |lT=>cases ry;exact PySem.EqNone.ne_bool_none (aD I q (by simp))
  |bl j=>cases ry;exact ne_bool (aD I q (congrArg not rL))
  |str j=>obtain⟨t',rfl⟩:=ry;exact PySem.EqMixed.ne_bool_str (aD I q (by simp))
  |_=>exact absurd (show false=true from hs) aaB
 |int i=>
  obtain⟨t,rfl⟩:=rx
  cases y with
  |lT=>cases ry;exact PySem.EqNone.ne_int_none (aD I q (by simp))
  |int j=>obtain⟨t',rfl⟩:=ry;exact ne_int (aD I q (congrArg not oJ))
  |str j=>obtain⟨t',rfl⟩:=ry;exact PySem.EqMixed.ne_int_str (aD I q (by simp))
  |_=>exact absurd (show false=true from hs) aaB
 |str i=>
  obtain⟨t,rfl⟩:=rx
  cases y with
  |lT=>cases ry;exact PySem.EqNone.ne_str_none (aD I q (by simp))
  |bl j=>cases ry;exact PySem.EqMixed.ne_str_bool (aD I q (by simp))
  |int j=>obtain⟨t',rfl⟩:=ry;exact PySem.EqMixed.ne_str_int (aD I q (by simp))
  |str j=>obtain⟨t',rfl⟩:=ry;exact ne_str (aD I q (congrArg not oI))
  |_=>exact absurd (show false=true from hs) aaB
 |Fs i=>
  obtain⟨t,rfl⟩:=rx
  cases y with
  |Fs j=>obtain⟨t',rfl⟩:=ry;exact PySem.W.ne_bytes (aD I q (congrArg not oK))
  |_=>exact absurd (show false=true from hs) aaB
 |_=>cases y<;>exact absurd (show false=true from hs) aaB
theorem xN:zf X (aa9 .Lt) (FD λi j=>.bl (decide (i<j))):=Ju λ_ _ _ _ _ _ _ q=>lt_int q
theorem xO:zf X (aa9 .Gt) (FD λi j=>.bl (decide (j<i))):=Ju λ_ _ _ _ _ _ _ q=>gt_int q
theorem xP:zf X (aa9 .GtE) (FD λi j=>.bl (decide (j<=i))):=Ju λ_ _ _ _ _ _ _ q=>ge_int q
theorem qG:zf X (aa9 .Lt) (λx y H Q=>∃i j,x=.str i/\y=.str j/\Q (.bl (decide (i.cps.toList<j.cps.toList))) H):=by
 intro pins s σ H x y v u Q I rx ry h
 obtain⟨i,j,rfl,rfl,q⟩:=h
 obtain⟨t,rfl⟩:=rx
 obtain⟨t',rfl⟩:=ry
 exact lt_str (aD I q rfl)
theorem qH:zf X (aa9 .In) (λx y H Q=>∃i j,x=.str i/\y=.str j/\Q (.bl (!(acM j i 0 j.length 1).isEmpty)) H):=by
 intro pins s σ H x y v u Q I rx ry h
 obtain⟨i,j,rfl,rfl,q⟩:=h
 obtain⟨t,rfl⟩:=rx
 obtain⟨t',rfl⟩:=ry
 exact in_str (aD I q rfl)
theorem wH:zf X (aa9 .Is) (λx y H Q=>y=.lT/\Q (.bl (decide (x=.lT))) H):=by
 intro pins s σ H x y v u Q I rx ry h
 obtain⟨rfl,q⟩:=h
 cases ry
 refine is_none_gen (aD I q ?_)
 cases x<;>first
  |(cases rx;rfl)
  |(obtain⟨t,rfl⟩:=rx;rfl)
variable{op:CmpOp}
theorem Bk(b:Expr)(h:op≠.In:=by decide)(h2:op≠.NotIn:=by decide):acv op b=false:=by
 have e1:(op==CmpOp.In)=false:=by cases op<;>first|rfl|exact absurd rfl h
 have e2:(op==CmpOp.NotIn)=false:=by cases op<;>first|rfl|exact absurd rfl h2
 cases b<;>simp[acv,e1,e2]
theorem n5(ho:zf X (aa9 op) r)(ha:PE X a ta)(hb:PE X b tb)(hm:acv op b=false):PE X (.Compare a [op] [b] pos) (BI r ta tb):=by
 intro pins s σ H Q I h
 exact wpAny_Compare1 (Km ha hb I h λv u s2 x y H2 I2 rx ry q=>ho pins s2 σ H2 x y v u Q I2 rx ry q) hm
def FP(t:TE):TT:=λσ H Q=>t σ H λx H'=>∃k,x=.bl k/\Q k H'
theorem ed(ho:zf X (aa9 op) r)(ha:PE X a ta)(hb:PE X b tb)(hm:acv op b=false):PT X (.Compare a [op] [b] pos) (FP (BI r ta tb)):=by
 intro pins s σ H Q I h
 refine wpAny_isTrue_Compare1 (yM (ha pins s σ H _ I h) λv s1 ⟨x,H1,I1,r1,q1⟩=>yM (hb pins s1 σ H1 _ I1 q1) λu s2 ⟨y,H2,I2,r2,q2⟩=>
  yM (ho pins s2 σ H2 x y v u _ I2 r1 r2 q2) λc s3 ⟨z,H3,I3,r3,k,e,q3⟩=>?_) hm
 subst e
 cases r3
 exact acs ⟨H3,I3,q3⟩
def MY(K:aag)(x:V)(H:Hp)(k:Bool):Prop :=
 match x with
 |.lT=>k=false
 |.bl b=>k=b
 |.int i=>k=(i != 0)
 |.str y=>y.length<=sizeLine/\k=((y.length:Int) != 0)
 |.Fs y=>y.size<=sizeLine/\k=((y.size:Int) != 0)
 |.ref p=>(∃xs,zp K H p xs/\k=!xs.isEmpty)\/(∃xs,zg K H p xs/\k=!xs.isEmpty)\/∃kvs,H p=some (.dK kvs)/\k=!kvs.isEmpty
 |_=>False
theorem pH{κ:Type}{kvs:List (κ×V)}{vs:List (κ×Value)}(r:KV kvs vs):(!vs.isEmpty)=!kvs.isEmpty:=by
 cases r<;>rfl
variable{gE:List Value}
theorem jq(r:tO xs gE):(!gE.toArray.isEmpty)=!xs.isEmpty:=by
 cases r<;>simp
theorem AO:(sizeLine:Nat)<2 ^ 63:=by rw[aax];decide
theorem vY:Qw X (λx H Q=>∃k,MY X.K x H k/\Q k H):=by
 intro pins s σ H x v Q I rx h
 obtain⟨k,e,q⟩:=h
 have hl:=AO
 have hs:sizeLine=16777216:=aax
 cases x with
 |lT=>
  cases rx
  have e':k=false:=e
  subst e'
  exact truthy_none ⟨H,I,q⟩
 |bl b=>
  cases rx
  have e':k=b:=e
  subst e'
  exact acs ⟨H,I,q⟩
 |int i=>
  obtain⟨t,rfl⟩:=rx
  have e':k=(i != 0):=e
  subst e'
  exact PySem.P.truthy_int ⟨H,I,q⟩
 |str y=>
  obtain⟨t,rfl⟩:=rx
  obtain⟨hy,e'⟩:y.length<=sizeLine/\k=((y.length:Int) != 0):=e
  subst e'
  exact PySem.P.truthy_str (by omega) ⟨H,I.tok _,q⟩
 |Fs y=>
  obtain⟨t,rfl⟩:=rx
  obtain⟨hy,e'⟩:y.size<=sizeLine/\k=((y.size:Int) != 0):=e
  subst e'
  exact PySem.W.truthy_bytes (by omega) ⟨H,I.tok _,q⟩
 |ref p=>
  cases rx
  have e':(∃xs,zp X.K H p xs/\k=!xs.isEmpty)\/(∃xs,zg X.K H p xs/\k=!xs.isEmpty)\/∃kvs,H p=some (.dK kvs)/\k=!kvs.isEmpty:=e
  rcases e' with ⟨xs,hx,e'⟩|⟨xs,hx,e'⟩|⟨kvs,hx,e'⟩
  .subst e'
   obtain⟨gE,r,pl,hz⟩:=I.list hx
   have hlen:=r.length
   exact wpAny_truthy_list pl.isList (by simp only[aaf];omega) ⟨H,I.tok _,by rw[jq r];exact q⟩
  .subst e'
   obtain⟨gE,r,pl,hz⟩:=I.tuple hx
   have hlen:=r.length
   exact truthy_tuple pl (by simp only[aaf];omega) ⟨H,I.tok _,by rw[jq r];exact q⟩
  .subst e'
   obtain⟨hz,hS,vs,r,m⟩:kvs.length<=sizeLine/\(p==acu)=false/\∃vs,KV kvs vs/\s.heap.DictOf (aF X.prog X.w) p vs:=I.ye p _ hx
   have hlen:kvs.length=vs.length:=ael r
   exact wpAny_truthy_dict hS m (by omega) ⟨H,I.tok _,by rw[pH r];exact q⟩
 |_=>exact(show False from e).elim
theorem sk(ha:PE X a ta)(he:∀whole,isTrue a X.env whole=(do let v <- whole;standAt a.pos;acQ [v] (truthy v))):
  PT X a (λσ H Q=>ta σ H λx H'=>∃k,MY X.K x H' k/\Q k H'):=by
 intro pins s σ H Q I h
 exact isTrue_plain (yM (ha pins s σ H _ I h) λv s1 ⟨x,H1,I1,r1,q1⟩=>vY pins s1 σ H1 x v Q I1 r1 q1) (he _)
theorem pC:zf X (aci .Add) (λx y H Q=>∃i j,x=.str i/\y=.str j/\i.length+j.length<=sizeLine/\Q (.str (i++j)) H):=by
 intro pins s σ H x y v u Q I rx ry h
 obtain⟨i,j,rfl,rfl,hz,q⟩:=h
 obtain⟨t,rfl⟩:=rx
 obtain⟨t',rfl⟩:=ry
 exact add_str (λt' tk=>⟨.str (i++j),H,I.tok _,⟨_,rfl⟩,q⟩) hz
theorem vals1{x:V}(r:tO [x] us):∃u,us=[u]/\RelV x u:=by
 cases r with
 |cons r1 r2=>cases r2;exact⟨_,rfl,r1⟩
theorem vals2{x:V}(r:tO [x,y] us):∃u w',us=[u,w']/\RelV x u/\RelV y w':=by
 cases r with
 |cons r1 r2=>
  cases r2 with
  |cons r3 r4=>cases r4;exact⟨_,_,rfl,r1,r3⟩
theorem m4:yq X (.builtin "abs") (λxs H Q=>∃i,xs=[.int i]/\Q (.int (if i<0 then -i else i)) H):=by
 intro pins s σ H xs us Q I r h
 obtain⟨i,rfl,q⟩:=h
 obtain⟨u,rfl,t,rfl⟩:=vals1 r
 exact call_abs_int λu tk=>⟨.int (if i<0 then -i else i),H,I.tok _,⟨_,rfl⟩,q⟩
theorem rO(hc:X.calm=true):yq X (.builtin "max") (λxs H Q=>∃i j,xs=[.int i,.int j]/\Q (.int (if j > i then j else i)) H):=by
 intro pins s σ H xs us Q I r h
 obtain⟨i,j,rfl,q⟩:=h
 obtain⟨u,w',rfl,⟨t,rfl⟩,⟨t',rfl⟩⟩:=vals2 r
 refine max_two_ints (I.ok.hd hc) λh' tk k=>⟨_,H,I.kept k,?_,q⟩
 by_cases hj:j > i
 .rw[if_pos hj,if_pos hj];exact⟨_,rfl⟩
 .rw[if_neg hj,if_neg hj];exact⟨_,rfl⟩
structure Kp(h:Heap)(x dx C:Addr)(mA:Str->Option Value):Prop where
 obj:h.get? x=some (ae3 C dx)
 ns:h.Ns1 dx mA
 ne:dx≠x
theorem qP{dx:Addr}{mA:Str->Option Value}(n:h.Ns1 dx mA):∃od,h.get? dx=some od/\∀name,aff name od=some (mA name):=by
 obtain⟨o,es,ep,ho,hd,hk,_,hm⟩:=n
 refine⟨o,ho,λname=>?_⟩
 have e:=hm name
 unfold nsFind findBy at e
 rw[<- Array.find?_toList]at e
 unfold aff
 rw[hd]
 dsimp only
 split
 .rename_i y q
  rw[q]at e
  exact congrArg some e
 .rename_i q
  rw[q]at e
  have a:es.toList.any (·.refKey)=false:=by
   rw[List.any_eq_false]
   intro y hy
   obtain⟨z,t,Ej⟩:=hk y (Array.mem_toList_iff.mp hy)
   simp[DictEntry.refKey,Ej]
  have a':¬ es.toList.any (·.refKey)=true:=by rw[a];exact aaB
  rw[if_neg a']
  exact congrArg some e
variable{C:Addr}
theorem Kp.look{dx:Addr}{mA:Str->Option Value}(I:Kp h x dx C mA):∃od,PySem.W.InstAt h x (ae3 C dx) C (some od)/\∀name,aff name od=some (mA name) :=
 let ⟨od,ho,hl⟩:=qP I.ns
 ⟨od,⟨I.obj,rfl,rfl,ho⟩,hl⟩
variable{prog:aaE}{dx f:Addr}{mA:Str->Option Value}{name:Str}{v:Value}
theorem BN.some_of{v:V}{o:Option Value}(r:BN (some v) o):∃u,o=some u/\RelV v u:=by
 cases o with
 |none=>exact(show False from r).elim
 |some u=>exact⟨u,rfl,r⟩
section
variable{a:Addr}{fs Tz:List (Str×V)}
theorem vm(ye:AA P w H h)(e:H a=some (.ins C dx fs)):∃mA,Kp h a dx C mA/\(∀f,BN (fs.lookup f) (mA f))/\PySem.Within mA (fs.map (·.1))/\fs.length<=1000/\H dx=some (.own a):=by
 obtain⟨d,z,ne,ob,mA,n,r,q⟩:=(show yk P w H h a (.ins C dx fs)from ye a _ e)
 exact⟨mA,⟨ob,n,ne⟩,r,q,z,d⟩
end
structure QG(K:aag)(C:Addr):Prop where
 pg:PySem.W.plainGet K C Str.empty=true
 hd:PySem.W.hasDictIn K C=true
 po:PySem.W.plainOver K C=true
 sa:PySem.W.findIn K (.ref C) "__setattr__" = some (some (.builtin "object.__setattr__"))
theorem QG.get(c:QG K C)(f:Str):PySem.W.plainGet K C f=true:=c.pg
section
variable{a:Addr}{fs:List (Str×V)}{f:Str}{v:V}
end
variable{o value:Expr}{f:Str}{CQ:Pos}{tv:TE}
variable{Q:Value->Shared->Prop}{c:Value}{b:Bool}
inductive Bw (K:aag) (H:Hp):V->Value->Prop where
 |lT:Bw K H .lT (.type "NoneType")
 |bl (x:Bool):Bw K H (.bl x) (.type "bool")
 |int (i:Int):Bw K H (.int i) (.type "int")
 |str (x:Str):Bw K H (.str x) (.type "str")
 |K9 (x:UInt64):Bw K H (.K9 x) (.type "float")
 |lst {a:Addr} {xs:List V} (e:H a=some (.lst xs)):Bw K H (.ref a) (.type "list")
 |Ay {a:Addr} {o:Obj} {xs:List V} (e:H a=some (.Ay o (.lst xs))):Bw K H (.ref a) (.type "list")
 |tup {a:Addr} {xs:List V} (e:H a=some (.tup xs)):Bw K H (.ref a) (.type "tuple")
 |dK {a:Addr} {kvs:List (Key×V)} (e:H a=some (.dK kvs)):Bw K H (.ref a) (.type "dict")
 |dT {a:Addr} {kvs:List (List Key×V)} (e:H a=some (.dT kvs)):Bw K H (.ref a) (.type "dict")
 |ins {a C dx:Addr} {fs:List (Str×V)} (e:H a=some (.ins C dx fs)) (cl:QG K C) (ha:PySem.W.findIn K (.ref C) "__class__" = some (some (.builtin "object.__class__")))
   (hn:PySem.W.specialIn K (.builtin "object.__class__") "__get__" = some (some (.builtin "getset_descriptor.__get__"))) (KN:PySem.W.takesIn K (.builtin "object.__class__")=some true)
   (hm:PySem.W.mroIn K C (.type "object")=some true):Bw K H (.ref a) (.ref C)
theorem qZ{x:V}{u t:Value}(I:Inv X pins σ H s)(rx:RelV x u)(ty:Bw X.K H x t)(e:ad6 X.K t c=some b)(h:∀tk,Q (.bool b) {s with toks:=tk}):
  wpAny (model X.prog X.w) A (call (.builtin "isinstance") [u,c]) Q E s:=by
 cases ty with
 |lT=>cases (show u=aaO from rx);exact abr PySem.W.kitx_none I.CI acn e (λz=>nomatch z) h
 |bl y=>cases (show u=Value.bool y from rx);exact abr PySem.W.kitx_bool I.CI acn e (λz=>nomatch z) h
 |int i=>obtain⟨t,q⟩:=(show ∃t,u=adm i t from rx);cases q;exact abr PySem.W.kitx_int I.CI acn e (λz=>nomatch z) h
 |str y=>obtain⟨t,q⟩:=(show ∃t,u=adk y t from rx);cases q;exact abr PySem.W.kitx_str I.CI acn e (λz=>nomatch z) h
 |K9 y=>obtain⟨t,q⟩:=(show ∃t,u=Value.float y t from rx);cases q;exact abr PySem.W.kitx_float I.CI acn e (λz=>nomatch z) h
 |@lst a xs ea=>
  cases (show u=aas a from rx)
  obtain⟨_,_,n,_,h1⟩:=(show yk X.prog X.w H s.heap a (.lst xs)from I.ye a _ ea)
  exact abr PySem.W.kitx_list I.CI ⟨_,h1,rfl⟩ e (λz=>nomatch z) h
 |@Ay a ob xs ea=>
  cases (show u=aas a from rx)
  obtain⟨_,_,_,n,_,h1⟩:=(show yk X.prog X.w H s.heap a (.Ay ob (.lst xs))from I.ye a _ ea)
  exact abr PySem.W.kitx_list I.CI ⟨_,h1,rfl⟩ e (λz=>nomatch z) h
 |@tup a xs ea=>
  cases (show u=aas a from rx)
  obtain⟨_,_,_,p⟩:=(show yk X.prog X.w H s.heap a (.tup xs)from I.ye a _ ea)
  obtain⟨o,h1,h2,_⟩:=p
  exact abr PySem.W.kitx_tuple I.CI ⟨o,h1,h2⟩ e (λz=>nomatch z) h
 |@dK a kvs ea=>
  cases (show u=aas a from rx)
  obtain⟨_,_,vs,_,p⟩:=(show yk X.prog X.w H s.heap a (.dK kvs)from I.ye a _ ea)
  obtain⟨o,es,ep,h1,h2,_⟩:=p
  exact abr PySem.W.kitx_dict I.CI ⟨o,h1,h2.1⟩ e (λz=>nomatch z) h
 |@dT a kvs ea=>
  cases (show u=aas a from rx)
  obtain⟨_,_,xs,_,o,es,ep,h1,h2,_⟩:=(show yk X.prog X.w H s.heap a (.dT kvs)from I.ye a _ ea)
  exact abr PySem.W.kitx_dict I.CI ⟨o,h1,h2.1⟩ e (λz=>nomatch z) h
 |@ins a C dx fs ea cl ha hn KN hm=>
  cases (show u=aas a from rx)
  obtain⟨mA,O,_⟩:=vm I.ye ea
  obtain⟨od,J,_⟩:=O.look
  exact abr (PySem.W.kitx_own (cl.get _) cl.hd ha hn KN hm) I.CI J e (λz=>nomatch z) h
structure yj(k:Nat)(A:Around):Prop where
 hd:A.handled=none
 dp:A.depth+3*k+5<recursionLimit
 un:A.units+16*k+200<cLine
 gd:A.guards=some []
theorem yj.mono(r:yj k A)(h:j<=k):yj j A:=⟨r.hd,by have:=r.dp;omega,by have:=r.un;omega,r.gd⟩
theorem yj.deeper(r:yj (k+1) A)(env:Env):yj k (A.deeper env) :=
 ⟨r.hd,by have:=r.dp;show A.depth+1+3*k+5<_;omega,by have:=r.un;show A.units+3+16*k+200<_;omega,r.gd⟩
theorem yj.in1(r:yj (k+1) A):yj k A.in1 :=
 ⟨r.hd,by have:=r.dp;show A.depth+3*k+5<_;omega,by have:=r.un;show A.units+1+16*k+200<_;omega,r.gd⟩
theorem yj.depth(r:yj k A):A.depth<recursionLimit:=by have:=r.dp;omega
theorem yj.IQ(r:yj k A):A.units<cLine:=by have:=r.un;omega
def FR:TA:=λ_ H Q=>Q [] H
def Ie(ta:TE)(tr:TA):TA:=λσ H Q=>ta σ H λx H1=>tr σ H1 λxs H2=>Q (x::xs) H2
variable{es:List Expr}{t:TA}
theorem aW:PA X [] FR:=λ_ _ _ _ H Q I h=>Calls.spliced_nil ⟨[],H,I,.nil,h⟩
theorem aM(ha:PE X e te)(hr:PA X es t)(hs:aai (e::es) X.env=(false,eval e X.env)::aai es X.env:=by rfl):PA X (e::es) (Ie te t):=by
 intro pos pins s σ H Q I h
 rw[hs]
 show wpAny _ _ (spliced ((false,eval e X.env)::backTo pos (aai es X.env))) _ _ s
 refine Calls.spliced_cons (yM (ha pins s σ H _ I h) λu s1 ⟨x,H1,I1,r1,q1⟩=>?_)
 exact yM (hr pos pins s1 σ H1 _ I1 q1) λus s2 ⟨xs,H2,I2,r2,q2⟩=>⟨x::xs,H2,I2,.cons r1 r2,q2⟩
def Ov(t:TA):TE:=λσ H Q=>t σ H λxs H1=>xs.length<=sizeLine/\∀p,H1 p=none->Q (.ref p) (upd H1 p (.tup xs))
def IY(t:TA):TE:=λσ H Q=>t σ H λxs H1=>xs.length<=sizeLine/\∀p,H1 p=none->Q (.ref p) (upd H1 p (.lst xs))
theorem wx{x1}(h:PA X es t):PE X (.Tuple es x1 pos) (Ov t):=by
 intro pins s σ H Q I hq
 refine wpAny_Tuple_spliced (yM (h pos pins s σ H _ I hq) λus s1 ⟨xs,H1,I1,r,z,q⟩=>⟨by rw[<- r.length];exact z,?_⟩)
 have hf:H1 s1.heap.objs.size=none:=I1.ye.fresh (aam _)
 refine⟨.ref s1.heap.objs.size,upd H1 s1.heap.objs.size (.tup xs),I1.laid (t':=s1.toks) (λb u e=>aad _ e) (aam _) ?_,rfl,q _ hf⟩
 exact⟨z,us,r,⟨_,aal _ rfl,rfl,_,rfl⟩⟩
theorem gc(h:PA X es t):PE X (.List es pos) (IY t):=by
 intro pins s σ H Q I hq
 refine wpAny_List_spliced (yM (h pos pins s σ H _ I hq) λus s1 ⟨xs,H1,I1,r,z,q⟩=>⟨by rw[<- r.length];exact z,?_⟩)
 have hf:H1 s1.heap.objs.size=none:=I1.ye.fresh (aam _)
 refine⟨.ref s1.heap.objs.size,upd H1 s1.heap.objs.size (.lst xs),I1.laid (t':=s1.toks) (λb u e=>aad _ e) (aam _) ?_,rfl,q _ hf⟩
 exact⟨z,us,0,r,aal _ rfl⟩
abbrev Sp:=List V->Hp->VK->XK->Prop
abbrev Lg:=List Env->Hp->Shared->XK->Value->Shared->Prop
structure DQ(P:aaE)(w:World)(K:aag)(mg:Str->Option Value)(base:Heap)(A:Around)(outer:List Env)(s:Shared)(H:Hp):Prop where
 frames:A.frames=some outer
 mod:Mod K mg base
 bs:∀b o,base.get? b=some o->s.heap.get? b=some o/\H b=none
 HU:base.objs.size<=s.heap.objs.size
 BL:s.heap.FunFrames base outer
 J5:∀b∈GL outer,H b=none
 ye:AA P w H s.heap
 bare:aeg s.gens
def CE(outer:List Env)(P:aaE)(w:World)(H:Hp)(s:Shared)(Q:VK)(u:Value)(s':Shared):Prop :=
 ∃v H',s'.os=s.os/\aeg s'.gens/\Un (GL outer) [] H H' s.heap s'.heap/\AA P w H' s'.heap/\RelV v u/\Q v H'
def CR(CX:Lg)(outer:List Env)(P:aaE)(w:World)(H:Hp)(s:Shared)(Q:VK)(E:XK)(r:Result)(s':Shared):Prop :=
 match r with
 |.ok (.ret u)=>CE outer P w H s Q u s'
 |.ok _=>False
 |.error e=>CX outer H s E e s'
structure yd(P:aaE)(w:World)(K:aag)(mg:Str->Option Value)(base:Heap)(CX:Lg)(k:Nat)(f:Addr)(fd:abz)(ps:List Str)(sp:Sp):Prop where
 len:∀vs H Q E,sp vs H Q E->vs.length=ps.length
 run:∀(A:Around) (outer:List Env) (s:Shared) (H:Hp) (args:Args) (us:List Value) (vs:List V) (Q:VK) (E:XK),yj k A->DQ P w K mg base A outer s H->BindsTo s fd args (ps.zip us)->tO vs us->sp vs H Q E ->
  aec (model P w) A (.call (.ref f) args) (CR CX outer P w H s Q E) s
variable{mg:Str->Option Value}{base:Heap}{CX:Lg}{fd:abz}{ps:List Str}{sp:Sp}
theorem yd.imp{f:Addr}{QR:Sp}(F:yd P w K mg base CX k f fd ps sp)
  (h:∀vs H Q E,QR vs H Q E->sp vs H Q E):yd P w K mg base CX k f fd ps QR :=
 ⟨λvs H Q E q=>F.len vs H Q E (h _ _ _ _ q),λA outer s H args us vs Q E hr he hb hv hs=>F.run A outer s H args us vs Q E hr he hb hv (h _ _ _ _ hs)⟩
theorem DQ.in1{outer:List Env}(e:DQ P w K mg base A outer s H):
  DQ P w K mg base A.in1 outer s H:=⟨e.frames,e.mod,e.bs,e.HU,e.BL,e.J5,e.ye,e.bare⟩
theorem Inv.MP(I:Inv X pins σ H s):DQ X.prog X.w X.K X.mg X.base X.A X.stack s H :=
 ⟨I.ok.frames,I.ok.mod,I.bs,aaZ I.ok.HU I.sz,I.stack,I.EK,I.ye,I.bare⟩
theorem Inv.after{Q:VK}{u:Value}(I:Inv X pins σ H s)(h:CE X.stack X.prog X.w H s Q u s'):EP X pins σ Q u s':=by
 obtain⟨v,H',os,bare,un,ye,r,q⟩:=h
 obtain⟨hh,g,d,t,CD⟩:=s'
 obtain rfl:CD=s.os:=os
 exact⟨v,H',I.call (h':=hh) (g':=g) (d':=d) (t':=t) (ch:=[]) un ye bare (λb z=>absurd z (by simp)),r,q⟩
def Lu(sp:Sp)(IB:List V)(E:XK)(t:TA):TE:=λσ H Q=>t σ H λvs H1=>sp (vs++IB) H1 Q E
def Binds(K:aag)(fd:abz)(ps:List Str)(ds:List Value):Prop :=
 ∀(s:Shared) (us:List Value),K.In s.heap->(us++ds).length=ps.length->BindsTo s fd ⟨us,[]⟩ (ps.zip (us++ds))
theorem Binds.all(h:∀us:List Value,us.length=ps.length->acP fd ⟨us,[]⟩=pure (ps.zip us)):Binds K fd ps []:=λs us _ hl=>by
 rw[abb]at hl ⊢
 exact .of_eq (h us hl)
def EA(CX:Lg)(X:Cx)(E:XK):Prop:=∀(pins:List (Addr×Obj)) (σ:St) (H:Hp) (s:Shared) (e:Value) (s':Shared),Inv X pins σ H s->CX X.stack H s E e s'->X.xe e s'
variable{f:Addr}{IB:List V}{ds:List Value}{E:XK}{x m:Str}{p apos:Pos}
variable{vs:List V}
theorem we{Q:VK}(F:yd X.prog X.w X.K X.mg X.base CX k f fd ps sp)(hr:yj k X.A)(hb:Binds X.K fd ps ds)(hd:tO IB ds)(hx:EA CX X E)
  (I:Inv X pins σ H s) (r:tO vs us) (h:sp (vs++IB) H Q E):wpAny (model X.prog X.w) X.A (call (.ref f) us) (EP X pins σ Q) X.xe s:=by
 have r2:tO (vs++IB) (us++ds):=r.append hd
 have hl:(us++ds).length=ps.length:=by rw[<- r2.length];exact F.len _ _ _ _ h
 refine wpAny_call (aeF (F.run X.A X.stack s H ⟨us,[]⟩ (us++ds) (vs++IB) Q E hr I.MP (hb s us I.CI hl) r2 h) λr s' hq=>?_)
 cases r with
 |error e=>exact hx pins σ H s e s' I hq
 |ok fl=>
  cases fl with
  |ret u=>exact I.after hq
  |next=>exact acf hq
  |brk=>exact acf hq
  |cont=>exact acf hq
theorem cU(F:yd X.prog X.w X.K X.mg X.base CX k f fd ps sp)(hr:yj k X.A)(hg:Gl X x)(hm:X.mg x=some (.ref f))(hk:abw X.K (.ref f)=true)(hb:Binds X.K fd ps ds)(hd:tO IB ds)(hx:EA CX X E)
  (ha:PA X (e::es) t) (A9:(x==("__debug__" : Str))=false:=by decide) (he:aai (e::es) X.env=(false,eval e X.env)::aai es X.env:=by rfl) (Ag:(backTo pos (aai es X.env)).any (·.1)=false:=by rfl) :
  PE X (.Call (.Name x p) (e::es) [] pos) (Lu sp IB E t):=by
 intro pins s σ H Q I h
 refine ab4 (og I hg hm ?_ A9)
 refine PySem.W.callWith_K (h₀:=X.base) I.ok.mod.kin hk (yM (ha pos pins s σ H _ I h) λus s1 ⟨vs,H1,I1,r,q⟩=>⟨I1.CI,?_⟩) he Ag
 exact we F hr hb hd hx I1 r q
def PK(X:Cx)(Mg:List adX)(t:TA):Prop :=
 ∀(pos:Pos) (pins:List (Addr×Obj)) (s:Shared) (σ:St) (H:Hp) (Q:List V->Hp->Prop),Inv X pins σ H s->t σ H Q->wpAny (model X.prog X.w) X.A (evalAll ((aeR pos (adz Mg X.env)).map (·.2))) (AP X pins σ Q) X.xe s
variable{ks:List Str}{Ar:Pos}{Mg:List adX}{tk:TA}{nm:Option Str}
theorem jm:PK X [] FR:=λ_ _ _ _ H Q I h=>wpAny_evalAll_nil ⟨[],H,I,.nil,h⟩
theorem cT(ha:PE X e te)(hr:PK X Mg t):PK X (⟨nm,e,Ar⟩::Mg) (Ie te t):=by
 intro pos pins s σ H Q I h
 show wpAny _ _ (evalAll ((do let v <- eval e X.env;standAt pos;pure v)::(aeR pos (adz Mg X.env)).map (·.2))) _ _ s
 refine wpAny_evalAll_cons (aab (yM (ha pins s σ H _ I h) λu s1 ⟨x,H1,I1,r1,q1⟩=>aab (act (aaj ?_))))
 exact yM (hr pos pins s1 σ H1 _ I1 q1) λus s2 ⟨xs,H2,I2,r2,q2⟩=>⟨x::xs,H2,I2,.cons r1 r2,q2⟩
variable{g:List Value->List Value->List Value}{gV:List V->List V->List V}
structure az(N P:List Str)(sc:Scope):Prop where
 kind:sc.kind=.function
 co:sc.isCoroutine=false
 gen:sc.isGenerator=false
 nd:N.Nodup
 pre:N.take P.length=P
 par:∀x∈P,sc.names.lookup x=some .local\/sc.names.lookup x=some .cell
 Ee:∀y∈sc.names,y.2≠.free
variable{kindOf:Str->Option ac8}
theorem lA:∀{binds:List (Str×Value)} {m:Str->Option Value},(∀v,(x,v)∉binds)->bindL kindOf binds m x=m x
 |[],_,_=>rfl
 |(n,v)::r,m,h=>by
  unfold bindL
  rw[lA λw hw=>h w (aar _ hw)]
  split
  .have:x≠n:=by rintro rfl;exact h v aay
   simp[this]
  .rfl
theorem lC:∀{binds:List (Str×Value)} {m:Str->Option Value},(∀v,(x,v)∉binds)->bindC kindOf binds m x=m x
 |[],_,_=>rfl
 |(n,v)::r,m,h=>by
  unfold bindC
  rw[lC λw hw=>h w (aar _ hw)]
  split
  .rfl
  .have:x≠n:=by rintro rfl;exact h v aay
   simp[this]
theorem lB:∀{P:List Str} {vs:List Value} {i:Nat} {m:Str->Option Value},P.Nodup->P[i]?=some x->vs[i]?=some v->kindOf x=some .local ->
  bindL kindOf (P.zip vs) m x=some v
 |[],_,_,_,_,h,_,_=>by simp at h
 |_::_,[],_,_,_,_,h,_=>by simp at h
 |p::P,w::vs,0,m,nd,h1,h2,hk=>by
  simp at h1 h2;subst h1;subst h2
  show bindL kindOf ((p,w)::P.zip vs) m p=_
  unfold bindL
  rw[lA λv hv=>(List.nodup_cons.mp nd).1 (ac1 hv).1,if_pos hk]
  simp
 |p::P,w::vs,i+1,m,nd,h1,h2,hk=>by
  show bindL kindOf ((p,w)::P.zip vs) m x=_
  unfold bindL
  exact lB (i:=i) (List.nodup_cons.mp nd).2 (by simpa using h1) (by simpa using h2) hk
theorem lD:∀{P:List Str} {vs:List Value} {i:Nat} {m:Str->Option Value},P.Nodup->P[i]?=some x->vs[i]?=some v->kindOf x≠some .local ->
  bindC kindOf (P.zip vs) m x=some v
 |[],_,_,_,_,h,_,_=>by simp at h
 |_::_,[],_,_,_,_,h,_=>by simp at h
 |p::P,w::vs,0,m,nd,h1,h2,hk=>by
  simp at h1 h2;subst h1;subst h2
  show bindC kindOf ((p,w)::P.zip vs) m p=_
  unfold bindC
  rw[lC λv hv=>(List.nodup_cons.mp nd).1 (ac1 hv).1,if_neg hk]
  simp
 |p::P,w::vs,i+1,m,nd,h1,h2,hk=>by
  show bindC kindOf ((p,w)::P.zip vs) m x=_
  unfold bindC
  exact lD (i:=i) (List.nodup_cons.mp nd).2 (by simpa using h1) (by simpa using h2) hk
def start(N:List Str)(vs:List V):St:=vs.map some++aaC (N.length - vs.length) none
def BM(CX:Lg)(P:aaE)(w:World)(K:aag)(mg:Str->Option Value)(base:Heap)(N:List Str)(qual:Str)(scope:Scope)(f:Addr)(cd:Value)(A:Around)(outer:List Env)(s:Shared)(H:Hp)(E:XK):Cx where
 prog:=P
 w:=w
 K:=K
 mg:=mg
 base:=base
 A:=A.deeper (envOfC qual scope s.heap.objs.size f cd)
 N:=N
 s₀:=s
 H₀:=H
 env:=envOfC qual scope s.heap.objs.size f cd
 outer:=outer
 stack:=envOfC qual scope s.heap.objs.size f cd::outer
 ex:=[]
 calm:=true
 fn:=λ_=>true
 pn:=[]
 xe:=λe s'=>wpAny (model P w) (A.deeper (envOfC qual scope s.heap.objs.size f cd)) (leaving (envOfC qual scope s.heap.objs.size f cd) e) (λ_ Jl=>CX outer H s E e Jl) (λe' Jl=>CX outer H s E e' Jl) s'
theorem mX{sc:Scope}(h:sc.names.lookup x=some .cell):∃c,(cellsFrom n sc.names []).lookup x=some c:=by
 have q:=PySem.W.cellsFrom_some sc.names n [] (.inl h)
 exact Option.isSome_iff_exists.mp q
variable{qual:Str}{scope:Scope}
theorem rd{cd:Value}{outer:List Env}{s1:Shared}
  (S:az N ps scope) (hd:A.handled=none) (e0:DQ P w K mg base A outer s H) (hl:vs.length=ps.length) (r:tO vs us)
  (x:InCallC s s.heap.objs.size (bindL (envOfC qual scope s.heap.objs.size f cd).kindOf (ps.zip us) λ_=>none) (cellsFrom (s.heap.objs.size+1) scope.names []) (bindC (envOfC qual scope s.heap.objs.size f cd).kindOf (ps.zip us) λ_=>none) s1) :
  Inv (BM CX P w K mg base N qual scope f cd A outer s H E) [] (start N vs) H s1:=by
 have Ag:ps.length<=N.length:=by have:=congrArg acN S.pre;rw[aaI]at this;omega
 obtain⟨h1,tk,rfl,hk⟩:=x.done
 have LS:∀b:Addr,b∉(BM CX P w K mg base N qual scope f cd A outer s H E).ex:=λb z=>absurd (show b∈([]:List Addr)from z) (by simp)
 refine⟨⟨e0.mod,S.kind,rfl,rfl,aam _,λy z c h1 h2=>?_,λy hy=>?_,λy c _ h=>?_,λ_=>hd,Around.frames_deeper e0.frames,.inr ⟨rfl,rfl⟩,λb z=>absurd z (LS b),e0.bs,e0.HU,λb _ _=>LS b,λb z=>absurd z (LS b),e0.BL,e0.J5⟩,
  rfl,e0.bare,Un.kept hk,⟨_,x.toInCall.ns,λi y v h1 h2 h3=>?_⟩,λy c h=>⟨_,x.cell y c h⟩,e0.ye.fresh (aam _),λy c h=>?_,λp hp=>absurd (show p∈([]:List (Addr×Obj))from hp) (by simp),e0.ye.kept hk,?_⟩
 .exact name_of_addr x.apart (abW h1) (abW h2)
 .have hy:scope.names.lookup y=some .cell\/scope.names.lookup y=some .free:=hy
  rcases hy with hy|hy
  .exact mX hy
  .exact absurd rfl (S.Ee _ (abW hy))
 .exact aeG (x.above y c (abW h))
 .have hi:i<vs.length:=by
   unfold start at h2
   by_cases hi:i<vs.length
   .exact hi
   .rw[ab3 (by simpa using hi)]at h2
    rw[List.getElem?_replicate]at h2
    split at h2<;>cases h2
  have ha:vs[i]?=some v:=by
   unfold start at h2
   rw[aav (by simpa using hi),aah]at h2
   cases e:vs[i]? with
   |none=>rw[e]at h2;cases h2
   |some a=>rw[e]at h2;cases h2;rfl
  obtain⟨u,hu,rv⟩:=r.get ha
  have hp:ps[i]?=some y:=by
   rw[<- S.pre,List.getElem?_take_of_lt (by omega)];exact h1
  have Q6:ps.Nodup:=by rw[<- S.pre];exact S.nd.sublist (aew _ _)
  refine⟨u,rv,?_⟩
  rcases S.par y (aaN hp)with k|k
  .exact .inl ⟨k,lB Q6 hp hu k⟩
  .obtain⟨c,e⟩:=mX (n:=s.heap.objs.size+1) k
   refine .inr ⟨.inl k,c,e,?_⟩
   have q:=x.cell y c e
   rw[lD Q6 hp hu (by show scope.names.lookup y≠_;rw[k];decide)]at q
   exact q
 .exact e0.ye.fresh (aeG (x.above y c (abW h)))
 .unfold start
  show _=N.length
  rw[aaQ,aae,ab7]
  omega
variable{pm:Value}
theorem t7{params:Arguments}{dV kV doc yx ct oc:Value}{an od:Option Addr}
  {Hv:Array (Option Value)} {N ps:List Str} {sp:Sp} (lk:K.lookup f=some ⟨oc,od,.func (acE name qual params body scope dV kV doc pm an yx ct),Hv⟩) (Cd:ad7 K yx qual=true) (S:az N ps scope)
  (len:∀vs H Q E,sp vs H Q E->vs.length=ps.length)
  (DA:∀(A:Around) (outer:List Env) (s:Shared) (H:Hp) (vs:List V) (Q:VK) (E:XK),yj k (A.deeper (envOfC qual scope s.heap.objs.size f yx))->sp vs H Q E ->
   ∃t,EB (BM CX P w K mg base N qual scope f yx A outer s H E) body t/\t {nx:=λ_ H'=>Q .lT H',rt:=Q} (start N vs) H) :
  yd P w K mg base CX (k+1) f (acE name qual params body scope dV kV doc pm an yx ct) ps sp:=by
 refine⟨len,λA outer s H args us vs Q E hr e0 hb r Hb=>?_⟩
 have hl:=len _ _ _ _ Hb
 have KX:K.In s.heap:=e0.mod.kin.keeps λb o e=>(e0.bs b o e).1
 have lim:s.heap.NoLimit:=e0.mod.nolimit.keeps λb o e=>(e0.bs b o e).1
 have yt:∀y∈ps.zip us,scope.names.lookup y.1=some .local\/(scope.names.lookup y.1=some .cell/\((cellsFrom (s.heap.objs.size+1) scope.names []).lookup y.1).isSome=true):=λ⟨n,v⟩ hy=>by
  rcases S.par n (ac1 hy).1 with q|q
  .exact .inl q
  .exact .inr ⟨q,PySem.W.cellsFrom_some _ _ _ (.inl q)⟩
 refine codeAny_call_function hr.depth (KX _ _ lk) rfl S.co S.gen rfl (PySem.W.codeRec_of KX Cd) (hb _ _ _ _ ?_)
 refine wpAny_newFunctionEnv_cells S.kind yt λenv he s1 x=>?_
 subst he
 refine⟨lim.keeps x.toInCall.keep,codeAny_func ?_⟩
 obtain⟨t,ht,hq⟩:=DA A outer s H vs Q E (hr.deeper _) Hb
 have I:Inv (BM CX P w K mg base N qual scope f yx A outer s H E) [] (start N vs) H s1:=rd S hr.hd e0 hl r x
 refine aaM (ht [] s1 (start N vs) H _ I hq) (λfl s' hs=>?_) λe s' hs=>hs
 have fin:∀{σ':St} {H':Hp} {v:V} {u:Value},Inv (BM CX P w K mg base N qual scope f yx A outer s H E) [] σ' H' s'->RelV v u->Q v H'->CE outer P w H s Q u s' :=
  λ{σ' H' v u} J rv q=>⟨v,H',J.os,J.bare,J.base,J.ye,rv,q⟩
 cases fl with
 |ret u=>
  obtain⟨v,σ',H',J,rv,q⟩:=hs
  exact fin J rv q
 |next=>
  obtain⟨σ',H',J,q⟩:=hs
  exact fin (v:=V.lT) (u:=aaO) J rfl q
 |brk=>
  obtain⟨_,_,_,q⟩:=hs
  exact acf q
 |cont=>
  obtain⟨_,_,_,q⟩:=hs
  exact acf q
variable{id T:String}{r:List V->Hp->VK->Prop}
def Nn(r:List V->Hp->VK->Prop)(t:TA):TE:=λσ H Q=>t σ H λvs H1=>r vs H1 Q
theorem bT(hc:yq X (.builtin id) r)(hg:Gl X x)(hm:X.mg x=none)(hv:acg x=some (.builtin id))(ha:PA X (e::es) t)(hn:x ≠ "__name__" :=by decide)(A9:(x==("__debug__" : Str))=false:=by decide)
  (he:aai (e::es) X.env=(false,eval e X.env)::aai es X.env:=by rfl) (Ag:(backTo pos (aai es X.env)).any (·.1)=false:=by rfl):PE X (.Call (.Name x p) (e::es) [] pos) (Nn r t):=by
 intro pins s σ H Q I h
 refine ab4 (cb I hg hm hv ?_ hn A9)
 exact PyProof.Rows.callWith_builtin1 (yM (ha pos pins s σ H _ I h) λus s1 ⟨vs,H1,I1,r1,q1⟩=>hc pins s1 σ H1 vs us Q I1 r1 q1) he Ag
theorem kU(hc:yq X (.type T) r)(hg:Gl X x)(hm:X.mg x=none)(hv:acg x=some (.type T))(ha:PA X (e::es) t)(hn:x ≠ "__name__" :=by decide)(A9:(x==("__debug__" : Str))=false:=by decide)
  (he:aai (e::es) X.env=(false,eval e X.env)::aai es X.env:=by rfl) (Ag:(backTo pos (aai es X.env)).any (·.1)=false:=by rfl):PE X (.Call (.Name x p) (e::es) [] pos) (Nn r t):=by
 intro pins s σ H Q I h
 refine ab4 (cb I hg hm hv ?_ hn A9)
 exact ac0 (yM (ha pos pins s σ H _ I h) λus s1 ⟨vs,H1,I1,r1,q1⟩=>hc pins s1 σ H1 vs us Q I1 r1 q1) he Ag
end L2
namespace HT
open PySem PyProof.Rows
section
open PySem.SeqAt
open PySem.AutoSeq1 (wpAny_loadPart')
open PySem.MeetsSeq PySem.MeetsSeq2 PySem.MeetsSeq3
end
variable{prog:aaE}{w:World}{A:Around}{E:Value->Shared->Prop}{s:Shared}
theorem HS{t b:Addr}{vs ws:List Value}{Q:Value->Shared->Prop}(ht:IsTup s.heap t vs.toArray)(hb:IsTup s.heap b ws.toArray)(hv:vs≠[])
  (h1:ws=[]->Q (.ref t) s) (h2:ws≠[]->Q (.ref s.heap.objs.size) {s with heap:=s.heap.push {cls:=.type "tuple",data:=.seq (vs++ws).toArray}})
  (hsz:vs.length+ws.length<=sizeLine):wpAny (model prog w) A (aci .Add (.ref t) (.ref b)) Q E s:=by
 obtain⟨⟨cls,dd,data,sl⟩,ho,hc,n,hd⟩:=id ht
 obtain⟨⟨Qq,Ld,data2,KA⟩,EX,GJ,n2,hd2⟩:=id hb
 simp only at hc hd GJ hd2
 subst hc hd GJ hd2
 have e:vs.toArray++ws.toArray=(vs++ws).toArray:=by simp
 by_cases hw:ws=[]
 .exact concat_meets ⟨_,ho,rfl⟩ ⟨_,EX,rfl⟩ aeK seq_tuple_add adG adB (ado _ _)
   (tuple_addW1 t b vs.toArray ws.toArray n n2 dd Ld sl KA (by simpa using hv) (by simp[hw])) ⟨ho,EX,h1 hw⟩
 .refine concat_meets ⟨_,ho,rfl⟩ ⟨_,EX,rfl⟩ aeK seq_tuple_add adG adB (ado _ _)
   (tuple_addW2 t b vs.toArray ws.toArray n n2 dd Ld sl KA (by simpa using hv) (by simpa using hw) (by rw[aaf,aaf];exact hsz)) ⟨ho,EX,?_⟩
  rw[e]
  exact h2 hw
def yR(n d:Nat):Option Int->Nat
 |none=>d
 |some v=>if v<0 then (v+(n:Int)).toNat else min v.toNat n
theorem Dr(n d:Nat):yR n d none=d:=rfl
theorem EM(n d k:Nat):yR n d (some (k:Int))=min k n:=by
 show (if (k:Int)<0 then ((k:Int)+(n:Int)).toNat else min (k:Int).toNat n)=min k n
 rw[if_neg (by omega),aeB]
theorem wc(n d:Nat)(hd:d<=n)(o:Option Int):yR n d o<=n:=by
 cases o with
 |none=>exact hd
 |some v=>
  show (if v<0 then (v+(n:Int)).toNat else min v.toNat n)<=n
  by_cases hv:v<0
  .rw[if_pos hv];omega
  .rw[if_neg hv];exact Nat.min_le_right _ _
theorem oP(v:Int)(n d:Nat):(if v<0 then max (v+(n:Int)) 0 else min v (n:Int))=((yR n d (some v):Nat):Int):=by
 show (if v<0 then max (v+(n:Int)) 0 else min v (n:Int))=(((if v<0 then (v+(n:Int)).toNat else min v.toNat n):Nat):Int)
 by_cases hv:v<0
 .simp only[if_pos hv];omega
 .simp only[if_neg hv];omega
theorem pU(lo hi:Option Int)(n:Nat):adg lo hi 1 (n:Int)=(((yR n 0 lo:Nat):Int),((yR n n hi:Nat):Int)):=by
 have h1:¬ ((1:Int)<0):=by omega
 unfold adg
 simp only[h1,if_false]
 refine Prod.ext ?_ ?_
 .cases lo with
  |none=>rfl
  |some v=>exact oP v n 0
 .cases hi with
  |none=>rfl
  |some v=>exact oP v n n
theorem pc(i j:Nat):acA (i:Int) (j:Int) 1=j - i:=by
 unfold acA
 have h1:(1:Int) > 0:=by omega
 simp only[h1,if_true,Int.ediv_one]
 split<;>omega
theorem jg{v:Value}{o:Option Int}{Q:Option Int->Shared->Prop}(p:IsPart v o)(h:Q o s):wpAny (model prog w) A (Builtin.Slice.slicePartIndex v) Q E s:=by
 cases p with
 |none=>exact slicePart_none h
 |int i t=>exact slicePart_int h
theorem zT{sl:Addr}{vl vu:Value}{lo hi:Option Int}{n:Nat}{Q:Int×Int×Nat->Shared->Prop}(hs:s.heap.IsSliceOf sl vl vu .none)(pl:IsPart vl lo)(pu:IsPart vu hi)
  (h:Q (((yR n 0 lo:Nat):Int),1,yR n n hi - yR n 0 lo) s):wpAny (model prog w) A (afd (.ref sl) (pure (n:Int))) Q E s:=by
 obtain⟨os,Mx,Hf,NP⟩:=id hs
 unfold afd Builtin.Slice.sliceFields
 refine aab (aab (abA Mx NP (x:=vl) rfl (aab (abA Mx NP (x:=vu) rfl (aab (abA Mx NP (x:=.none) rfl (aaj ?_)))))))
 refine aab (slicePart_none ?_)
 show wpAny _ _ (if ((1:Int)==0)=true then _ else _) _ _ s
 rw[if_neg (by decide)]
 refine aab (jg pl (aab (jg pu (aab (aaj ?_)))))
 show wpAny _ _ (match adg lo hi 1 (n:Int)with|(lo,hi)=>pure (lo,(1:Int),acA lo hi 1)) _ _ s
 rw[pU lo hi n]
 show wpAny _ _ (pure (((yR n 0 lo:Nat):Int),(1:Int),acA ((yR n 0 lo:Nat):Int) ((yR n n hi:Nat):Int) 1)) _ _ s
 rw[pc]
 exact aaj h
theorem sn(xs:Array Value)(i k:Nat):((aaS k).filterMap λ(m:Nat)=>xs[((i:Int)+(m:Int)*1).toNat]?).toArray=((xs.toList.drop i).take k).toArray:=by
 have e:(λ(m:Nat)=>xs[((i:Int)+(m:Int)*1).toNat]?)=λm=>xs[i+m]?:=by
  funext m
  have:((i:Int)+(m:Int)*1).toNat=i+m:=by omega
  rw[this]
 rw[e]
 have:=pick_run xs i k
 rw[acL]at this
 have e2:((λx=>xs[x]?) ∘ λx=>i+x)=λm=>xs[i+m]?:=rfl
 rw[e2]at this
 rw[this]
theorem Ba{t sl:Addr}{items:Array Value}{vl vu:Value}{lo hi:Option Int}{Q:Value->Shared->Prop}(ht:IsTup s.heap t items)(hs:s.heap.IsSliceOf sl vl vu .none)(pl:IsPart vl lo)(pu:IsPart vu hi)
  (hw:¬ (yR items.size 0 lo=0/\yR items.size items.size hi=items.size))
  (h:Q (.ref s.heap.objs.size) {s with heap:=s.heap.push {cls:=.type "tuple",data:=.seq ((items.toList.drop (yR items.size 0 lo)).take (yR items.size items.size hi - yR items.size 0 lo)).toArray}})
  (hsz:items.size<=sizeLine):wpAny (model prog w) A (adP (.ref t) (.ref sl)) Q E s:=by
 have EW:sizeOk (.seq ((items.toList.drop (yR items.size 0 lo)).take (yR items.size items.size hi - yR items.size 0 lo)).toArray):=by
  show ((items.toList.drop (yR items.size 0 lo)).take (yR items.size items.size hi - yR items.size 0 lo)).toArray.size<=sizeLine
  rw[aaf,aaI,List.length_drop,abe]
  omega
 have hj:yR items.size items.size hi<=items.size:=wc _ _ (aam _) hi
 obtain⟨os,Mx,Hf,NP⟩:=id hs
 have Tf:s.TypeIs (.ref sl) "slice" := ⟨os,Mx,Hf⟩
 unfold adP
 try with_reducible refine aaT ?_
 first|refine aab (aaj ?_)|skip
 refine aab (wpAny_sequenceKey ht.typeIs (by decide) ?_)
 refine aab (abN (name:=aaF "__getitem__") ht.typeIs aca
  (abJ aca ht.typeIs entry_tuple_getitem ?_ (args_tuple_getitem _ _)))
 show wpAny _ _ (afc (.ref t) >>= _) _ _ s
 refine aab (tupleItemsOf_ ht ?_)
 refine aab (adM Tf ?_)
 rw[if_pos (by decide)]
 refine aab (zT hs pl pu ?_)
 have SJ:¬ ((((yR items.size 0 lo:Nat):Int)==0 && (1:Int)==1 && (yR items.size items.size hi - yR items.size 0 lo)==items.size)=true):=by
  intro q
  rw[aa2,aa2]at q
  have q1:((yR items.size 0 lo:Nat):Int)=0:=eq_of_beq q.1.1
  have q2:yR items.size items.size hi - yR items.size 0 lo=items.size:=eq_of_beq q.2
  exact hw ⟨by omega,by omega⟩
 show wpAny _ _ (if (((yR items.size 0 lo:Nat):Int)==0 && (1:Int)==1 && (yR items.size items.size hi - yR items.size 0 lo)==items.size)=true then _ else _) _ _ s
 rw[if_neg SJ,sn]
 first
  |exact aab (m:=acF _) (abR (aaj ⟨_,rfl,aaj h⟩) EW)
  |exact aab (m:=acF _) (abR (aab (aaj (aaj ⟨_,rfl,aaj h⟩))) EW)
  |exact aab (aab (m:=acF _) (abR (aaj (aaj ⟨_,rfl,aaj h⟩)) EW))
  |exact aab (aab (m:=acF _) (abR (aaj ⟨_,rfl,aaj h⟩) EW))
end HT
namespace L2
open PySem PySem.Spec PyProof.Rows
abbrev TO:=St->Hp->(Option Int->Hp->Prop)->Prop
def PO(X:Cx)(e:Option Expr)(t:TO):Prop :=
 ∀(pins:List (Addr×Obj)) (s:Shared) (σ:St) (H:Hp) (Q:Option Int->Hp->Prop),Inv X pins σ H s->t σ H Q ->
  wpAny (model X.prog X.w) X.A (evalPart e X.env) (λu s'=>∃o H',Inv X pins σ H' s'/\IsPart u o/\Q o H') X.xe s
def uh:TO:=λ_ H Q=>Q none H
def Lj(t:TE):TO:=λσ H Q=>t σ H λx H1=>∃i,x=.int i/\Q (some i) H1
variable{X:Cx}{e:Expr}{te:TE}{lo hi:Option Expr}{tl th:TO}{pos p2:Pos}
theorem j4:PO X none uh:=by
 intro pins s σ H Q I h
 rw[evalPart_none]
 exact aaj ⟨none,H,I,.none,h⟩
theorem j0(h:PE X e te):PO X (some e) (Lj te):=by
 intro pins s σ H Q I hw
 rw[evalPart_some]
 refine yM (h pins s σ H _ I hw) λu s1 ⟨x,H1,I1,r1,q1⟩=>?_
 obtain⟨i,rfl,q⟩:=q1
 obtain⟨t,rfl⟩:=r1
 exact⟨some i,H1,I1,.int i t,q⟩
def HV(X:Cx)(r:V->Option Int->Option Int->Hp->VK->Prop):Prop :=
 ∀(pins:List (Addr×Obj)) (s:Shared) (σ:St) (H:Hp) (x:V) (v vl vu:Value) (lo hi:Option Int) (sl:Addr) (Q:VK),Inv X pins σ H s->RelV x v->s.heap.IsSliceOf sl vl vu .none->IsPart vl lo->IsPart vu hi->r x lo hi H Q ->
  ∃T id,typeLookup (.type T) "__getitem__" = pure (some (.builtin id))/\s.TypeIs v T/\wpAny (model X.prog X.w) X.A (adP v (.ref sl)) (EP X pins σ Q) X.xe s
theorem HV.or{r r':V->Option Int->Option Int->Hp->VK->Prop}(h:HV X r)(h':HV X r'):HV X (λx lo hi H Q=>r x lo hi H Q\/r' x lo hi H Q):=by
 intro pins s σ H x v vl vu lo hi sl Q I rx hs pl pu q
 rcases q with q|q
 .exact h pins s σ H x v vl vu lo hi sl Q I rx hs pl pu q
 .exact h' pins s σ H x v vl vu lo hi sl Q I rx hs pl pu q
def RY(r:V->Option Int->Option Int->Hp->VK->Prop)(te:TE)(tl th:TO):TE:=λσ H Q=>te σ H λx H1=>tl σ H1 λl H2=>th σ H2 λu H3=>r x l u H3 Q
theorem iO{r:V->Option Int->Option Int->Hp->VK->Prop}(hr:HV X r)(he:PE X e te)(hl:PO X lo tl)(hu:PO X hi th):PE X (.Subscript e (.Slice lo hi none p2) pos) (RY r te tl th):=by
 intro pins s σ H Q I h
 refine Subscript_ (yM (he pins s σ H _ I h) λv s1 ⟨x,H1,I1,r1,q1⟩=>?_)
 refine wpAny_Slice (yM (hl pins s1 σ H1 _ I1 q1) λvl s2 ⟨l,H2,I2,pl,q2⟩=>yM (hu pins s2 σ H2 _ I2 q2) λvu s3 ⟨u,H3,I3,pu,q3⟩=>?_)
 rw[evalPart_none]
 refine aaj ?_
 have I4:Inv X pins σ H3 {s3 with heap:=s3.heap.push {cls:=.type "slice",data:=.fields #[vl,vu,.none]}}:=I3.kept (t':=s3.toks) λb ob q=>aad _ q
 obtain⟨T,id,hT,ht,hg⟩:=hr pins {s3 with heap:=s3.heap.push {cls:=.type "slice",data:=.fields #[vl,vu,.none]}} σ H3 x v vl vu l u s3.heap.objs.size Q I4 r1 (Heap.IsSliceOf.new ..) pl pu q3
 show wpAny (model X.prog X.w) X.A (subscriptTail e (.Slice lo hi none p2) v (.ref s3.heap.objs.size)) (EP X pins σ Q) X.xe {s3 with heap:=s3.heap.push {cls:=.type "slice",data:=.fields #[vl,vu,.none]}}
 exact tail_any (ops:=[.ref s3.heap.objs.size,v]) ht hT hg (by with_unfolding_all rfl)
def Bv(xs:List V)(lo hi:Option Int):List V:=(xs.drop (HT.yR xs.length 0 lo)).take (HT.yR xs.length xs.length hi - HT.yR xs.length 0 lo)
theorem io(xs:List V)(lo hi:Option Int):(Bv xs lo hi).length<=xs.length:=by
 unfold Bv
 rw[aaI,List.length_drop]
 omega
def OJ(K:aag):V->Option Int->Option Int->Hp->VK->Prop:=λx lo hi H Q=>∃a xs,x=.ref a/\zg K H a xs /\
 ¬ (HT.yR xs.length 0 lo=0/\HT.yR xs.length xs.length hi=xs.length)/\∀p,H p=none->Q (.ref p) (upd H p (.tup (Bv xs lo hi)))
theorem wb:HV X (OJ X.K):=by
 intro pins s σ H x v vl vu lo hi sl Q I rx hs pl pu h
 obtain⟨a,xs,rfl,hx,hw,q⟩:=h
 cases rx
 obtain⟨gE,r,ht,hz⟩:=I.tuple hx
 have hlen:gE.toArray.size=xs.length:=by rw[aaf];exact r.length.symm
 refine⟨"tuple",_,PyProof.Rows.slot_tuple_getitem.lookup,ht.typeIs,?_⟩
 refine HT.Ba ht hs pl pu (by rw[hlen];exact hw) ?_ (by rw[hlen];exact hz)
 rw[hlen]
 refine⟨.ref s.heap.objs.size,_,I.laid (t':=s.toks) (o:=.tup (Bv xs lo hi)) (λb ob q=>aad _ q) (aam _) ?_,rfl,q _ (I.ye.fresh (aam _))⟩
 exact⟨aaZ (io xs lo hi) hz,_,(r.drop (HT.yR xs.length 0 lo)).take (HT.yR xs.length xs.length hi - HT.yR xs.length 0 lo),IsTup.new _ _⟩
def LL(K:aag):R2:=λx y H Q=>∃a b xs ys,x=.ref a/\y=.ref b/\zg K H a xs/\zg K H b ys/\xs≠[]/\xs.length+ys.length<=sizeLine /\
 (ys=[]->Q (.ref a) H)/\(ys≠[]->∀p,H p=none->Q (.ref p) (upd H p (.tup (xs++ys))))
variable{xs:List V}{us:List Value}
theorem tO.CW(r:tO xs us):us=[]↔xs=[]:=by
 cases r with
 |nil=>simp
 |cons _ _=>simp
theorem uQ:zf X (aci .Add) (LL X.K):=by
 intro pins s σ H x y v u Q I rx ry h
 obtain⟨a,b,xs,ys,rfl,rfl,ha,hb,hx,hz,q1,q2⟩:=h
 cases rx
 cases ry
 obtain⟨gE,r1,p1,_⟩:=I.tuple ha
 obtain⟨zm,r2,p2,_⟩:=I.tuple hb
 refine HT.HS p1 p2 (λz=>hx (r1.CW.mp z)) (λz=>⟨.ref a,H,I,rfl,q1 (r2.CW.mp z)⟩) (λz=>?_) (by rw[<- r1.length,<- r2.length];exact hz)
 refine⟨.ref s.heap.objs.size,_,I.laid (t':=s.toks) (o:=.tup (xs++ys)) (λb ob q=>aad _ q) (aam _) ?_,rfl,q2 (λw=>z (r2.CW.mpr w)) _ (I.ye.fresh (aam _))⟩
 exact⟨by rw[aaQ];exact hz,_,r1.append r2,IsTup.new _ _⟩
def G8(n:Nat)(i:Int):Option Nat:=if 0<=i then (if i<n then some i.toNat else none)else if -(n:Int)<=i then some (i+n).toNat else none
variable{α:Type}
def Ey(xs:List α)(i:Int):Option α:=(G8 xs.length i).bind λj=>xs[j]?
variable{n j:Nat}{i:Int}
theorem oA(h:G8 n i=some j):seqIndex? i n=some j/\j<n /\ -(n:Int)<=i/\i<n:=by
 unfold G8 at h
 by_cases h0:0<=i
 .rw[if_pos h0]at h
  by_cases h1:i<n
  .rw[if_pos h1]at h
   have e:i.toNat=j:=aao h
   exact⟨by rw[seqIndex_of h0 h1,e],by omega,by omega,h1⟩
  .rw[if_neg h1]at h;cases h
 .rw[if_neg h0]at h
  by_cases h1 : -(n:Int)<=i
  .rw[if_pos h1]at h
   have e:(i+n).toNat=j:=aao h
   exact⟨by rw[seqIndex_neg (by omega) h1,e],by omega,h1,by omega⟩
  .rw[if_neg h1]at h;cases h
theorem kI{xs:List α}{v:α}(h:Ey xs i=some v):∃j,seqIndex? i xs.length=some j/\xs[j]?=some v/\j<xs.length /\ -(xs.length:Int)<=i/\i<xs.length:=by
 unfold Ey at h
 cases e:G8 xs.length i with
 |none=>rw[e]at h;cases h
 |some j=>
  rw[e]at h
  obtain⟨h1,h2,h3,h4⟩:=oA e
  exact⟨j,h1,h,h2,h3,h4⟩
theorem au{xs:List α}{v:α}(h:xs[j]?=some v):Ey xs (j:Int)=some v:=by
 have hj:j<xs.length:=(List.getElem?_eq_some_iff.mp h).1
 have e:G8 xs.length (j:Int)=some j:=by
  unfold G8
  rw[if_pos (by omega),if_pos (by omega)];simp
 unfold Ey;rw[e];exact h
def eY(b:Expr):Prop:=∀o i,aeV b false o i=operate [o,i] (adP o i)
def G2(X:Cx)(r:R2):Prop :=
 ∀(value slice:Expr) (pins:List (Addr×Obj)) (s:Shared) (σ:St) (H:Hp) (x y:V) (v u:Value) (Q:VK),Inv X pins σ H s->RelV x v->RelV y u->r x y H Q ->
  aeV slice false v u=operate [v,u] (adP v u)->wpAny (model X.prog X.w) X.A (subscriptTail value slice v u) (EP X pins σ Q) X.xe s
def N3(X:Cx)(id:String)(r:V->List V->Hp->VK->Prop):Prop :=
 ∀(pins:List (Addr×Obj)) (s:Shared) (σ:St) (H:Hp) (x:V) (xs:List V) (v:Value) (us:List Value) (Q:VK),Inv X pins σ H s->RelV x v->tO xs us->r x xs H Q ->
  wpAny (model X.prog X.w) X.A (call (.builtin id) (v::us)) (EP X pins σ Q) X.xe s
variable{a b:Expr}{ta tb:TE}
variable{r:R2}
theorem G2.or{r':R2}(h:G2 X r)(h':G2 X r'):G2 X (λx y H Q=>r x y H Q\/r' x y H Q):=by
 intro value slice pins s σ H x y v u Q I rx ry q hs
 rcases q with q|q
 .exact h value slice pins s σ H x y v u Q I rx ry q hs
 .exact h' value slice pins s σ H x y v u Q I rx ry q hs
theorem bv(hr:G2 X r)(ha:PE X a ta)(hb:PE X b tb)(hs:eY b):PE X (.Subscript a b pos) (BI r ta tb):=by
 intro pins s σ H Q I h
 exact Subscript_ (Km ha hb I h λv u s2 x y H2 I2 rx ry q=>hr a b pins s2 σ H2 x y v u Q I2 rx ry q (hs _ _))
def BZ(K:aag):R2:=λx y H Q=>∃p xs i v,x=.ref p/\y=.int i/\zp K H p xs/\Ey xs i=some v/\Q v H
def LF(K:aag):R2:=λx y H Q=>∃p xs i v,x=.ref p/\y=.int i/\zg K H p xs/\Ey xs i=some v/\Q v H
def LG:R2:=λx y H Q=>∃z i c,x=.str z/\y=.int i/\z.length<=sizeLine/\Ey z.cps.toList i=some c/\Q (.str ⟨#[c]⟩) H
theorem yH:G2 X (BZ X.K):=by
 intro value slice pins s σ H x y v u Q I rx ry h hs
 obtain⟨p,xs,i,z,rfl,rfl,hq,he,q⟩:=h
 cases rx
 obtain⟨t,rfl⟩:=ry
 obtain⟨gE,r,pl,hz⟩:=I.list hq
 obtain⟨j,h1,h2,h3,h4,h5⟩:=kI he
 obtain⟨w,ew,BA⟩:=r.get h2
 have hl:=r.length
 have hn:=AO
 have fin:EP X pins σ Q w s:=⟨z,H,I,BA,q⟩
 by_cases h0:0<=i
 .have hj:i.toNat=j:=by
   rw[seqIndex_of h0 h5]at h1
   exact aao h1
  exact item_listR pl.isList h0 (by omega) (by rw[hj];simpa using ew) fin hs
 .have hj:(i+(gE.toArray.size:Int)).toNat=j:=by
   rw[seqIndex_neg (by omega) h4]at h1
   rw[aaf,<- hl]
   exact aao h1
  exact subscriptTail_builtinR (x:=w) pl.isList.typeIs slot_list_getitem.lookup
   (wpAny_getItem_list_neg (Q:=λr s'=>r=w/\EP X pins σ Q r s') pl.isList (by omega) (by rw[aaf]<;>omega) (by omega) (by rw[hj];simpa using ew) ⟨rfl,fin⟩) hs
theorem JB:G2 X (LF X.K):=by
 intro value slice pins s σ H x y v u Q I rx ry h hs
 obtain⟨p,xs,i,z,rfl,rfl,hq,he,q⟩:=h
 cases rx
 obtain⟨t,rfl⟩:=ry
 obtain⟨gE,r,pl,hz⟩:=I.tuple hq
 obtain⟨j,h1,h2,h3,h4,h5⟩:=kI he
 obtain⟨w,ew,BA⟩:=r.get h2
 have hl:=r.length
 have hn:=AO
 have fin:EP X pins σ Q w s:=⟨z,H,I,BA,q⟩
 exact subscriptTail_builtinR (x:=w) pl.typeIs slot_tuple_getitem.lookup
  (getItem_tuple (j:=j) (Q:=λr s'=>r=w/\EP X pins σ Q r s') pl (by omega) (by omega) (by rw[aaf,<- hl];exact h1) (by simpa using ew) ⟨rfl,fin⟩) hs
theorem w4:G2 X LG:=by
 intro value slice pins s σ H x y v u Q I rx ry h hs
 obtain⟨z,i,c,rfl,rfl,hz,he,q⟩:=h
 obtain⟨t,rfl⟩:=rx
 obtain⟨t',rfl⟩:=ry
 obtain⟨j,h1,h2,h3,h4,h5⟩:=kI he
 have hl:z.cps.toList.length=z.length:=by simp[Str.length]
 rw[hl]at h1 h4 h5
 have hn:=AO
 exact tail_any (typeIs_str s z t) slot_str_getitem.lookup (getItem_str (c:=c) (by
  have e1:decide (i < -(2 ^ 63:Int))=false:=decide_eq_false (by omega)
  have e2:decide (i ≥ 2 ^ 63)=false:=decide_eq_false (by omega)
  rw[e1,e2,Bool.or_false]) (by rw[h1];simpa using h2) ⟨.str ⟨#[c]⟩,H,I.tok _,⟨_,rfl⟩,q⟩) hs
def QV(K:aag):R2:=λx y H Q=>BZ K x y H Q\/LF K x y H Q\/LG x y H Q
theorem JC:G2 X (QV X.K):=yH.or (JB.or w4)
theorem pE(gE:List Value)(n j:Nat)(u:Value):aa1 (·.setIfInBounds j u) {cls:=.type "list",data:=.seq gE.toArray n}={cls:=.type "list",data:=.seq (gE.set j u).toArray n}:=by
 simp[aa1]
variable{pins:List (Addr×Obj)}{σ:St}{H:Hp}{s:Shared}
theorem Inv.lst{p:Addr}(I:Inv X pins σ H s)(h:H p=some (.lst xs)):
  ∃(gE:List Value) (n:Nat),tO xs gE/\s.heap.get? p=some {cls:=.type "list",data:=.seq gE.toArray n}/\xs.length<=sizeLine:=by
 obtain⟨z,gE,n,r,e⟩:=I.ye p _ h
 exact⟨gE,n,r,e,z⟩
variable{gE:List Value}
theorem Inv.Jz{p:Addr}{ys:List V}{its':List Value}{n':Nat}{f:Obj->Obj}(I:Inv X pins σ H s)(h:H p=some (.lst xs))
  (ho:s.heap.get? p=some {cls:=.type "list",data:=.seq gE.toArray n}) (hf:f {cls:=.type "list",data:=.seq gE.toArray n}={cls:=.type "list",data:=.seq its'.toArray n'}) (r:tO ys its') (hz:ys.length<=sizeLine) (t:Nat) :
  Inv X pins σ (upd H p (.lst ys)) {s with heap:=s.heap.update p f,toks:=t}:=by
 have e:(s.heap.update p f).get? p=some {cls:=.type "list",data:=.seq its'.toArray n'}:=by
  rw[Heap.get?_update_self f ho (by rw[hf]<;>rfl),hf]
 refine I.write (x:=p) (e:=p) (by rw[h];trivial) (.inl rfl) (λb u hb q=>(Heap.get?_update_other _ _ (abO hb)).trans q) ⟨_,e⟩ ?_
 exact⟨hz,its',n',r,e⟩
def EN:V->V->V->Hp->(Hp->Prop)->Prop:=λo i v H Q=>∃p xs k j,o=.ref p/\i=.int k/\H p=some (.lst xs)/\G8 xs.length k=some j/\Q (upd H p (.lst (xs.set j v)))
theorem iC:DL X EN:=by
 intro pins s σ H o i v ov iv u Q I ro ri rv h
 obtain⟨p,xs,k,j,rfl,rfl,hp,hj,q⟩:=h
 cases ro
 obtain⟨t,rfl⟩:=ri
 obtain⟨gE,n,r,ho,hz⟩:=I.lst hp
 obtain⟨h1,h2,h3,h4⟩:=oA hj
 have hl:=r.length
 have hn:=AO
 have I':Inv X pins σ (upd H p (.lst (xs.set j v))) {s with heap:=s.heap.update p (aa1 (·.setIfInBounds j u))} :=
  I.Jz hp ho (pE gE n j u) (r.set rv j) (by rw[ae6];exact hz) s.toks
 by_cases h0:0<=k
 .have hk:k.toNat=j:=by
   rw[seqIndex_of h0 h4]at h1
   exact aao h1
  exact PySem.W.ki_setAt ho h0 (by omega) (by rw[aaf,<- hl];exact h4) (by rw[hk];exact⟨_,I',q⟩)
 .have hk:(k+(gE.toArray.size:Int)).toNat=j:=by
   rw[seqIndex_neg (by omega) h3]at h1
   rw[aaf,<- hl]
   exact aao h1
  exact PySem.W.ki_setBack ho (by omega) (by rw[aaf,<- hl];exact h3) (by omega) (by rw[hk];exact⟨_,I',q⟩)
theorem lO(lo hi:Option Int)(n:Nat):(acY lo hi none n).1=((HT.yR n 0 lo:Nat):Int)/\(acY lo hi none n).2.1=((HT.yR n n hi:Nat):Int)/\(acY lo hi none n).2.2=1:=by
 refine⟨?_,?_,rfl⟩
 .cases lo with
  |none=>simp[acY,HT.yR]
  |some i=>
   simp only[acY,HT.yR,Option.getD_none,show (1:Int) > 0 by decide,if_true]
   by_cases h:i<0
   .simp only[h,if_true]<;>omega
   .simp only[h,if_false]<;>omega
 .cases hi with
  |none=>simp[acY,HT.yR]
  |some i=>
   simp only[acY,HT.yR,Option.getD_none,show (1:Int) > 0 by decide,if_true]
   by_cases h:i<0
   .simp only[h,if_true]<;>omega
   .simp only[h,if_false]<;>omega
theorem lF(gE:List Value)(lo hi:Option Int):slicePick gE.toArray lo hi none=((gE.drop (HT.yR gE.length 0 lo)).take (HT.yR gE.length gE.length hi - HT.yR gE.length 0 lo)).toArray:=by
 obtain⟨h1,h2,h3⟩:=lO lo hi gE.toArray.size
 unfold slicePick
 rw[h1,h2,h3]
 simp only[sliceRange_one,pick_run,aaf]<;>rfl
def OK(K:aag):V->Option Int->Option Int->Hp->VK->Prop:=λx lo hi H Q=>∃a xs,x=.ref a/\zp K H a xs/\∀p,H p=none->Q (.ref p) (upd H p (.lst (Bv xs lo hi)))
theorem jR:HV X (OK X.K):=by
 intro pins s σ H x v vl vu lo hi sl Q I rx hs pl pu h
 obtain⟨a,xs,rfl,hx,q⟩:=h
 cases rx
 obtain⟨gE,r,ht,hz⟩:=I.list hx
 have hlen:=r.length
 refine⟨"list",_,slot_list_getitem.lookup,ht.isList.typeIs,?_⟩
 refine wpAny_getItem_list_slice ht.isList hs pl pu .none (by simp) ?_ (by rw[aaf]<;>omega)
 rw[lF,<- hlen]
 refine⟨.ref s.heap.objs.size,_,I.laid (t':=s.toks) (o:=.lst (Bv xs lo hi)) (λb ob q=>aad _ q) (aam _) ?_,rfl,q _ (I.ye.fresh (aam _))⟩
 exact⟨aaZ (io xs lo hi) hz,_,0,(r.drop (HT.yR xs.length 0 lo)).take (HT.yR xs.length xs.length hi - HT.yR xs.length 0 lo),aal _ rfl⟩
theorem mi:zf X (aa9 .NotIn) (λx y H Q=>∃i j,x=.str i/\y=.str j/\Q (.bl (!(!(acM j i 0 j.length 1).isEmpty))) H):=by
 intro pins s σ H x y v u Q I rx ry h
 obtain⟨i,j,rfl,rfl,q⟩:=h
 obtain⟨t,rfl⟩:=rx
 obtain⟨t',rfl⟩:=ry
 exact notIn_str ⟨.bl _,H,I,rfl,q⟩
theorem gz:yq X (.builtin "len") (λxs H Q=>∃p ys,xs=[.ref p]/\(zp X.K H p ys\/zg X.K H p ys)/\Q (.int ys.length) H):=by
 intro pins s σ H xs us Q I r h
 obtain⟨p,ys,rfl,hq,q⟩:=h
 obtain⟨u,rfl,rx⟩:=vals1 r
 cases rx
 have hn:=AO
 rcases hq with hq|hq
 .obtain⟨gE,r',pl,hz⟩:=I.list hq
  have hlen:=r'.length
  exact Calls.call_len_list pl.isList (by simp only[aaf]<;>omega) ⟨.int ys.length,H,I.tok _,⟨s.toks+1,by rw[aaf,hlen]⟩,q⟩
 .obtain⟨gE,r',pl,hz⟩:=I.tuple hq
  have hlen:=r'.length
  exact len_tuple pl (by simp only[aaf]<;>omega) ⟨.int ys.length,H,I.tok _,⟨s.toks+1,by rw[aaf,hlen]⟩,q⟩
theorem m3:yq X (.builtin "len") (λxs H Q=>∃z,xs=[.str z]/\z.length<=sizeLine/\Q (.int z.length) H):=by
 intro pins s σ H xs us Q I r h
 obtain⟨z,rfl,hz,q⟩:=h
 obtain⟨u,rfl,t,rfl⟩:=vals1 r
 have hn:=AO
 exact len_str (by omega) ⟨.int z.length,H,I.tok _,⟨_,rfl⟩,q⟩
variable{f:Value}
theorem yq.or{r r':List V->Hp->VK->Prop}(h:yq X f r)(h':yq X f r'):yq X f (λxs H Q=>r xs H Q\/r' xs H Q):=by
 intro pins s σ H xs us Q I rs q
 rcases q with q|q
 .exact h pins s σ H xs us Q I rs q
 .exact h' pins s σ H xs us Q I rs q
theorem lJ:yq X (.type "tuple") (λxs H Q=>∃p ys,xs=[.ref p]/\((zp X.K H p ys/\∀l,H l=none->Q (.ref l) (upd H l (.tup ys)))\/(zg X.K H p ys/\Q (.ref p) H))):=by
 intro pins s σ H xs us Q I r h
 obtain⟨p,ys,rfl,h⟩:=h
 obtain⟨u,rfl,rx⟩:=vals1 r
 cases rx
 rcases h with ⟨hq,q⟩|⟨hq,q⟩
 .obtain⟨gE,r',pl,hz⟩:=I.list hq
  have hlen:=r'.length
  refine call_tuple_list pl.isList (λh' kp=>?_) (by simp only[aaf]<;>omega)
  have I1:Inv X pins σ H {s with heap:=h'}:=I.kept (t':=s.toks) kp
  have I2:Inv X pins σ (upd H h'.objs.size (.tup ys)) {s with heap:=h'.push {cls:=.type "tuple",data:=.seq gE.toArray}} :=
   I1.laid (t':=s.toks) (λb o e=>aad _ e) (aam _) (show yk X.prog X.w _ _ _ (.tup ys)from ⟨hz,gE,r',IsTup.new _ _⟩)
  exact⟨.ref h'.objs.size,_,I2,rfl,q _ (I1.ye.fresh (aam _))⟩
 .obtain⟨gE,r',pl,hz⟩:=I.tuple hq
  exact call_tuple_same pl ⟨.ref p,H,I,rfl,q⟩
def Oo(K:aag)(T:String)(x:V)(H:Hp):Prop:=match x with
 |.str _=>T = "str"
 |.int _=>T = "int"
 |.ref p=>(T = "list" /\ ∃xs,zp K H p xs)\/(T = "tuple" /\ ∃o,K.lookup p=some o/\o.cls=.type "tuple" /\ o.dict=none) \/
   (T = "dict" /\ ((∃kvs,H p=some (.dK kvs))\/∃kvs,H p=some (.dT kvs)))\/(T = "set" /\ ∃S n,H p=some (.set S n))
 |_=>False
variable{x:V}{v:Value}
theorem qb{T:String}(I:Inv X pins σ H s)(r:RelV x v)(ty:Oo X.K T x H):
  s.TypeIs v T/\∀a,v=.ref a->∃ob,s.heap.get? a=some ob/\ob.dict=none:=by
 cases x with
 |str z=>
  obtain⟨t,rfl⟩:=r
  cases (show T = "str" from ty)
  exact⟨typeIs_str s z t,λ_ e=>nomatch e⟩
 |int i=>
  obtain⟨t,rfl⟩:=r
  cases (show T = "int" from ty)
  exact⟨typeIs_int s i t,λ_ e=>nomatch e⟩
 |ref p=>
  cases r
  rcases ty with ⟨rfl,xs,hq⟩|⟨rfl,o,hk,hc,hd⟩|⟨rfl,hk⟩|⟨rfl,S,n,hk⟩
  .obtain⟨gE,_,pl,_⟩:=I.list hq
   refine⟨pl.isList.typeIs,λa e=>?_⟩
   cases e
   obtain⟨o,n,e,c,hd,_⟩:=pl
   exact⟨o,e,hd⟩
  .refine⟨⟨o,I.CI p o hk,hc⟩,λa e=>?_⟩
   cases e
   exact⟨o,I.CI _ o hk,hd⟩
  .have z:∃o,s.heap.get? p=some o/\o.ExactDict:=by
    rcases hk with ⟨kvs,hk⟩|⟨kvs,hk⟩
    .obtain⟨_,_,_,_,o,_,_,e,ex,_⟩:=I.ye p _ hk
     exact⟨o,e,ex⟩
    .obtain⟨_,_,_,_,o,_,_,e,ex,_⟩:=I.ye p _ hk
     exact⟨o,e,ex⟩
   obtain⟨o,e,ex⟩:=z
   refine⟨⟨o,e,ex.1⟩,λa e2=>?_⟩
   cases e2
   exact⟨o,e,ex.2.1⟩
  .obtain⟨o,_,_,_,e,ex,_⟩:=I.ye p _ hk
   refine⟨⟨o,e,ex.1⟩,λa e2=>?_⟩
   cases e2
   exact⟨o,e,ex.2.1⟩
 |_=>exact acf ty
def OA(K:aag)(T:String)(r:V->List V->Hp->VK->Prop)(to:TE):TE:=λσ H Q=>to σ H λx H1=>Oo K T x H1/\r x [] H1 Q
def QN(K:aag)(T:String)(r:V->List V->Hp->VK->Prop)(to:TE)(t:TA):TE:=λσ H Q=>to σ H λx H1=>Oo K T x H1/\t σ H1 λxs H2=>r x xs H2 Q
variable{o:Expr}{es:List Expr}{to:TE}{t:TA}{name:Str}{apos yP:Pos}{T id:String}{r:V->List V->Hp->VK->Prop}
theorem wB(pa:PlainAttrs T)(slot:Slot T name id)(Fh:typeOf (.builtin id)=pure (.type "method_descriptor"))(hm:N3 X id r)(ho:PE X o to)
  (zx:acw o name X.env (eval o X.env)=eval o X.env:=by rfl) (zw:(apos.endLine==yP.line)=true:=by rfl):PE X (.Call (.Attribute o name apos) [] [] yP) (OA X.K T r to):=by
 intro pins s σ H Q I h
 refine wpAny_Call_method0_late zx zw (yM (ho pins s σ H _ I h) λv s1 ⟨x,H1,I1,r1,ty,q1⟩=>?_)
 obtain⟨h1,h2⟩:=qb I1 r1 ty
 exact⟨T,id,pa,slot,Fh,h1,h2,adL rfl (PySem.evalArgs_none (hm pins s1 σ H1 x [] v [] Q I1 r1 .nil q1))⟩
theorem ph(pa:PlainAttrs T)(slot:Slot T name id)(Fh:typeOf (.builtin id)=pure (.type "method_descriptor"))(hm:N3 X id r)(ho:PE X o to)(ha:PA X (e::es) t)
  (zx:acw o name X.env (eval o X.env)=eval o X.env:=by rfl)
  (Ek:((backTo yP (aai (e::es) X.env)).all (λx=>!x.1) && (aeR yP (adz [] X.env)).all (λx=>x.1.isSome)
   && decide ((e::es).length+([]:List adX).length+(if ([]:List adX).isEmpty then 0 else 1)<30))=true:=by rfl)
  (zw:(apos.endLine==yP.line)=true:=by rfl) (hs:aai (e::es) X.env=(false,eval e X.env)::aai es X.env:=by rfl) (AQ:(backTo yP (aai es X.env)).any (·.1)=false:=by rfl) :
  PE X (.Call (.Attribute o name apos) (e::es) [] yP) (QN X.K T r to t):=by
 intro pins s σ H Q I h
 refine wpAny_Call_method_late zx Ek zw rfl (yM (ho pins s σ H _ I h) λv s1 ⟨x,H1,I1,r1,ty,q1⟩=>?_)
 obtain⟨h1,h2⟩:=qb I1 r1 ty
 refine⟨T,id,pa,slot,Fh,h1,h2,?_⟩
 have hA:=ha yP pins s1 σ H1 _ I1 q1
 rw[hs]at hA ⊢
 refine adL (by show (false || (backTo yP (aai es X.env)).any (·.1))=false;rw[AQ]<;>rfl) (Calls.evalArgs_plain ?_)
 exact yM hA λus s2 ⟨vs,H2,I2,r2,q2⟩=>hm pins s2 σ H2 x vs v us Q I2 r1 r2 q2

def Qx(X:Cx)(id:String)(r:V->List V->Hp->VK->Prop):Prop :=
 ∀(pins:List (Addr×Obj)) (s:Shared) (σ:St) (H:Hp) (x:V) (xs:List V) (v:Value) (us:List Value) (Q:VK),Inv X pins σ H s->RelV x v->tO xs us->r x xs H Q ->
  wpAny (model X.prog X.w) X.A (call (.builtin id) (v::us)) (EP X pins σ Q) X.xe s
theorem tO.one:∀{x:V} {us:List Value},tO [x] us->∃u,us=[u]/\RelV x u
 |_,_,.cons r .nil=>⟨_,rfl,r⟩
theorem tO.two:∀{x y:V} {us:List Value},tO [x,y] us->∃u v,us=[u,v]/\RelV x u/\RelV y v
 |_,_,_,.cons r (.cons q .nil)=>⟨_,_,rfl,r,q⟩
theorem tO.zero:∀{us:List Value},tO [] us->us=[]
 |_,.nil=>rfl
theorem tO.dropLast(h:tO xs us):tO xs.dropLast us.dropLast:=by
 induction h with
 |nil=>exact .nil
 |cons r t ih=>
  cases t with
  |nil=>exact .nil
  |cons q t'=>exact .cons r ih
theorem tO.eraseIdx:∀{xs:List V} {us:List Value} (i:Nat),tO xs us->tO (xs.eraseIdx i) (us.eraseIdx i)
 |_,_,_,.nil=>.nil
 |_,_,0,.cons _ t=>t
 |_,_,i+1,.cons r t=>.cons r (tO.eraseIdx i t)
theorem tO.rep(h:tO xs us):∀k:Nat,tO (aaC k xs).flatten (aaC k us).flatten
 |0=>.nil
 |k+1=>by
  rw[aa6,aa6,abU,abU]
  exact tO.append h (tO.rep h k)
theorem pO(l:List α):l.eraseIdx (l.length - 1)=l.dropLast:=by
 induction l with
 |nil=>rfl
 |cons a r ih=>
  cases r with
  |nil=>rfl
  |cons b r=>
   have e:(a::b::r).length - 1=((b::r).length - 1)+1:=by
    have h1:(a::b::r).length=r.length+2:=rfl
    have h2:(b::r).length=r.length+1:=rfl
    omega
   rw[e,List.eraseIdx_cons_succ,ih]
   all_goals rfl
theorem kZ:∀(l:List α) (i:Nat),(l.eraseIdx i).length<=l.length
 |[],_=>aam _
 |_::_,0=>ae5 _
 |_::r,i+1=>Nat.succ_le_succ (kZ r i)
theorem lp(gE:List Value):∀(k:Nat) (acc:List Value),
  List.foldl (λx1 x2=>x1++x2) acc.toArray (aaC k gE.toArray)=(acc++(aaC k gE).flatten).toArray
 |0,acc=>by simp
 |k+1,acc=>by
  have e:acc.toArray++gE.toArray=(acc++gE).toArray:=by simp
  have e2:(acc++gE)++(aaC k gE).flatten=acc++(aaC (k+1) gE).flatten:=by
   rw[aa6,abU,aez]
  rw[<- e2,<- lp gE k (acc++gE),<- e,aa6,acJ]
variable{l b:Addr}{ys zs:List V}
variable{t':Nat}
theorem Inv.JA{its':List Value}{f:Array Value->Array Value}(I:Inv X pins σ H s)(hH:H l=some (.lst xs))
  (e:s.heap.get? l=some {cls:=.type "list",data:=.seq gE.toArray n}) (hf:f gE.toArray=its'.toArray) (hv:tO ys its') (hz:ys.length<=sizeLine) :
  Inv X pins σ (upd H l (.lst ys)) {s with heap:=s.heap.update l (aa1 f),toks:=t'}:=by
 have q:=PySem.IsL.update e f
 rw[hf]at q
 refine I.write (x:=l) (e:=l) (by rw[hH];exact trivial) (.inl rfl) (λb' u hb hu=>(Heap.get?_update_other s.heap (aa1 f) (abO hb)).trans hu) ⟨_,q⟩ ?_
 exact⟨hz,its',_,hv,q⟩
theorem Inv.Mb(I:Inv X pins σ H s)(hv:tO ys gE)(hz:ys.length<=sizeLine):
  Inv X pins σ (upd H s.heap.objs.size (.lst ys)) {s with heap:=s.heap.push {cls:=.type "list",data:=.seq gE.toArray},toks:=t'} :=
 I.laid (λ_ _ q=>aad _ q) (aam _) ⟨hz,gE,0,hv,aal _ rfl⟩
theorem Inv.fresh(I:Inv X pins σ H s):H s.heap.objs.size=none:=I.ye.fresh (aam _)
theorem Inv.Ff(I:Inv X pins σ H s)(hH:H l=some (.lst xs)):xs.length<=sizeLine/\∃(gE:List Value) (n:Nat),tO xs gE/\xs.length=gE.length/\s.heap.get? l=some {cls:=.type "list",data:=.seq gE.toArray n}:=by
 obtain⟨z,gE,n,r,e⟩:=I.ye l _ hH
 exact⟨z,gE,n,r,r.length,e⟩
theorem sL(h:n<=sizeLine):adu n=false:=by
 unfold adu
 exact decide_eq_false (by omega)
def nU:V->List V->Hp->VK->Prop:=λx vs H Q=>∃l xs y,x=.ref l/\vs=[y]/\H l=some (.lst xs)/\xs.length<sizeLine/\Q .lT (upd H l (.lst (xs++[y])))
theorem bj:Qx X "list.append" nU:=by
 intro pins s σ H x vs v us Q I rx rv h
 obtain⟨l,xs,y,rfl,rfl,hH,hz,q⟩:=h
 cases rx
 obtain⟨u,rfl,ru⟩:=rv.one
 obtain⟨z,gE,n,r,hl,e⟩:=I.Ff hH
 refine ad2 F.slot_list_append ⟨_,e,rfl⟩ F.entry_list_append (F.args_list_append_2 _ _) (PySem.list_append l gE.toArray n u (by rw[aaf];omega)) ⟨e,?_⟩
 refine⟨.lT,_,I.JA (its':=gE++[u]) hH e (by simp) (r.append (.cons ru .nil)) ?_,rfl,q⟩
 rw[aaQ,List.length_singleton]
 omega
def LB:V->List V->Hp->VK->Prop:=λx vs H Q=>∃l xs y,x=.ref l/\vs=[]/\H l=some (.lst xs)/\xs[xs.length - 1]?=some y/\Q y (upd H l (.lst xs.dropLast))
theorem wN:Qx X "list.pop" LB:=by
 intro pins s σ H x vs v us Q I rx rv h
 obtain⟨l,xs,y,rfl,rfl,hH,hy,q⟩:=h
 cases rx
 have Sw:=rv.zero
 subst Sw
 obtain⟨z,gE,n,r,hl,e⟩:=I.Ff hH
 obtain⟨u,hu,ru⟩:=r.get hy
 have NH:gE.toArray[gE.toArray.size - 1]?=some u:=by
  show gE.toArray[gE.length - 1]?=some u
  rw[<- ad1,<- hl]
  exact hu
 refine ad2 F.slot_list_pop ⟨_,e,rfl⟩ F.entry_list_pop (F.args_list_pop_1 _) (MeetsSeq.list_pop_last l gE.toArray n u NH (by rw[aaf];omega)) ⟨e,?_⟩
 refine⟨y,_,I.JA (its':=gE.dropLast) hH e ?_ r.dropLast ?_,ru,q⟩
 .show gE.toArray.eraseIdxIfInBounds (gE.toArray.size - 1)=gE.dropLast.toArray
  rw[aaf,aey,pO]
 .rw[List.length_dropLast]
  omega
def Js:V->List V->Hp->VK->Prop:=λx vs H Q=>∃l xs i k y,x=.ref l/\vs=[.int i]/\H l=some (.lst xs) /\ -(2 ^ 63)<=i/\i<2 ^ 63/\seqIndex? i xs.length=some k/\xs[k]?=some y/\Q y (upd H l (.lst (xs.eraseIdx k)))
theorem sO:Qx X "list.pop" Js:=by
 intro pins s σ H x vs v us Q I rx rv h
 obtain⟨l,xs,i,k,y,rfl,rfl,hH,h1,h2,hk,hy,q⟩:=h
 cases rx
 obtain⟨u,rfl,ru⟩:=rv.one
 obtain⟨t,rfl⟩:=ru
 obtain⟨z,gE,n,r,hl,e⟩:=I.Ff hH
 obtain⟨w,hw,BA⟩:=r.get hy
 refine ad2 F.slot_list_pop ⟨_,e,rfl⟩ F.entry_list_pop (F.args_list_pop_2 _ _)
  (MeetsSeq.list_pop_at l gE.toArray n i t k w (fitsIndex_both h1 h2) (by rw[aaf,<- hl];exact hk) (by rw[<- ad1];exact hw) (by rw[aaf];omega)) ⟨e,?_⟩
 refine⟨y,_,I.JA (its':=gE.eraseIdx k) hH e ?_ (r.eraseIdx k) ?_,BA,q⟩
 .show gE.toArray.eraseIdxIfInBounds k=(gE.eraseIdx k).toArray
  rw[aey]
 .have:=kZ xs k
  omega
def LN:R2:=λx y H Q=>∃l b xs zs,x=.ref l/\y=.ref b/\H l=some (.lst xs)/\H b=some (.lst zs)/\xs.length+zs.length<=sizeLine/\∀p,H p=none->Q (.ref p) (upd H p (.lst (xs++zs)))
theorem wJ:zf X (aci .Add) LN:=by
 intro pins s σ H x y v u Q I rx ry h
 obtain⟨l,b,xs,zs,rfl,rfl,hH,hB,hz,q⟩:=h
 cases rx
 cases ry
 obtain⟨z,gE,n,r,hl,e⟩:=I.Ff hH
 obtain⟨z2,zm,n2,r2,Fj,e2⟩:=I.Ff hB
 refine PySem.P.add_list e e2 ?_ (by rw[aaf,aaf];omega)
 have ea:gE.toArray++zm.toArray=(gE++zm).toArray:=by simp
 rw[ea]
 exact⟨.ref _,_,I.Mb (t':=s.toks) (r.append r2) (by rw[aaQ];omega),rfl,q _ I.fresh⟩
def LA:R2:=λx y H Q=>∃l k xs,x=.ref l/\y=.int k/\H l=some (.lst xs) /\ -(2 ^ 63)<=k/\k<2 ^ 63/\xs.length*k.toNat<=sizeLine /\
 ∀p,H p=none->Q (.ref p) (upd H p (.lst (aaC k.toNat xs).flatten))
theorem u6(xs:List α)(k:Nat):(aaC k xs).flatten.length=k*xs.length:=by
 induction k with
 |zero=>simp
 |succ k ih=>rw[aa6,abU,aaQ,ih,Nat.succ_mul,aeH]
theorem wF:zf X (aci .Mult) LA:=by
 intro pins s σ H x y v u Q I rx ry h
 obtain⟨l,k,xs,rfl,rfl,hH,h1,h2,hz,q⟩:=h
 cases rx
 obtain⟨t,rfl⟩:=ry
 obtain⟨z,gE,n,r,hl,e⟩:=I.Ff hH
 have hlen:gE.toArray.size*k.toNat<=sizeLine:=by rw[aaf,<- hl];exact hz
 have yT:¬ gE.toArray.size*k.toNat > (2 ^ 63 - 1) / 8:=by
  have:(sizeLine:Nat)<=(2 ^ 63 - 1) / 8:=by decide
  omega
 have PL:¬ (!Builtin.List.listFitsIndex k)=true:=by
  rw[fitsIndex_both h1 h2]
  exact aaB
 have MC:¬ adu (gE.toArray.size*k.toNat)=true:=by
  rw[sL hlen]
  exact aaB
 have Cb:List.foldl (λx1 x2=>x1++x2) #[] (aaC (if gE.toArray.isEmpty=true then 0 else k.toNat) gE.toArray)=(aaC k.toNat gE).flatten.toArray:=by
  have f0:∀m:Nat,List.foldl (λx1 x2=>x1++x2) #[] (aaC m gE.toArray)=(aaC m gE).flatten.toArray:=λm=>by
   have:=lp gE m []
   rw[acb]at this
   exact this
  rw[f0]
  cases gE with
  |nil=>simp
  |cons a r'=>rw[if_neg (by simp)]
 refine wpAny_binaryOp_repeat_ref (T := "list") (U := "int") (by decide) ⟨_,e,rfl⟩ (λs'=>typeIs_int s' k t) noFill_list_mul F.fills_int_mul F.slot_int_rmul repeat_list F.slot_int_index.lookup
  (ad2 F.slot_int_rmul (typeIs_int s k t) F.entry_int_rmul (F.args_int_rmul_2 _ _) (int___rmul___int_list k t l gE.toArray n)
   ⟨e,rfl,⟨_,e,rfl⟩,ad2 F.slot_list_mul ⟨_,e,rfl⟩ F.entry_list_mul (F.args_list_mul_2 _ _) (AutoListH.list___mul___list_int_3 l gE.toArray n k t PL yT MC) ⟨e,?_⟩⟩)
 rw[Cb]
 exact⟨.ref _,_,I.Mb (t':=s.toks) (r.rep k.toNat) (by rw[u6,Nat.mul_comm];exact hz),rfl,q _ I.fresh⟩
variable{prog:aaE}{w:World}{A:Around}{E:Value->Shared->Prop}
end L2
namespace Att
open PySem PySem.W PySem.Calls PyProof.Rows
theorem jr{P:Params}{h:Heap}:∀(ns:List Int) (vs:List Value),WellAll P h vs (ns.map WData.int)->IntsAre vs ns:=by
 intro ns
 induction ns with
 |nil=>
  intro vs w
  rw[adT]at w
  cases w
  exact .nil
 |cons n ns ih=>
  intro vs w
  rw[aau]at w
  cases w with
  |cons a b=>
   cases a
   exact .cons _ _ (ih _ b)
theorem qk{l:OpenLaw}{n:Nat}(hn:l.most=some n){P:Params}{h:Heap}{args:List WData}{vals:List Value}
  (HC:l.row.toRowW.claim.pre args=true) (Pb:WellAll P h vals args) :
  ∃a vs ns,vals=[aas a]/\args=[WData.list (ns.map WData.int)]/\h.get? a=some {cls:=.type "list",data:=.seq vs.toArray}/\IntsAre vs ns/\ns.length<=n:=by
 have Sy:WShape.hasAll [] args [.list .int]=true:=(pre_splitW HC).1
 have hc:l.pre.holds [] {args:=args}=true:=(pre_splitW HC).2
 obtain⟨d,r,rfl,h1,h2⟩:=hasAllW_cons Sy
 obtain rfl:=hasAllW_nil h2
 obtain⟨xs,rfl,h3⟩:=hasW_list h1
 obtain⟨ns,rfl⟩:=items_int h3
 have hlen:ns.length<=n:=by
  unfold OpenLaw.pre at hc
  have h4:(WTm.not (.lt (.lit (.int (n:Int))) (.len (.arg 0)))).holds [] {args:=[.list (ns.map .int)]}=true:=by
   have h4:=(holds_andW hc).1
   rw[hn]at h4
   exact h4
  have h5:=condW_of h4 (w_not (w_lt w_lit (w_len_list (w_arg rfl))))
  rw[aae]at h5
  refine Nat.le_of_not_lt λq=>?_
  have q':(n:Int)<((ns.length:Nat):Int):=by omega
  first
   |(rw[decide_eq_true q']at h5;exact absurd h5 (by decide))
   |(simp at h5;omega)
 cases Pb with
 |cons w1 w2=>
  cases w2
  cases w1 with
  |list ho JZ=>exact⟨_,_,ns,rfl,rfl,ho,jr ns _ JZ,hlen⟩
theorem qr(l:OpenLaw)(args:List WData):l.row.toRowW.claim.post args (.bool true) args=true :=
 postW_of (r:=l.row.toRowW) (X:=(true==true))
  (show WShape.has [] (.bool true) .bool=true by first|rfl|decide|simp[WShape.has,WShape.arms,WShape.armsAll])
  (show (WTm.eq .res (.lit (.bool true))).value [] {args:=args,res:=some (.bool true),after:=args}=some (.bool (true==true))from w_eq_bool (w_res rfl) w_lit) rfl
theorem DI{l:OpenLaw}{n:Nat}{q:aaE}{loose:List Str}{XP:(Str->Option Value)->Heap->Prop}{YP:World->Heap->Prop}{d:DefRec}
  (hn:l.most=some n) (ME:d.params.defaults=[])
  (call:∀(w:World) (s₀ s₁:Shared) (mg mb:Str->Option Value) (fa:Addr) (o:Obj) (pm cd doc:Value) (a:Addr) (vs:List Value) (ns:List Int),
   Ground q loose [] XP w s₀ mg mb s₁.heap->YP w s₁.heap ->
   s₁.heap.get? fa=some o->o.data=.func (docDef d.name d.params d.body d.scope pm cd doc)->s₁.heap.CodeRec cd d.name->mg d.name=some (.ref fa) ->
   s₁.heap.get? a=some {cls:=.type "list",data:=.seq vs.toArray}->IntsAre vs ns->ns.length<=n->s₁.gens=#[] ->
   aec (model l.prog w) aeY (.call (.ref fa) ⟨[.ref a],[]⟩) (λr s'=>r=.ok (.ret (.bool true))/\OldK s₁.heap s'.heap/\s'.os=s₁.os/\aeg s'.gens) s₁) :
  WalkO q loose XP YP l.row.toRowW d [] (λf vs=>PySem.call f vs):=by
 intro w s₀ s₁ mg mb G Y fa o pm cd doc dV kV ho hd Cd hD hmg hg args vals as HC SS UJ Pb UN
 obtain rfl:dV=.none:=Dflts.none hD ME
 obtain rfl:kV=.none:=Dflts.noKw hD
 obtain⟨a,vs,ns,rfl,rfl,JJ,hints,hlen⟩:=qk hn HC Pb
 refine enter_call (aeF (call w s₀ s₁ mg mb fa o pm cd doc a vs ns G Y ho (fd_plain hd) Cd hmg JJ hints hlen hg) λr s' hq=>?_)
 obtain⟨rfl,h2,h3,h4⟩:=hq
 exact⟨.inl ⟨.bool true,.bool true,[],rfl,λ_=>rfl,.bool true,qr l _,λ_=>⟨aeA,λ_ hm=>(nomatch hm)⟩⟩,h2,h3,h4⟩
variable{prog:aaE}{w:World}{A:Around}{E:Value->Shared->Prop}{s:Shared}{K:Frag}
end Att
namespace L2
open PySem PySem.Spec PyProof.Rows
theorem kN:∀{vs:List Value} {ns:List Int},IntsAre vs ns->tO (ns.map V.int) vs
 |_,_,.nil=>.nil
 |_,_,.cons n t h=>.cons ⟨t,rfl⟩ (kN h)
end L2

namespace L2
open PySem PySem.Spec PyProof.Rows
def cY(s:Stmt):Arguments:=match s with
 |.FunctionDef _ a _ _ _ _ _ _ _ _=>a
 |_=>{posonlyargs:=[],args:=[],vararg:=none,kwonlyargs:=[],kw_defaults:=[],kwarg:=none,defaults:=[]}
def bc(s:Stmt):List Stmt:=match s with
 |.FunctionDef _ _ b _ _ _ _ _ _ _=>b
 |_=>[]
def aq(s:Stmt):Scope:=match s with
 |.FunctionDef _ _ _ _ _ _ sc _ _ _=>sc
 |_=>{kind:=.function,names:=[],isGenerator:=false,isCoroutine:=false}
abbrev yQ:Lg:=λ_ _ _ _ _ _=>False
abbrev E0:XK:=λ_ _ _=>False
variable{X:Cx}
theorem CC:EA yQ X E0:=λ_ _ _ _ _ _ _ h=>h.elim
structure EC(K:aag)(x qual:Str)(st:Stmt)(f:Addr)(fd:abz):Prop where
 ex:∃(oc:Value) (od:Option Addr) (kV doc pm:Value) (an:Option Addr) (yx ct:Value) (Hv:Array (Option Value)),
  fd=acE x qual (cY st) (bc st) (aq st) .none kV doc pm an yx ct/\K.lookup f=some ⟨oc,od,.func fd,Hv⟩/\ad7 K yx qual=true
 kp:abw K (.ref f)=true
variable{P:aaE}{w:World}{K:aag}{mg:Str->Option Value}{base:Heap}
variable{x qual:Str}{st:Stmt}{f:Addr}{fd:abz}{N ps:List Str}{k:Nat}{sp:Sp}
theorem EC.ok(F:EC K x qual st f fd)(S:az N ps (aq st))(len:∀vs H Q E,sp vs H Q E->vs.length=ps.length)
  (DA:∀(yx:Value) (A:Around) (outer:List Env) (s:Shared) (H:Hp) (vs:List V) (Q:VK) (E:XK),yj k (A.deeper (envOfC qual (aq st) s.heap.objs.size f yx))->sp vs H Q E ->
   ∃t,EB (BM yQ P w K mg base N qual (aq st) f yx A outer s H E).Gk (bc st) t/\t {nx:=λ_ H'=>Q .lT H',rt:=Q} (start N vs) H):yd P w K mg base yQ (k+1) f fd ps sp:=by
 obtain⟨oc,od,kV,doc,pm,an,yx,ct,Hv,rfl,lk,Cd⟩:=F.ex
 refine t7 lk Cd S len λA outer s H vs Q E hr Hb=>?_
 obtain⟨t,h,q⟩:=DA yx A outer s H vs Q E hr Hb
 exact⟨t,h.Gk,q⟩
theorem EC.binds(F:EC K x qual st f fd)
  (h:∀(kV doc pm:Value) (an:Option Addr) (yx ct:Value) (us:List Value),us.length=ps.length->acP (acE x qual (cY st) (bc st) (aq st) .none kV doc pm an yx ct) ⟨us,[]⟩=pure (ps.zip us)):Binds K fd ps []:=by
 obtain⟨oc,od,kV,doc,pm,an,yx,ct,Hv,rfl,lk,Cd⟩:=F.ex
 exact .all (h kV doc pm an yx ct)
variable{pm:Value}
theorem rn{oc:Value}{od an:Option Addr}{Hv:Array (Option Value)}{kV doc yx ct:Value}(l:K.lookup f=some ⟨oc,od,.func (acE x qual (cY st) (bc st) (aq st) .none kV doc pm an yx ct),Hv⟩)
  (c:ad7 K yx qual=true) (k:abw K (.ref f)=true):EC K x qual st f (acE x qual (cY st) (bc st) (aq st) .none kV doc pm an yx ct):=⟨⟨oc,od,kV,doc,pm,an,yx,ct,Hv,rfl,l,c⟩,k⟩
variable{pos:Pos}
theorem pv(i:Nat)(hN:X.N[i]?=some x:=by rfl)(hv:Dj X.env.scope x:=by first|exact Or.inl rfl|exact Or.inr (Or.inl rfl)|exact Or.inr (Or.inr rfl))(hd:(x==("__debug__" : Str))=false:=by decide)
  (Cd:(x==("__classdict__" : Str))=false:=by decide):PE X (.Name x pos) (yK i):=wt hN hv hd Cd
variable{A B:Prop}
theorem B9(h:B):if false=true then A else B:=by
 rw[if_neg aaB]
 exact h
theorem Ct(h:A):if true=true then A else B:=by
 rw[if_pos rfl]
 exact h
theorem Mj{c:Prop}[Decidable c](h1:c->A)(h2:¬ c->B):if c then A else B:=by
 by_cases h:c
 .rw[if_pos h]
  exact h1 h
 .rw[if_neg h]
  exact h2 h
def dO(H H':Hp):Prop:=∀b o,H b=some o->H' b=some o
theorem dO.refl(H:Hp):dO H H:=λ_ _ h=>h
variable{H H':Hp}{l:Addr}
theorem dO.free(e:dO H H')(h:H' l=Option.none):H l=Option.none:=by
 cases q:H l with
 |none=>rfl
 |some o=>
  rw[e l o q]at h
  cases h
variable{a:Addr}{xs:List V}
theorem dO.seq(e:dO H H')(h:zp K H a xs):zp K H' a xs:=by
 rcases h with (h|⟨o,h⟩)|h
 .exact .inl (.inl (e _ _ h))
 .exact .inl (.inr ⟨o,e _ _ h⟩)
 .exact .inr h
section
variable{κ:Type}[DecidableEq κ]
def zG(kvs:List (κ×V))(k:κ):Option V:=(kvs.find? λkv=>decide (kv.1=k)).map (·.2)
def putK(kvs:List (κ×V))(k:κ)(v:V):List (κ×V) :=
 if (kvs.any λkv=>decide (kv.1=k))=true then kvs.map (λkv=>if kv.1=k then (kv.1,v)else kv)else kvs++[(k,v)]
theorem e7{p:κ×V}{r:List (κ×V)}{k:κ}(e:p.1=k):zG (p::r) k=some p.2:=by simp[zG,abG,e]
theorem e8{p:κ×V}{r:List (κ×V)}{k:κ}(e:¬ p.1=k):zG (p::r) k=zG r k:=by simp[zG,abG,e]
theorem lK(k:κ):∀kvs:List (κ×V),(kvs.any λkv=>decide (kv.1=k))=(zG kvs k).isSome
 |[]=>rfl
 |p::r=>by
  rw[List.any_cons]
  by_cases e:p.1=k
  .simp only[e7 e,decide_eq_true e,Bool.true_or,aem]
  .rw[e8 e,decide_eq_false e,Bool.false_or];exact lK k r
theorem cy(kvs:List (κ×V))(k:κ)(v:V):(putK kvs k v).length<=kvs.length+1:=by
 unfold putK
 split
 .rw[aae];omega
 .rw[aaQ,aaR,acd];omega
theorem BN.Ab{o:Option V}{u:Option Value}(r:BN o u):o.isSome=u.isSome:=by
 cases o with
 |none=>cases u with
  |none=>rfl
  |some _=>exact(show False from r).elim
 |some _=>cases u with
  |none=>exact(show False from r).elim
  |some _=>rfl
theorem KV.val{kvs:List (κ×V)}{vs:List (κ×Value)}(r:KV kvs vs)(k:κ):BN (zG kvs k) (aeq vs k):=by
 unfold KV at r
 induction r with
 |nil=>exact acn
 |@cons p q ps qs h t ih=>
  obtain⟨h1,h2⟩:=h
  by_cases e:p.1=k
  .have e':q.1=k:=h1.symm.trans e
   have b:aeq (q::qs) k=some q.2:=by simp[aeq,abG,e']
   rw[e7 e,b];exact h2
  .have e':¬ q.1=k:=λz=>e (h1.trans z)
   have b:aeq (q::qs) k=aeq qs k:=by simp[aeq,abG,e']
   rw[e8 e,b];exact ih
theorem KV.any{kvs:List (κ×V)}{vs:List (κ×Value)}(r:KV kvs vs)(k:κ):(kvs.any λkv=>decide (kv.1=k))=vs.any λkv=>decide (kv.1=k):=by
 unfold KV at r
 induction r with
 |nil=>rfl
 |cons h t ih=>rw[List.any_cons,List.any_cons,ih,h.1]
theorem KV.Jm{kvs:List (κ×V)}{vs:List (κ×Value)}(r:KV kvs vs)(k:κ){y:V}{u:Value}(ry:RelV y u):
  KV (kvs.map λkv=>if kv.1=k then (kv.1,y)else kv) (vs.map λkv=>if kv.1=k then (kv.1,u)else kv):=by
 unfold KV at r ⊢
 induction r with
 |nil=>exact .nil
 |@cons p q ps qs h t ih=>
  rw[aau,aau]
  refine .cons ?_ ih
  obtain⟨h1,h2⟩:=h
  by_cases e:p.1=k
  .rw[if_pos e,if_pos (h1.symm.trans e)];exact⟨h1,ry⟩
  .rw[if_neg e,if_neg (λz=>e (h1.trans z))];exact⟨h1,h2⟩
theorem KV.put{kvs:List (κ×V)}{vs:List (κ×Value)}(r:KV kvs vs)(k:κ){y:V}{u:Value}(ry:RelV y u):KV (putK kvs k y) (stored vs k u):=by
 unfold putK stored
 rw[r.any k]
 by_cases e:(vs.any λkv=>decide (kv.1=k))=true
 .rw[if_pos e,if_pos e];exact r.Jm k ry
 .rw[if_neg e,if_neg e];exact Paired.snoc r ⟨rfl,ry⟩
theorem KV.keys{kvs:List (κ×V)}{vs:List (κ×Value)}(r:KV kvs vs):kvs.map (·.1)=vs.map (·.1):=by
 unfold KV at r
 induction r with
 |nil=>rfl
 |cons h t ih=>rw[aau,aau,ih,h.1]
theorem KV.length{kvs:List (κ×V)}{vs:List (κ×Value)}(r:KV kvs vs):kvs.length=vs.length:=ael r
end
variable{u:Value}
theorem dF{k:Key}(r:RelV (kV k) u):(aF P w).is k u=true:=by
 cases k with
 |inl i=>obtain⟨t,e⟩:=(show ∃t,u=adm i t from r);subst e;exact nB P w i t
 |inr x=>obtain⟨t,e⟩:=(show ∃t,u=adk x t from r);subst e;exact ij P w x t
theorem lf:∀{ks:List Key} {us:List Value},tO (ks.map kV) us->ItemsAre (aF P w) ks us
 |[],_,r=>by rw[adT]at r;cases r;exact .nil
 |k::ks,_,r=>by
  rw[aau]at r
  cases r with
  |cons h t=>exact .cons (dF h) (lf t)
abbrev KT(H:Hp):List (List Key×V)->List (List Key×Addr×Value)->Prop:=Paired λp q=>p.1=q.1/\H q.2.1=some (.tup (p.1.map kV))/\RelV p.2 q.2.2
variable{kvs:List (List Key×V)}
theorem KT.val{xs:List (List Key×Addr×Value)}(r:KT H kvs xs)(k:List Key):BN (zG kvs k) ((atKey xs k).map (·.2)):=by
 induction r with
 |nil=>exact acn
 |@cons p q ps qs h t ih=>
  obtain⟨h1,_,h2⟩:=h
  by_cases e:p.1=k
  .have e':q.1=k:=h1.symm.trans e
   have b:atKey (q::qs) k=some q.2:=by simp[atKey,abG,e']
   rw[e7 e,b];exact h2
  .have e':¬ q.1=k:=λz=>e (h1.trans z)
   have b:atKey (q::qs) k=atKey qs k:=by simp[atKey,abG,e']
   rw[e8 e,b];exact ih
variable{y:V}
theorem KT.Jm{xs:List (List Key×Addr×Value)}(r:KT H kvs xs)(k:List Key)(ry:RelV y u):
  KT H (kvs.map λkv=>if kv.1=k then (kv.1,y)else kv) (xs.map (putAt k u)):=by
 induction r with
 |nil=>exact .nil
 |@cons p q ps qs h t ih=>
  rw[aau,aau]
  refine .cons ?_ ih
  obtain⟨h1,h2,h3⟩:=h
  unfold putAt
  by_cases e:p.1=k
  .rw[if_pos e,if_pos (h1.symm.trans e)];exact⟨h1,h2,ry⟩
  .rw[if_neg e,if_neg (λz=>e (h1.trans z))];exact⟨h1,h2,h3⟩
variable{b:Addr}
theorem KT.put{xs:List (List Key×Addr×Value)}(r:KT H kvs xs)(k:List Key)(hb:H b=some (.tup (k.map kV)))(ry:RelV y u):
  KT H (putK kvs k y) (storedH xs k b u):=by
 have e:(kvs.any λkv=>decide (kv.1=k))=(atKey xs k).isSome:=by
  rw[lK,(r.val k).Ab,aev]
 unfold putK storedH
 rw[e]
 by_cases q:(atKey xs k).isSome=true
 .rw[if_pos q,if_pos q];exact r.Jm k ry
 .rw[if_neg q,if_neg q];exact Paired.snoc r ⟨rfl,hb,ry⟩
theorem KT.keeps{xs:List (List Key×Addr×Value)}(r:KT H kvs xs)(ht:∀b ys,H b=some (.tup ys)->H' b=some (.tup ys)):KT H' kvs xs :=
 Paired.Jy r λ_ _ z=>⟨z.1,ht _ _ z.2.1,z.2.2⟩
variable{h:Heap}
theorem tV{u:HO}(ok:AA P w H h)(e:Rd H a u):yk P w H h a u:=e.ok ok
theorem fE{kvs:List (Key×V)}(ok:AA P w H h)(e:Rd H a (.dK kvs)):kvs.length<=sizeLine/\(a==acu)=false/\∃vs,KV kvs vs/\h.DictOf (aF P w) a vs :=
 show yk P w H h a (.dK kvs)from tV ok e
theorem jD{kvs:List (Key×V)}(ok:AA P w H h)(e:H a=some (.dK kvs)):kvs.length<=sizeLine/\(a==acu)=false/\∃vs,KV kvs vs/\h.DictOf (aF P w) a vs:=fE ok (.inl e)
theorem gn{ks:List Key}(ok:AA P w H h)(e:H a=some (.tup (ks.map kV))):(aeU (aF P w)).is h ks a:=by
 obtain⟨_,gE,r,o,h1,h2,n,h3⟩:=(show yk P w H h a (.tup (ks.map kV))from ok a _ e)
 exact⟨o,gE.toArray,n,h1,h2,h3,by simpa using lf r⟩
theorem gW(ok:AA P w H h)(e:Rd H a (.dT kvs)):kvs.length<=sizeLine/\(a==acu)=false /\
  ∃xs,KT H kvs xs/\h.DictOfH (aeU (aF P w)) a xs:=by
 obtain⟨z,y,xs,r,o,es,ep,h1,h2,h3,h4,h5⟩:=(show yk P w H h a (.dT kvs)from tV ok e)
 refine⟨z,y,xs,r,o,es,ep,h1,h2,h3,h4,λx hx=>?_,h5⟩
 have all:∀{l:List (List Key×V)} {m:List (List Key×Addr×Value)},KT H l m->∀x∈m,(aeU (aF P w)).is h x.1 x.2.1:=by
  intro l m q
  induction q with
  |nil=>intro x hx;exact nomatch hx
  |@cons p q ps qs hq t ih=>
   intro x hx
   rcases List.mem_cons.mp hx with e|hx
   .subst e
    exact gn ok (by rw[<- hq.1];exact hq.2.1)
   .exact ih x hx
 exact all r x hx
theorem xW(ok:AA P w H h)(e:H a=some (.dT kvs)):kvs.length<=sizeLine/\(a==acu)=false /\
  ∃xs,KT H kvs xs/\h.DictOfH (aeU (aF P w)) a xs:=gW ok (.inl e)
def DS(H:Hp)(a:Addr)(y:V)(r:Option V):Prop :=
 (∃kvs k,Rd H a (.dK kvs)/\y=kV k/\r=zG kvs k)\/∃kvs k b,Rd H a (.dT kvs)/\y=.ref b/\H b=some (.tup (k.map kV))/\r=zG kvs k
def Kt(H:Hp)(a:Addr)(y v:V)(H':Hp):Prop :=
 (∃kvs k,H a=some (.dK kvs)/\y=kV k/\kvs.length<sizeLine/\H'=upd H a (.dK (putK kvs k v))) \/
 ∃kvs k b,H a=some (.dT kvs)/\y=.ref b/\H b=some (.tup (k.map kV))/\kvs.length<sizeLine/\H'=upd H a (.dT (putK kvs k v))
theorem O4{kvs:List (Key×V)}{k:Key}(e:H a=some (.dK kvs)):DS H a (kV k) (zG kvs k):=.inl ⟨kvs,k,.inl e,rfl,rfl⟩
variable{v:V}
theorem Sk{kvs:List (Key×V)}{k:Key}(e:H a=some (.dK kvs))(hl:kvs.length<sizeLine):Kt H a (kV k) v (upd H a (.dK (putK kvs k v))):=.inl ⟨kvs,k,e,rfl,hl,rfl⟩
variable{pins:List (Addr×Obj)}{σ:St}{s:Shared}{r:Value}{o:Option V}{A:Around}{E:Value->Shared->Prop}
theorem Inv.Qs(I:Inv X pins σ H s):acu<s.heap.objs.size:=by
 have h:aaJ<s.heap.objs.size:=(I.mod.glob.keeps I.bk).lt
 exact Nat.lt_trans (by decide) h
variable{Q:Value->Shared->Prop}
theorem lw(hu:A.units+1<cLine)(I:Inv X pins σ H s)(g:DS H a y (some v))(ry:RelV y u)(h:∀w' s',Inv X pins σ H s'->RelV v w'->Q w' s'):
  wpAny (model X.prog X.w) A (adP (.ref a) u) Q E s:=by
 rcases g with ⟨kvs,k,e,ey,l⟩|⟨kvs,k,b,e,ey,eb,l⟩
 .subst ey
  obtain⟨z,hd,vs,rel,dd⟩:=fE I.ye e
  obtain⟨w',hw,BA⟩:=BN.some_of (v:=v) (o:=aeq vs k) (by rw[l];exact rel.val k)
  exact wpAny_getItem_of (dF ry) dd.mapOf hw (h w' _ (I.tok _) BA)
 .subst ey
  cases (show u=aas b from ry)
  obtain⟨z,hd,xs,rel,dd⟩:=gW I.ye e
  obtain⟨w',hw,BA⟩:=BN.some_of (v:=v) (o:=(atKey xs k).map (·.2)) (by rw[l];exact rel.val k)
  obtain⟨p,hp,KO⟩:=Option.map_eq_some_iff.mp hw
  refine wpAny_getItem_heap (ac7 hu) (gn I.ye eb) dd hp ?_
  rw[KO]
  exact h w' _ (I.tok _) BA
theorem xZ(hu:A.units+1<cLine)(I:Inv X pins σ H s)(g:DS H a y o)(ry:RelV y u)(h:∀s',Inv X pins σ H s'->Q (.bool o.isSome) s'):
  wpAny (model X.prog X.w) A (aa9 .In u (.ref a)) Q E s:=by
 rcases g with ⟨kvs,k,e,ey,l⟩|⟨kvs,k,b,e,ey,eb,l⟩
 .subst ey
  obtain⟨z,hd,vs,rel,dd⟩:=fE I.ye e
  refine wpAny_in_of (dF ry) hd dd.mapOf ?_
  rw[<- (rel.val k).Ab,<- l]
  exact h _ (I.tok _)
 .subst ey
  cases (show u=aas b from ry)
  obtain⟨z,hd,xs,rel,dd⟩:=gW I.ye e
  refine wpAny_in_heap (ac7 hu) (gn I.ye eb) hd dd ?_
  have q:=(rel.val k).Ab
  rw[aev]at q
  rw[<- q,<- l]
  exact h _ (I.tok _)
theorem vH(hu:A.units+1<cLine)(I:Inv X pins σ H s)(g:DS H a y o)(ry:RelV y u)(h:∀s',Inv X pins σ H s'->Q (.bool (!o.isSome)) s'):
  wpAny (model X.prog X.w) A (aa9 .NotIn u (.ref a)) Q E s:=by
 rcases g with ⟨kvs,k,e,ey,l⟩|⟨kvs,k,b,e,ey,eb,l⟩
 .subst ey
  obtain⟨z,hd,vs,rel,dd⟩:=fE I.ye e
  refine wpAny_notIn_of (dF ry) hd dd.mapOf ?_
  rw[<- (rel.val k).Ab,<- l]
  exact h _ (I.tok _)
 .subst ey
  cases (show u=aas b from ry)
  obtain⟨z,hd,xs,rel,dd⟩:=gW I.ye e
  refine wpAny_notIn_heap (ac7 hu) (gn I.ye eb) hd dd ?_
  have q:=(rel.val k).Ab
  rw[aev]at q
  rw[<- q,<- l]
  exact h _ (I.tok _)
variable{h':Heap}{t':Nat}
theorem gX{ob:HO}(I:Inv X pins σ H s)(mu:M6 (H a))(hs:aeI a s.heap h')(he:∃q,h'.get? a=some q)(new:yk X.prog X.w (upd H a ob) h' a ob):
  Inv X pins σ (upd H a ob) {s with heap:=h',toks:=t'} :=
 I.write (x:=a) (e:=a) mu (.inl rfl) (λb q hb z=>(hs.2 b hb).trans z) he new
variable{vs:List (Key×Value)}
theorem mR{kvs:List (Key×V)}(z:kvs.length<=sizeLine)(hd:(a==acu)=false)(rel:KV kvs vs)(dd:h'.DictOf (aF P w) a vs):
  yk P w H' h' a (.dK kvs):=⟨z,hd,vs,rel,dd⟩
theorem rM{Q:Unit->Shared->Prop}(hu:A.units+1<cLine)(I:Inv X pins σ H s)(g:Kt H a y v H')(ry:RelV y u)(rv:RelV v r)(h:∀s',Inv X pins σ H' s'->Q () s'):
  wpAny (model X.prog X.w) A (setItem (.ref a) u r) Q E s:=by
 rcases g with ⟨kvs,k,e,ey,l,eH⟩|⟨kvs,k,b,e,ey,eb,l,eH⟩
 .subst ey eH
  obtain⟨z,hd,vs,rel,dd⟩:=jD I.ye e
  have hz:vs.length<=sizeLine:=by rw[<- rel.length];exact z
  have hl:(putK kvs k v).length<=sizeLine:=by have:=cy kvs k v;omega
  refine wpAny_setItem_pairs (hsz:=hz) (dF ry) dd λh' Hj hs=>h _ ?_
  have he:∃q,h'.get? a=some q:=let ⟨q,_,_,hq,_⟩:=Hj;⟨q,hq⟩
  exact gX I (by rw[e];exact acn) hs he (mR hl hd (rel.put k rv) Hj)
 .subst ey eH
  cases (show u=aas b from ry)
  obtain⟨z,hd,xs,rel,dd⟩:=xW I.ye e
  have hz:xs.length<=sizeLine:=by rw[<- ael rel];exact z
  have hl:(putK kvs k v).length<=sizeLine:=by have:=cy kvs k v;omega
  refine wpAny_setItem_heap (hsz:=hz) (ac7 hu) (gn I.ye eb) dd λh' Hj hs=>h _ ?_
  obtain⟨q,es,ep,hq,h2,h3,h4,_,h5⟩:=Hj
  refine gX I (by rw[e];exact acn) hs ⟨q,hq⟩ ⟨hl,hd,_,(rel.put k eb rv).keeps λc ys ec=>?_,q,es,ep,hq,h2,h3,h4,h5⟩
  rw[af (pD ec e (λz=>nomatch z))]
  exact ec
variable{kvs:List (Key×V)}{k:Key}
theorem xX(I:Inv X pins σ H s)(e:Rd H a (.dK kvs))(h:∀t s',Inv X pins σ H s'->Q (.int kvs.length t) s'):wpAny (model X.prog X.w) A (call (.builtin "len") [.ref a]) Q E s:=by
 obtain⟨z,hd,vs,rel,dd⟩:=fE I.ye e
 refine call_len_dict hd dd (by rw[<- rel.length];rw[aax]at z;omega) ?_
 rw[<- rel.length]
 exact h _ _ (I.tok _)
def HX(i:Expr):Prop:=∀ov iv,aeV i false ov iv=operate [ov,iv] (adP ov iv)
variable{env:Env}
theorem ui{prog:aaE}{value slice:Expr}{T id:String}
  (hl:typeLookup (.type T) "__getitem__" = pure (some (.builtin id))) (hs:HX slice)
  (h:wpAny (model prog w) A (eval value env) (λo s₁=>wpAny (model prog w) A (eval slice env) (λi s₂=>s₂.TypeIs o T/\wpAny (model prog w) A (adP o i) Q E s₂) E s₁) E s) :
  wpAny (model prog w) A (eval (.Subscript value slice pos) env) Q E s:=by
 refine Subscript_ (aaM h (λo s₁ h₁=>aaM h₁ (λi s₂ h₂=>?_) λ_ _ x=>x) λ_ _ x=>x)
 obtain⟨hT,h₂⟩:=h₂
 unfold subscriptTail
 refine aab ?_
 rw[getitemInPython_of_ne hT.not_modules]
 refine aab (wpAny_specialOf hT hl ?_)
 have fin:wpAny (model prog w) A (aeV slice false o i) (λr s₃=>wpAny (model prog w) A (letTemporaryGo value o r >>= λ_=>pure r) Q E s₃) E s₂:=by
  rw[hs o i]
  exact wpAny_operating (aaM h₂ (λr s₃ h₃=>aab (wpAny_letTemporaryGo (aaj h₃))) λ_ _ x=>x)
 first
  |exact aaj (aab fin)
  |exact aab (aaj (aab fin))
  |exact aab fin
theorem im(I:Inv X pins σ H s)(g:DS H a y o):s.TypeIs (.ref a) "dict" :=by
 rcases g with ⟨kvs,k,e,_,_⟩|⟨kvs,k,b,e,_,_,_⟩
 .obtain⟨_,_,vs,_,dd⟩:=fE I.ye e
  exact dd.typeIs
 .obtain⟨_,_,xs,_,dd⟩:=gW I.ye e
  exact dd.typeIs
def Lr(td ty:TE):TE:=λσ H Q=>td σ H λx H1=>ty σ H1 λy H2=>∃a v,x=.ref a/\DS H2 a y (some v)/\Q v H2
variable{o i e value:Expr}{pos' CQ:Pos}{td ty tv:TE}
theorem uC(hu:X.A.units+1<cLine)(ho:PE X o td)(hi:PE X i ty)(hs:HX i):PE X (.Subscript o i pos) (Lr td ty):=by
 intro pins s σ H Q I h
 refine ui PySem.F.slot_dict_getitem.lookup hs (yM (ho pins s σ H _ I h) λu s1 ⟨x,H1,I1,rx,q1⟩=>yM (hi pins s1 σ H1 _ I1 q1) λiv s2 ⟨y,H2,I2,ry,a,v,ex,g,q2⟩=>?_)
 subst ex
 obtain rfl:u=aas a:=rx
 exact⟨im I2 g,lw hu I2 g ry λw' s3 I3 BA=>⟨v,H2,I3,BA,q2⟩⟩
theorem mS(h:Heap)(hb:acu<h.objs.size):yk P w H (h.push {cls:=.type "dict",data:=.dict #[]}) h.objs.size (.dK []) :=
 ⟨aaU _,beq_eq_false_iff_ne.mpr (abO (aaw hb)),[],.nil,Heap.DictOf.new h⟩
def CS:List (TE×TE)->St->Hp->(List (V×V)->Hp->Prop)->Prop
 |[],_,H,Q=>Q [] H
 |(tk,tv)::r,σ,H,Q=>tk σ H λx H1=>tv σ H1 λy H2=>CS r σ H2 λps H3=>Q ((x,y)::ps) H3
abbrev VV:List (V×V)->List (Value×Value)->Prop:=Paired λp q=>RelV p.1 q.1/\RelV p.2 q.2
def M3(X:Cx)(pos:Pos)(keys:List (Option Expr))(values:List Expr)(EI:List (TE×TE)):Prop :=
 ∀(pins:List (Addr×Obj)) (s:Shared) (σ:St) (H:Hp) (Q:List (V×V)->Hp->Prop),Inv X pins σ H s->CS EI σ H Q ->
  wpAny (model X.prog X.w) X.A (evalPairs (pairTrees keys values X.env pos)) (λvs s'=>∃ps H',Inv X pins σ H' s'/\VV ps vs/\Q ps H') X.xe s
theorem uy:M3 X pos [] [] []:=λpins s σ H Q I h=>pairTrees_nil_walk ⟨[],H,I,.nil,h⟩
theorem sm{k v:Expr}{ks:List (Option Expr)}{vs:List Expr}{tk:TE}{EI:List (TE×TE)}(hk:PE X k tk)(hv:PE X v tv)(hr:M3 X pos ks vs EI):
  M3 X pos (some k::ks) (v::vs) ((tk,tv)::EI):=λpins s σ H Q I h=>
 pairTrees_cons_walk (yM (hk pins s σ H _ I h) λu s1 ⟨x,H1,I1,rx,q1⟩=>yM (hv pins s1 σ H1 _ I1 q1) λw2 s2 ⟨y,H2,I2,ry,q2⟩=>
  yM (hr pins s2 σ H2 _ I2 q2) λws s3 ⟨ps,H3,I3,rel,q3⟩=>⟨(x,y)::ps,H3,I3,.cons ⟨rx,ry⟩ rel,q3⟩)
def AN(kvs more:List (Key×V)):List (Key×V):=more.foldl (λacc kv=>putK acc kv.1 kv.2) kvs
theorem KV.merge:∀{more:List (Key×V)} {rs:List (Key×Value)} {kvs:List (Key×V)} {vs:List (Key×Value)},KV more rs->KV kvs vs->KV (AN kvs more) (merged vs rs):=by
 intro more rs kvs vs r
 unfold KV at r
 induction r generalizing kvs vs with
 |nil=>intro q;exact q
 |@cons p q ps qs h t ih=>
  intro r0
  have e:KV (putK kvs p.1 p.2) (stored vs q.1 q.2):=by
   have:=r0.put p.1 h.2
   rw[<- h.1];exact this
  exact ih e
theorem fK:∀(more kvs:List (Key×V)),(AN kvs more).length<=kvs.length+more.length
 |[],kvs=>by show kvs.length<=kvs.length+0;omega
 |p::r,kvs=>by
  have h1:=fK r (putK kvs p.1 p.2)
  have h2:=cy kvs p.1 p.2
  show (AN (putK kvs p.1 p.2) r).length<=_
  rw[aaR];omega
theorem jI{P:aaE}{w:World}:∀{kvs:List (Key×V)} {ws:List (Value×Value)},VV (kvs.map λkv=>(kV kv.1,kv.2)) ws->∃rs,Carries (aF P w) ws rs/\KV kvs rs
 |[],_,r=>by rw[adT]at r;cases r;exact⟨[],acn,.nil⟩
 |p::kvs,_,r=>by
  rw[aau]at r
  cases r with
  |@cons a b as bs h t=>
   obtain⟨rs,c,q⟩:=jI (P:=P) (w:=w) t
   obtain⟨b1,b2⟩:=b
   exact⟨(p.1,b2)::rs,⟨dF h.1,rfl,c⟩,.cons ⟨rfl,h.2⟩ q⟩
def Lq(EI:List (TE×TE)):TE:=λσ H Q=>∀p,H p=none->CS EI σ (upd H p (.dK [])) λps H2=>H2 p=some (.dK [])/\∃kvs:List (Key×V),ps=kvs.map (λkv=>(kV kv.1,kv.2))/\kvs.length<=15/\Q (.ref p) (upd H2 p (.dK (AN [] kvs)))
theorem uB{keys:List (Option Expr)}{values:List Expr}{EI:List (TE×TE)}(h:M3 X pos keys values EI)(JZ:keys.all (·.isSome)=true)(hl:keys.length=values.length)(h0:keys≠[])
  (Qc:keys.length<=15):PE X (.Dict keys values pos) (Lq EI):=by
 intro pins s σ H Q I q
 have hn:=I.ye.fresh (aam s.heap.objs.size)
 have I1:=I.laid (a:=s.heap.objs.size) (o:=.dK []) (h':=s.heap.push {cls:=.type "dict",data:=.dict #[]}) (t':=s.toks) (λ_ _ q=>aad _ q) (aam _) (mS s.heap I.Qs)
 refine wpAny_Dict_walk (knd:=aF X.prog X.w) JZ hl h0 Qc (yM (h pins _ σ _ _ I1 (q _ hn)) λws s2 ⟨ps,H2,I2,rel,e,kvs,ep,lk,q2⟩=>?_)
 subst ep
 obtain⟨rs,c,rk⟩:=jI (P:=X.prog) (w:=X.w) rel
 obtain⟨z,hd,Kx,r0,dd⟩:=jD I2.ye e
 cases r0
 refine⟨rs,c,dd,λh' Hj hs=>⟨.ref s.heap.objs.size,_,?_,rfl,q2⟩⟩
 have hz:(AN [] kvs).length<=sizeLine:=by
  have h1:=fK kvs []
  rw[acd]at h1
  rw[aax];omega
 have he:∃q,h'.get? s.heap.objs.size=some q:=let ⟨q,_,_,hq,_⟩:=Hj;⟨q,hq⟩
 exact gX I2 (by rw[e];exact acn) hs he (mR hz hd (rk.merge .nil) Hj)
def Uy(H:Hp)(a:Addr):Prop:=(∃kvs,Rd H a (.dK kvs))\/∃kvs,Rd H a (.dT kvs)
theorem xh(I:Inv X pins σ H s)(d:Uy H a):
  s.TypeIs (.ref a) "dict" /\ (∀b,aas a=.ref b->∃ob,s.heap.get? b=some ob/\ob.dict=none)/\(a==acu)=false:=by
 rcases d with ⟨kvs,e⟩|⟨kvs,e⟩
 .obtain⟨_,hd,vs,_,dd⟩:=fE I.ye e
  refine⟨dd.typeIs,λb q=>?_,hd⟩
  cases q
  obtain⟨ob,_,_,h1,h2,_⟩:=dd
  exact⟨ob,h1,h2.2.1⟩
 .obtain⟨_,hd,xs,_,dd⟩:=gW I.ye e
  refine⟨dd.typeIs,λb q=>?_,hd⟩
  cases q
  obtain⟨ob,_,_,h1,h2,_⟩:=dd
  exact⟨ob,h1,h2.2.1⟩
variable{d:V}{o:Option V}
variable{o f:Expr}{apos yP:Pos}{tx:TE}
theorem rP:yq X (.builtin "len") (λxs H Q=>∃a kvs,xs=[V.ref a]/\H a=some (.dK kvs)/\Q (.int kvs.length) H):=by
 intro pins s σ H xs us Q I r h
 obtain⟨a,kvs,rfl,ha,q⟩:=h
 obtain⟨u,rfl,ru⟩:=vals1 r
 cases ru
 exact xX I (.inl ha) λt s' I'=>⟨.int kvs.length,H,I',⟨t,rfl⟩,q⟩
section
variable{κ:Type}[DecidableEq κ]
end
end L2
set_option maxHeartbeats 4000000
namespace L2
open PySem PySem.Spec PyProof.Rows
def An(cells:List (Str×Addr)):List (Str×ac8)->List (Str×Addr)->List (Str×Addr)
 |[],acc=>acc
 |(n,k)::r,acc=>if k==.free then An cells r ((n,(cells.lookup n).getD 0)::acc)else An cells r acc
theorem jG{env:Env}:∀(names:List (Str×ac8)) (acc:List (Str×Addr)),(∀x∈names,x.2=.free->∃c,env.cells.lookup x.1=some c) ->
  (forIn names acc λ(x:Str×ac8) (cs:List (Str×Addr))=>match x with
   |(name,kind)=>if (kind==abi)=true then (do let c <- cellOf env name;pure (adY ((name,c)::cs)))else pure (adY cs):Sem (List (Str×Addr)))=pure (An env.cells names acc)
 |[],acc,_=>by simp[An]
 |(n,k)::r,acc,h=>by
  have hr:=λacc=>jG (env:=env) r acc λx hx=>h x (aar _ hx)
  rw[ae7]
  unfold An
  by_cases hk:(k==abi)=true
  .obtain⟨c,hc⟩:=h (n,k) aay (by simpa using hk)
   have Dz:env.cells.lookup n=some c:=hc
   have e:cellOf env n=pure c:=by unfold cellOf;rw[Dz]
   rw[if_pos hk]
   dsimp only
   rw[if_pos hk,e,pure_bind,pure_bind]
   rw[Dz]
   exact hr _
  .rw[if_neg hk]
   dsimp only
   rw[if_neg hk,pure_bind]
   exact hr acc
variable{scope:Scope}{env:Env}
theorem fM(h:∀x∈scope.names,x.2=.free->∃c,env.cells.lookup x.1=some c):aer scope env=pure (An env.cells scope.names []):=by
 have e:=jG (env:=env) scope.names [] h
 unfold aer
 simp only[pure_bind,bind_pure]
 exact e
variable{x:Str}
theorem dz{cells:List (Str×Addr)}{c:Addr}:∀{names:List (Str×ac8)} {acc:List (Str×Addr)},(∀y∈names,y.2=.free->∃c,cells.lookup y.1=some c)->(∀c,acc.lookup x=some c->cells.lookup x=some c) ->
  (An cells names acc).lookup x=some c->cells.lookup x=some c
 |[],acc,_,ha,e=>ha c e
 |(n,k)::r,acc,h,ha,e=>by
  have hr:∀y∈r,y.2=.free->∃c,cells.lookup y.1=some c:=λy hy=>h y (aar _ hy)
  unfold An at e
  split at e
  .rename_i hk
   refine dz hr (λc' e'=>?_) e
   rw[abg]at e'
   split at e'
   .rename_i hx
    obtain⟨c0,hc⟩:=h (n,k) aay (by simpa using hk)
    have Dz:cells.lookup n=some c0:=hc
    rw[Dz]at e'
    have:x=n:=by simpa using hx
    rw[this,Dz];exact e'
   .exact ha c' e'
  .exact dz hr ha e
theorem fF{cells:List (Str×Addr)}:∀{names:List (Str×ac8)} {acc:List (Str×Addr)},((x,abi)∈names\/∃c,acc.lookup x=some c)->∃c,(An cells names acc).lookup x=some c
 |[],acc,h=>by
  rcases h with h|h
  .simp at h
  .exact h
 |(n,k)::r,acc,h=>by
  unfold An
  split
  .refine fF ?_
   rcases h with h|⟨c,h⟩
   .rcases List.mem_cons.mp h with e|e
    .cases e
     exact .inr ⟨_,by rw[abg];simp;rfl⟩
    .exact .inl e
   .refine .inr ?_
    rw[abg]
    split
    .exact⟨_,rfl⟩
    .exact⟨c,h⟩
  .rename_i hk
   refine fF ?_
   rcases h with h|h
   .rcases List.mem_cons.mp h with e|e
    .cases e
     exact absurd rfl hk
    .exact .inl e
   .exact .inr h
def rW(X:Cx)(scope:Scope)(N:List Str)(C:Addr)(s₀:Shared)(H₀:Hp)(ex:List Addr)(pn:List (Addr×Obj)):Cx :=
 {X with N:=N,s₀:=s₀,H₀:=H₀,env:=compEnvC scope (An X.env.cells scope.names []) C X.env,outer:=X.stack,stack:=X.stack,ex:=ex,fn:=λ_=>false,pn:=pn,xe:=λ_ _=>False}
def yD(js:List (Option Nat))(σ:St):St:=js.map λo=>o.bind λj=>(σ[j]?).getD none
def zE(M:List Str)(scope:Scope)(N:List Str)(js:List (Option Nat)):Bool :=
 decide (N.length=js.length) && (N.zip js).all λp=>match p.2 with
  |none=>true
  |some j=>decide (M[j]?=some p.1) && (decide (scope.names.lookup p.1=some .free) || decide (scope.names.lookup p.1=none))
def Bh(env:Env)(scope:Scope):Bool :=
 scope.names.all λx=>match x.2 with
  |.free=>decide (env.kindOf x.1=some .cell) || decide (env.kindOf x.1=some .free)
  |.cell=>false
  |.local=>decide (scope.names.lookup x.1=some .local)
  |_=>true
theorem jj{scope:Scope}{k:ac8}:∀{names:List (Str×ac8)},(∀y∈names,y.2≠.cell)->(k=.cell\/k=.free) ->
  (names.map λ(n,k)=>if (k==abi && env.scope.kind==.function && env.kindOf n==some .cell)then (n,acI)else (n,k)).lookup x=some k->(x,abi)∈names:=by
 intro names hn hk h
 have hm:=abW h
 obtain⟨⟨n,k0⟩,h0,e⟩:=List.mem_map.mp hm
 dsimp only at e
 split at e
 .rename_i hc
  cases e
  simp only[aa2]at hc
  have:k0=.free:=by simpa using hc.1.1
  subst this
  exact h0
 .cases e
  rcases hk with e|e
  .exact absurd e (hn _ h0)
  .subst e;exact h0
theorem gb{env:Env}{x:Str}:∀{names:List (Str×ac8)},names.lookup x=some .free ->
  (names.map λ(n,k)=>if (k==abi && env.scope.kind==.function && env.kindOf n==some .cell)then (n,acI)else (n,k)).lookup x=some .cell \/
  (names.map λ(n,k)=>if (k==abi && env.scope.kind==.function && env.kindOf n==some .cell)then (n,acI)else (n,k)).lookup x=some .free
 |[],h=>by simp at h
 |(n,k)::r,h=>by
  have ih:=@gb env x r
  show ac4 x ((if (k==abi && env.scope.kind==.function && env.kindOf n==some .cell)=true then (n,acI)else (n,k))::_)=_\/ac4 x ((if (k==abi && env.scope.kind==.function && env.kindOf n==some .cell)=true then (n,acI)else (n,k))::_)=_
  cases hx:x==n with
  |true=>
   simp only[abg,hx]at h
   cases h
   by_cases hc:(abi==abi && env.scope.kind==.function && env.kindOf n==some .cell)=true
   .rw[if_pos hc];left;simp only[abg,hx]
   .rw[if_neg hc];right;simp only[abg,hx]
  |false=>
   simp only[abg,hx]at h
   by_cases hc:(k==abi && env.scope.kind==.function && env.kindOf n==some .cell)=true
   .rw[if_pos hc];simp only[abg,hx];exact ih h
   .rw[if_neg hc];simp only[abg,hx];exact ih h
variable{X:Cx}{pins:List (Addr×Obj)}{σ:St}{H:Hp}{s:Shared}
structure HW(env:Env)(scope:Scope):Prop where
 fr:∀x∈scope.names,x.2=.free->env.kindOf x.1=some .cell\/env.kindOf x.1=some .free
 nc:∀x∈scope.names,x.2≠.cell
 lc:∀x∈scope.names,x.2=.local->scope.names.lookup x.1=some .local
theorem nM(h:Bh env scope=true):HW env scope:=by
 have q:=List.all_eq_true.mp h
 refine⟨λx hx e=>?_,λx hx e=>?_,λx hx e=>?_⟩
 .have:=q x hx
  rw[e]at this
  simp only[ad0,decide_eq_true_eq]at this
  exact this
 .have:=q x hx
  rw[e]at this
  cases this
 .have:=q x hx
  rw[e]at this
  simpa using this
theorem HW.cells(h:HW X.env scope)(ok:X.Ok):∀x∈scope.names,x.2=.free->∃c,X.env.cells.lookup x.1=some c:=λx hx e=>ok.has x.1 (h.fr x hx e)
structure IK(M:List Str)(scope:Scope)(N:List Str)(js:List (Option Nat)):Prop where
 len:N.length=js.length
 at':∀(i:Nat) (x:Str) (j:Nat),N[i]?=some x->js[i]?=some (some j)->M[j]?=some x/\(scope.names.lookup x=some .free\/scope.names.lookup x=none)
variable{N:List Str}{js:List (Option Nat)}
theorem mZ{M:List Str}(h:zE M scope N js=true):IK M scope N js:=by
 unfold zE at h
 rw[aa2]at h
 refine⟨of_decide_eq_true h.1,λi x j hx hj=>?_⟩
 have hm:(x,some j)∈N.zip js:=by
  refine aaN (i:=i) ?_
  rw[aa7]
  exact⟨hx,hj⟩
 have q:=List.all_eq_true.mp h.2 _ hm
 simp only[aa2,ad0,decide_eq_true_eq]at q
 exact q
theorem ga{env:Env}{x:Str}:∀{names:List (Str×ac8)},names.lookup x=none ->
  (names.map λ(n,k)=>if (k==abi && env.scope.kind==.function && env.kindOf n==some .cell)then (n,acI)else (n,k)).lookup x=none
 |[],h=>rfl
 |(n,k)::r,h=>by
  have ih:=@ga env x r
  show ac4 x ((if (k==abi && env.scope.kind==.function && env.kindOf n==some .cell)=true then (n,acI)else (n,k))::_)=_
  cases hx:x==n with
  |true=>simp only[abg,hx]at h;cases h
  |false=>
   simp only[abg,hx]at h
   by_cases hc:(k==abi && env.scope.kind==.function && env.kindOf n==some .cell)=true
   .rw[if_pos hc];simp only[abg,hx];exact ih h
   .rw[if_neg hc];simp only[abg,hx];exact ih h
variable{C:Addr}{fp:List Addr}
theorem mH{h₁:Heap}{tk:Nat}(I:Inv X pins σ H s)(Bf:HW X.env scope)(yT:IK X.N scope N js)(yt:scope.kind=.function)
  (hf:∀b∈fp,zN X pins H b) (S8:∀b∈fp,b<s.heap.objs.size) (hC:C=s.heap.objs.size) (keep:∀b o,s.heap.get? b=some o->h₁.get? b=some o) (Hc:h₁.Ns C λ_=>none) :
  Inv (rW X scope N C s H fp (X.pn++pins)) [] (yD js σ) H {s with heap:=h₁,toks:=tk}:=by
 have Hf:=Bf.cells I.ok
 have Le:∀x c,(An X.env.cells scope.names []).lookup x=some c->X.env.cells.lookup x=some c:=λx c e=>dz Hf (λc e=>by simp at e) e
 have KG:∀b o,s.heap.get? b=some o->b≠C:=λb o e=>by rw[hC];exact aaw (aak e)
 refine⟨⟨I.ok.mod,yt,I.ok.glob,I.ok.blt,adR hC.symm,λx y c e1 e2=>?_,λx hx=>?_,λx c e=>?_,I.ok.hd,I.ok.frames,.inl rfl,λb hb=>⟨?_,λx c e=>?_⟩,I.bs,aaZ I.ok.HU I.sz,λb o e hb=>?_,λb hb z=>?_,I.stack,I.EK⟩,
  rfl,I.bare,Un.kept keep,⟨_,Hc,λi x v h1 h2 h3=>?_⟩,λx c e=>?_,I.ye.fresh (adR hC.symm),λx c e=>I.Ai x c (Le x c e),λp hp=>?_,I.ye.kept keep,?_⟩
 .exact I.ok.inj x y c (Le x c e1) (Le y c e2)
 .have hm:(x,abi)∈scope.names:=by
   rcases hx with hx|hx
   .exact jj (scope:=scope) (env:=X.env) (k:=.cell) Bf.nc (.inl rfl) hx
   .exact jj (scope:=scope) (env:=X.env) (k:=.free) Bf.nc (.inr rfl) hx
  exact fF (.inl hm)
 .exact absurd e (by intro z;cases z)
 .show b≠C
  rw[hC];exact aaw (S8 b hb)
 .exact(hf b hb).2.2.2.2.1 x c (Le x c e)
 .obtain⟨_,_,_,q,_⟩:=hf b hb
  rcases q with q|q
  .exact I.ok.Gm b o e q
  .exact absurd (aaA (aak (I.ok.bs b o e).1) q) (abd _)
 .obtain⟨_,q1,q2,_⟩:=hf b hb
  rcases List.mem_cons.mp (I.Bg b z)with e|e
  .exact q1 e
  .exact q2 e
 .have h1:N[i]?=some x:=h1
  unfold yD at h2
  rw[aah]at h2
  cases ej:js[i]? with
  |none=>rw[ej]at h2;cases h2
  |some o=>
   cases o with
   |none=>rw[ej]at h2;cases h2
   |some j=>
    rw[ej]at h2
    have K0:(σ[j]?).getD none=some v:=by simpa using h2
    have hσ:σ[j]?=some (some v):=by
     cases eσ:σ[j]? with
     |none=>rw[eσ]at K0;cases K0
     |some w'=>rw[eσ]at K0;exact congrArg some K0
    obtain⟨hM,He⟩:=yT.at' i x j h1 ej
    rcases He with He|He
    case inr=>
     have hn:=ga (env:=X.env) He
     rcases h3 with h3|h3|h3
     .exact absurd (hn.symm.trans h3) (by simp)
     .exact absurd (hn.symm.trans h3) (by simp)
     .exact absurd (hn.symm.trans h3) (by simp)
    have HF:=abW He
    have Ru:=Bf.fr _ HF rfl
    have Pd:Dj X.env.scope x:=Ru.elim (λz=>.inr (.inl z)) λz=>.inr (.inr z)
    obtain⟨m,hn,hl⟩:=I.loc
    obtain⟨u,ru,lk⟩:=hl j x v hM hσ Pd
    refine⟨u,ru,?_⟩
    rcases lk with ⟨k,_⟩|⟨k,c,ec,z⟩
    .rcases Ru with q|q
     .rw[show X.env.kindOf x=some .cell from q]at k;cases k
     .rw[show X.env.kindOf x=some .free from q]at k;cases k
    .obtain⟨c',Dz⟩:=fF (cells:=X.env.cells) (acc:=[]) (.inl HF)
     have e2:=Le x c' Dz
     rw[ec]at e2;cases e2
     refine .inr ⟨gb (env:=X.env) He,c,Dz,?_⟩
     obtain⟨o,ho,hd⟩:=z
     exact⟨o,keep _ _ ho,hd⟩
 .obtain⟨v,o,ho,hd⟩:=I.cell x c (Le x c e)
  exact⟨v,o,keep _ _ ho,hd⟩
 .have SI:p∈X.pn++pins:=by
   have KO:p∈(X.pn++pins)++[]:=hp
   rwa [abb]at KO
  obtain⟨e,n,ne,nf,d⟩:=I.pin p SI
  refine⟨keep _ _ e,n,KG _ _ e,λz=>?_,d⟩
  rcases List.mem_cons.mp (I.Bg p.1 z)with q|q
  .exact ne q
  .exact nf q
 .unfold yD
  rw[aae]
  exact yT.len.symm
variable{H':Hp}{s':Shared}
theorem mI{σ':St}(I:Inv X pins σ H s)(J:Inv (rW X scope N C s H fp (X.pn++pins)) [] σ' H' s')(hf:∀b∈fp,zN X pins H b):Inv X pins σ H' s' :=
 I.MS (ch:=fp) J.os J.base J.ye J.bare λb hb=>let ⟨_,q1,_,q3,q4,q5⟩:=hf b hb;⟨q3,q1,q4,q5⟩
def AJ(js:List (Option Nat))(g:TG):Prop:=∀x σ H Q,g x σ H Q->g x σ H λσ' H'=>Q σ' H'/\σ'.length=σ.length/\∀(k j:Nat),js[k]?=some (some j)->σ'[k]?=σ[k]?
def Nc(js:List (Option Nat))(g:FH):Prop:=∀x σ H Q,g x σ H Q->g x σ H λσ' H'=>Q σ' H'/\σ'.length=σ.length/\∀(k j:Nat),js[k]?=some (some j)->σ'[k]?=σ[k]?
variable{i:Nat}
theorem gP(h:js[i]?=some none:=by rfl):AJ js (zD i):=by
 intro x σ H Q hq
 refine⟨hq,by simp,λk j hk=>?_⟩
 rw[aaD]
 rintro rfl
 rw[h]at hk;cases hk
theorem xj:Nc js J3:=by
 rintro x σ H Q ⟨e,hq⟩
 exact⟨e,hq,rfl,λ_ _ _=>rfl⟩
variable{t:TG}{u:FH}
theorem vn(h1:AJ js t)(h2:Nc js u)(mono:∀x σ H Q Q',(∀a b,Q a b->Q' a b)->t x σ H Q->t x σ H Q')(L9:∀x σ H Q Q',(∀a b,Q a b->Q' a b)->u x σ H Q->u x σ H Q'):Nc js (DB t u):=by
 rintro x σ H Q ⟨v,r,e,hq⟩
 refine⟨v,r,e,mono _ _ _ _ _ (λσ1 H1 hh=>?_) (h1 v σ H _ hq)⟩
 obtain⟨a,l1,k1⟩:=hh
 exact L9 _ _ _ _ _ (λσ2 H2 ⟨b,l2,k2⟩=>⟨b,l2.trans l1,λk j hk=>(k2 k j hk).trans (k1 k j hk)⟩) (h2 r σ1 H1 _ a)
variable{K:aag}{n:Nat}
theorem xi{t:FH}(h:Nc js t):AJ js (J1 K n t):=by
 rintro x σ H Q ⟨a,xs,e,hs,hl,hq⟩
 exact⟨a,xs,e,hs,hl,h xs σ H Q hq⟩
theorem gQ:∀x σ H (Q Q':St->Hp->Prop),(∀a b,Q a b->Q' a b)->zD i x σ H Q->zD i x σ H Q':=λ_ _ _ _ _ h q=>h _ _ q
theorem ku(m1:∀x σ H (Q Q':St->Hp->Prop),(∀a b,Q a b->Q' a b)->t x σ H Q->t x σ H Q')(m2:∀x σ H (Q Q':St->Hp->Prop),(∀a b,Q a b->Q' a b)->u x σ H Q->u x σ H Q'):
  ∀x σ H (Q Q':St->Hp->Prop),(∀a b,Q a b->Q' a b)->DB t u x σ H Q->DB t u x σ H Q':=λ_ _ _ _ _ h ⟨v,r,e,q⟩=>⟨v,r,e,m1 _ _ _ _ _ (λ_ _=>m2 _ _ _ _ _ h) q⟩
def PF(X:Cx)(ifs:List Expr)(t:TT):Prop :=
 ∀(pins:List (Addr×Obj)) (s:Shared) (σ:St) (H:Hp) (Q:Bool->Hp->Prop),Inv X pins σ H s->t σ H Q ->
  wpAny (model X.prog X.w) X.A (forIn ifs true λc r=>if r=true then do let ok <- isTrue c X.env (eval c X.env);pure (adY ok)else pure (adY r)) (TP X pins σ Q) X.xe s
def IU:TT:=λ_ H Q=>Q true H
theorem qv:PF X [] IU:=λpins s σ H Q I h=>wpAny_tests_nil ⟨H,I,h⟩
variable{c:Expr}
theorem qu{t:TT}(h:PT X c t):PF X [c] t:=λpins s σ H Q I hq=>wpAny_tests_one (h pins s σ H Q I hq)
def Ox(wi:TI)(g:TG)(tc:TT)(te:TE)(js:List (Option Nat)):TE:=λσ H Q=>wi σ H λJ H1=>∀l,H1 l=none ->
 ∃W:Nat->Nat->List V->Hp->Prop,(∃m,W 0 m [] (upd H1 l (.lst [])))/\∀i m ys H2,W i m ys H2 ->
  (J.stop i H2/\Q (.ref l) H2)\/(J.go i H2/\∀x H3,J.yld i H2 x H3->g x (yD js σ) H3 λσ4 H4=>tc σ4 H4 λb H5=>
   if b=true then te σ4 H5 λy H6=>H6 l=some (.lst ys)/\ys.length<sizeLine/\∃m',m'<m/\W (i+1) m' (ys++[y]) (upd H6 l (.lst (ys++[y])))else ∃m',m'<m/\W (i+1) m' ys H5)
variable{tg elt iter:Expr}{ifs:List Expr}{pos:Pos}{wi:TI}{g:TG}{tc:TT}{te:TE}
variable{Q:VK}{E:Value->Shared->Prop}{pos':Pos}
theorem oi{use:Option (Value->Sem Unit)}{QQ:Value->Shared->Prop}(hc:X.calm=true)(hx:X.xe=λ_ _=>False)(hi:PI X tg iter wi)
  (hg:∀C s₀ H₀ ex pn,PG (rW X scope N C s₀ H₀ ex pn) tg g) (ht:∀C s₀ H₀ ex pn,PF (rW X scope N C s₀ H₀ ex pn) ifs tc) (he:∀C s₀ H₀ ex pn,PE (rW X scope N C s₀ H₀ ex pn) elt te) (GH:AJ js g)
  (Bf:Bh X.env scope=true) (yT:zE X.N scope N js=true) (yt:scope.kind=.function) (hs:∀x,aa0 iter X.env x=pure x)
  (I:Inv X pins σ H s) (h:Ox wi g tc te js σ H Q)
  (fin:∀(l C:Addr) (H':Hp) (s':Shared),Inv X pins σ H' s'->Q (.ref l) H'->H' C=none->C≠X.env.locals->X.s₀.heap.objs.size<=C->(∀x c,X.env.cells.lookup x=some c->c≠C)->(∀p∈X.pn++pins,p.1≠C)->(∃m,s'.heap.Ns C m)->aeQ (model X.prog X.w) X.A E use QQ (.ref l) C (.ok .next) s') :
  wpAny (model X.prog X.w) X.A (adA (.ListComp elt [⟨tg,iter,ifs,0⟩] scope pos) scope X.env pos' (newList []) false (eval iter X.env) use) QQ E s:=by
 have SC:=nM Bf
 have CP:=mZ yT
 refine wpAny_comprehension_free (cl:=An X.env.cells scope.names []) rfl hs (fM (SC.cells I.ok)) yt SC.lc ?_
 refine aaM (hi pins s σ H _ I h) (λv s1 h1=>aaM h1 (λND s2 h2=>?_) (λ_ _ z=>by rw[hx]at z;exact z.elim)) (λ_ _ z=>by rw[hx]at z;exact z.elim)
 obtain⟨it,fp,tn,J,H2,rfl,I2,T,Jb,f2,hq⟩:=h2
 have KZ:H2 s2.heap.objs.size=none:=I2.ye.fresh (aam _)
 obtain⟨W,⟨m0,w0⟩,turn⟩:=hq s2.heap.objs.size KZ
 refine abR (ad4 (λx hx=>SC.nc x hx) (by intro y hy;simp at hy) (λh₁ hns₁ hsb₁=>?_) yt)
 dsimp only at hns₁ hsb₁ ⊢
 generalize HJ:s2.heap.push {cls:=.type "list",dict:=none,data:=.seq ([]:List Value).toArray}=hp3 at hns₁ hsb₁ ⊢
 have MM:hp3.objs.size=s2.heap.objs.size+1:=by rw[<- HJ,aby]
 have I3:Inv X pins σ (upd H2 s2.heap.objs.size (.lst [])) {s2 with heap:=hp3}:=by
  rw[<- HJ]
  exact I2.laid (t':=s2.toks) (λb u e=>aad _ e) (aam _) ⟨by show 0<=_;exact aaU _,[],_,.nil,aal _ rfl⟩
 have keep:∀b o,hp3.get? b=some o->h₁.get? b=some o:=λb o e=>hsb₁.extBut b o (aaw (aak e)) (aad _ e)
 have J7:∀b∈fp,b<s2.heap.objs.size:=λb hb=>by
  obtain⟨o,e,_⟩:=T.obj _ _ Jb b hb
  exact aak e
 have f3:∀b∈fp,zN X pins (upd H2 s2.heap.objs.size (.lst [])) b:=λb hb=>⟨by rw[af (aaw (J7 b hb))];exact(f2 b hb).1,(f2 b hb).2⟩
 have J4:=mH (tk:=s2.toks+([]:List (Str×Value)).length) (C:=hp3.objs.size) (fp:=fp) (h₁:=h₁) (scope:=scope) (N:=N) (js:=js) I3 SC CP yt f3 (λb hb=>by show b<hp3.objs.size;rw[MM];exact abB (J7 b hb)) rfl keep (by
  have:(λx=>ac4 x ([]:List (Str×Value)).reverse)=λ_=>none:=by funext x;rfl
  rw[this]at hns₁;exact hns₁)
 have Lx:tn 0 h₁:=T.keep _ _ _ Jb λb hb o e=>keep b o (by rw[<- HJ];exact aad _ e)
 have loop:∀s4:Shared,s4={s2 with heap:=h₁,toks:=s2.toks+([]:List (Str×Value)).length} ->
   aec (model X.prog X.w) X.A (.compLoop (.ListComp elt [⟨tg,iter,ifs,0⟩] scope pos) 0 (.ref it) (.ref s2.heap.objs.size) (compEnvC scope (An X.env.cells scope.names []) hp3.objs.size X.env)) (aeQ (model X.prog X.w) X.A E use QQ (.ref s2.heap.objs.size) hp3.objs.size) s4:=by
  rintro s4 rfl
  generalize hY:rW X scope N hp3.objs.size {s2 with heap:=hp3} (upd H2 s2.heap.objs.size (.lst [])) fp (X.pn++pins)=Y at J4
  have J8:∀{H':Hp},(∀b∈fp,H' b=none)->∀b∈fp,zN Y [] H' b:=λhn b hb=>by
   subst hY
   refine⟨hn b hb,?_,?_,.inl hb,λx c e=>?_,λp hp=>?_⟩
   .show b≠hp3.objs.size
    rw[MM];exact aaw (abB (J7 b hb))
   .intro z
    rcases List.mem_cons.mp (I3.Bg b z)with q|q
    .exact(f3 b hb).2.1 q
    .exact(f3 b hb).2.2.1 q
   .exact(f3 b hb).2.2.2.2.1 x c (dz (SC.cells I.ok) (λc e=>by simp at e) e)
   .exact(f3 b hb).2.2.2.2.2 p (by simpa[rW]using hp)
  have PD:PG Y tg g:=by subst hY;exact hg _ _ _ _ _
  have Pg:PF Y ifs tc:=by subst hY;exact ht _ _ _ _ _
  have PM:PE Y elt te:=by subst hY;exact he _ _ _ _ _
  have eA:Y.A=X.A:=by subst hY;rfl
  have eP:Y.prog=X.prog:=by subst hY;rfl
  have eW:Y.w=X.w:=by subst hY;rfl
  have eK:Y.K=X.K:=by subst hY;rfl
  have eC:Y.calm=true:=by subst hY;exact hc
  have eX:Y.xe=λ_ _=>False:=by subst hY;rfl
  have eE:Y.env=compEnvC scope (An X.env.cells scope.names []) hp3.objs.size X.env:=by subst hY;rfl
  have T':Turn Y.prog Y.w Y.K tg J fp it tn:=by rw[eP,eW,eK];exact T
  have eL:(yD js σ).length=js.length:=by unfold yD;rw[aae]
  rw[<- eP,<- eW,<- eA,<- eE]
  refine codeAny_loop rfl (λn s'=>∃i ys H',Inv Y [] (yD js σ) H' s'/\tn i s'.heap/\(∀b∈fp,H' b=none)/\W i n ys H') (λn s' hI=>?_) m0 ⟨0,[],_,J4,Lx,λb hb=>(f3 b hb).1,w0⟩
  obtain⟨i,ys,H5,I5,Hq,J6,w5⟩:=hI
  show wpAny _ Y.A ((compTurn (.ListComp elt [⟨tg,iter,ifs,0⟩] scope pos) 0 (.ref it) (.ref s2.heap.objs.size) Y.env).onRaise (λx=>do noteFrame x Y.env;theTreesLotGoes x)) _ _ s'
  refine wpAny_noted ?_
  rw[compTurn_list]
  refine aab (act (aab ?_))
  have Ef:∀(x:Value) (s:Shared) (P:Prop),Y.xe x s->P:=λx s P z=>by rw[eX]at z;exact z.elim
  rcases turn i n ys H5 w5 with ⟨stop,qn⟩|⟨go,step⟩
  .refine aaM (T'.done Y rfl rfl rfl eC i [] s' _ H5 Y.xe I5 (J8 J6) Hq stop) (λr s6 ⟨hr,I6⟩=>?_) λx s z=>Ef x s _ z
   subst hr
   refine aaj ?_
   show aeQ _ _ _ _ _ _ _ _ _
   rw[eP,eW,eA]
   have back:Inv X pins σ H5 s6:=by subst hY;exact mI I3 I6 f3
   have HD:∃m,s6.heap.Ns hp3.objs.size m:=by
    obtain⟨m,hm,_⟩:=I6.loc
    have:Y.env.locals=hp3.objs.size:=by rw[eE];rfl
    rw[this]at hm
    exact⟨m,hm⟩
   have Qb:H5 hp3.objs.size=none:=by
    have:=I6.free
    have e:Y.env.locals=hp3.objs.size:=by rw[eE];rfl
    rw[e]at this;exact this
   refine fin s2.heap.objs.size hp3.objs.size H5 s6 back qn Qb ?_ ?_ ?_ ?_ HD
   .exact abQ I3.lt
   .exact I3.sz
   .intro x c e z
    obtain⟨v,o,ho,_⟩:=I3.cell x c e
    exact absurd (aak ho) (by rw[z];exact abd _)
   .intro p hp z
    have:=aak (I3.pin p hp).1
    rw[z]at this;exact absurd this (abd _)
  .refine aaM (T'.item Y rfl rfl rfl eC i [] s' _ H5 Y.xe I5 (J8 J6) Hq go) (λr s6 h6=>?_) λx s z=>Ef x s _ z
   obtain⟨u,hr,h6⟩:=h6
   subst hr
   dsimp only
   refine aab ?_
   refine aaM h6 (λ_ s7 h7=>?_) λx s z=>Ef x s _ z
   obtain⟨x,H7,I7,r7,y7,Ja,Qg⟩:=h7
   have QC:=I7.pinned (J8 Qg) (T.obj _ _ Ja)
   have g7:=GH x (yD js σ) H7 _ (step x H7 y7)
   refine aab ?_
   refine aaM (PD _ s7 (yD js σ) H7 x u _ QC r7 g7) (λ_ s8 h8=>?_) λx s z=>Ef x s _ z
   obtain⟨σ8,H8,I8,q8,l8,k8⟩:=h8
   refine aab ?_
   refine aaM (Pg _ s8 σ8 H8 _ I8 q8) (λb s9 h9=>?_) λx s z=>Ef x s _ z
   obtain⟨H9,I9,q9⟩:=h9
   have again:∀{s':Shared} {H':Hp},Inv Y ([]++Bj fp s7.heap) σ8 H' s'->Inv Y [] (yD js σ) H' s'/\tn (i+1) s'.heap/\∀b∈fp,H' b=none:=λ{s' H'} I'=>by
    refine⟨(I'.zQ).weak l8.symm λk v e=>?_,T.keep _ _ _ Ja λb hb o e=>(I'.pin (b,o) (aat _ (aat _ (bn hb e)))).1,λb hb=>?_⟩
    .cases ej:js[k]? with
     |none=>
      unfold yD at e
      rw[aah,ej]at e;cases e
     |some o=>
      cases o with
      |none=>
       unfold yD at e
       rw[aah,ej]at e;cases e
      |some j=>rw[k8 k j ej];exact e
    .obtain⟨o,e,d⟩:=T.obj _ _ Ja b hb
     exact(I'.pin (b,o) (aat _ (aat _ (bn hb e)))).2.1
   cases b with
   |false=>
    rw[if_neg aaB]at q9
    obtain⟨m',hm,w9⟩:=q9
    obtain⟨a1,a2,a3⟩:=again I9
    exact aaj ⟨rfl,m',hm,i+1,ys,H9,a1,a2,a3,w9⟩
   |true=>
    rw[if_pos rfl]at q9
    refine aab (aab ?_)
    refine aaM (PM _ s9 σ8 H9 _ I9 q9) (λy OF Qe=>?_) λx s z=>Ef x s _ z
    obtain⟨yv,N6,QD,ON,TM,z10,m',hm,RQ⟩:=Qe
    refine aab ?_
    refine aaM (bj (X:=Y) _ OF σ8 N6 (.ref s2.heap.objs.size) [yv] (.ref s2.heap.objs.size) [y] (λ_ H'=>H'=upd N6 s2.heap.objs.size (.lst (ys++[yv]))) QD rfl (.cons ON .nil) ⟨_,ys,yv,rfl,rfl,TM,z10,rfl⟩) (λ_ Nu Qd=>?_) λx s z=>Ef x s _ z
    obtain⟨_,RK,N5,_,NY⟩:=Qd
    subst NY
    obtain⟨a1,a2,a3⟩:=again N5
    exact aaj (aaj ⟨rfl,m',hm,i+1,ys++[yv],_,a1,a2,a3,RQ⟩)
 exact codeAny_compStart_list (loop _ rfl) (T.self X.A 0 _ _ _ Lx (loop _ rfl))
theorem tY(hi:PI X tg iter wi)(hg:∀C s₀ H₀ ex pn,PG (rW X scope N C s₀ H₀ ex pn) tg g)(ht:∀C s₀ H₀ ex pn,PF (rW X scope N C s₀ H₀ ex pn) ifs tc)(he:∀C s₀ H₀ ex pn,PE (rW X scope N C s₀ H₀ ex pn) elt te)(GH:AJ js g)
  (hc:X.calm=true:=by rfl) (hx:X.xe=(λ_ _=>False):=by rfl) (Bf:Bh X.env scope=true:=by rfl) (yT:zE X.N scope N js=true:=by rfl) (yt:scope.kind=.function:=by rfl) (hs:∀x,aa0 iter X.env x=pure x:=by intro _;rfl) :
  PE X (.ListComp elt [⟨tg,iter,ifs,0⟩] scope pos) (Ox wi g tc te js):=by
 intro pins s σ H Q I h
 rw[eval_ListComp]
 refine oi (use:=none) hc hx hi hg ht he GH Bf yT yt hs I h λl C H' s' I' q f0 f1 f2 f3 f4 ⟨m,hm⟩=>?_
 refine⟨m,hm,λh' sb=>⟨.ref l,H',?_,rfl,q⟩⟩
 exact I'.turned (t':=s'.toks) (it:=C) (λb o hb e=>sb.extBut b o hb e) f0 f1 (.inr f2) f3 f4
variable{y:Str}{py:Pos}
theorem xK{za:Pos}(hN:X.N.Nodup)(hy:X.N[i]?=some y)(hk:X.env.scope.names.lookup y=some .local)(hi:PI X tg iter wi)(hg:∀C s₀ H₀ ex pn,PG (rW X scope N C s₀ H₀ ex pn) tg g)(ht:∀C s₀ H₀ ex pn,PF (rW X scope N C s₀ H₀ ex pn) ifs tc)(he:∀C s₀ H₀ ex pn,PE (rW X scope N C s₀ H₀ ex pn) elt te)(GH:AJ js g)
  (GD:ab9 (.ListComp elt [⟨tg,iter,ifs,0⟩] scope pos) (some (.Name y py)) za.line X.env=pure true:=by rfl)
  (hc:X.calm=true:=by rfl) (hx:X.xe=(λ_ _=>False):=by rfl) (Bf:Bh X.env scope=true:=by rfl) (yT:zE X.N scope N js=true:=by rfl) (yt:scope.kind=.function:=by rfl) (hs:∀x,aa0 iter X.env x=pure x:=by intro _;rfl) :
  PS X (.Assign [.Name y py] (.ListComp elt [⟨tg,iter,ifs,0⟩] scope pos) za) (D6 (Ox wi g tc te js) (zD i)):=by
 intro pins s σ H D I h
 rw[exec_Assign_Name_used _ _ _ _ GD]
 refine aab (act (aab ?_))
 show wpAny _ X.A (do let _ <- adA (.ListComp elt [⟨tg,iter,ifs,0⟩] scope pos) scope X.env _ (newList []) false (eval iter X.env) (some (assign (.Name y py) X.env))) _ _ s
 refine aab (aaM (oi (use:=some (assign (.Name y py) X.env)) (E:=X.xe) (QQ:=λ_ s'=>SP X pins D .next s') hc hx hi hg ht he GH Bf yT yt hs I h λl C H' s' I' q f0 f1 f2 f3 f4 ⟨m,hm⟩=>?_) (λ_ s' hq=>aaj (aaj hq)) λ_ _ e=>e)
 show wpAny _ X.A (assign (.Name y py) X.env (.ref l)) _ _ _
 refine aeo (fU I' hN hy (.inl hk) (v:=.ref l) rfl (λJl QE ⟨a,sb,ha⟩=>?_) (.inr hk))
 have PZ:C≠a:=by
  rcases ha with rfl|ha
  .exact f1
  .exact λz=>f3 _ _ ha z.symm
 refine⟨m,hm.sameBut sb PZ,λh' OC=>⟨_,H',?_,q⟩⟩
 exact QE.turned (t':=Jl.toks) (it:=C) (λb o hb e=>OC.extBut b o hb e) f0 f1 (.inr f2) f3 f4
end L2
namespace Srt
open PySem PySem.W PyProof.Rows
variable{α:Type}
def pw(lt:Nat->Nat->Bool)(n:Nat):KasT α->(α->Prop)->Prop
 |.ret a,Q=>Q a
 |.ask i j k,Q=>i<n/\j<n/\i≠j/\pw lt n (k (lt i j)) Q
theorem pw_bind{β:Type}{lt:Nat->Nat->Bool}{n:Nat}{f:α->KasT β}{Q:β->Prop}:∀(t:KasT α),pw lt n t (λa=>pw lt n (f a) Q)->pw lt n (t.bind f) Q
 |.ret _,h=>h
 |.ask i j k,h=>⟨h.1,h.2.1,h.2.2.1,pw_bind (k (lt i j)) h.2.2.2⟩
structure Ord(lt:Nat->Nat->Bool)(n:Nat):Prop where
 irr:∀i,i<n->lt i i=false
 tr:∀i j k,i<n->j<n->k<n->lt i j=true->lt j k=true->lt i k=true
 tot:∀i j,i<n->j<n->i≠j->lt i j=false->lt j i=true
section
variable{lt:Nat->Nat->Bool}{n:Nat}
def at'(p:Array Nat)(i:Nat):Nat:=p.getD i 0
structure Pm(p:Array Nat)(n:Nat):Prop where
 sz:p.size=n
 lt:∀i,i<n->at' p i<n
 nd:∀i j,i<n->j<n->at' p i=at' p j->i=j
theorem aK(p:Array Nat)(i:Nat):at' p i=(p[i]?).getD 0:=by
 unfold at'
 by_cases h:i<p.size
 .simp[Array.getD,h]
 .simp[Array.getD,h]
def EG(lt:Nat->Nat->Bool)(p:Array Nat)(k:Nat):Prop:=∀i j,i<j->j<k->lt (at' p i) (at' p j)=true
def QF(lt:Nat->Nat->Bool)(p:Array Nat)(k:Nat):Prop:=∀i j,i<j->j<k->lt (at' p j) (at' p i)=true
theorem m7(o:Ord lt n){p:Array Nat}(P:Pm p n):∀(f m:Nat) (Q:Nat->Prop),1<=m->m+f<=n->EG lt p m->(∀m',m<=m'->m'<=m+f->EG lt p m'->(m'<m+f->lt (at' p m') (at' p (m' - 1))=true)->Q m')->pw lt n (kas_asc p f m) Q
 |0,m,Q,_,_,ha,h=>h m (aam _) (aam _) ha λz=>absurd z (abd _)
 |f+1,m,Q,h1,hm,ha,h=>by
  refine⟨P.lt _ (by omega),P.lt _ (by omega),λz=>(by have:=P.nd _ _ (by omega) (by omega) z;omega),?_⟩
  cases c:lt (p.getD m 0) (p.getD (m - 1) 0)with
  |true=>
   show Q m
   exact h m (aam _) (by omega) ha λ_=>c
  |false=>
   show pw lt n (kas_asc p f (m+1)) Q
   have e:lt (at' p (m - 1)) (at' p m)=true:=o.tot _ _ (P.lt _ (by omega)) (P.lt _ (by omega)) (λz=>by have:=P.nd _ _ (by omega) (by omega) z;omega) c
   refine m7 o P f (m+1) Q (by omega) (by omega) (λi j AR hj=>?_) λm' a b c d=>h m' (by omega) (by omega) c λz=>d (by omega)
   by_cases ej:j=m
   .subst ej
    by_cases ei:i=j - 1
    .subst ei;exact e
    .exact o.tr _ (at' p (j - 1)) _ (P.lt _ (by omega)) (P.lt _ (by omega)) (P.lt _ (by omega)) (ha i (j - 1) (by omega) (by omega)) e
   .exact ha i j AR (by omega)
theorem oH(o:Ord lt n){p:Array Nat}(P:Pm p n):∀(f m:Nat) (Q:Array Nat×Nat×Nat->Prop),1<=m->m+f<=n->QF lt p m->(∀m',m<=m'->m'<=m+f->QF lt p m'->Q (p,m',0))->pw lt n (kas_desc f p m 0) Q
 |0,m,Q,_,_,ha,h=>h m (aam _) (aam _) ha
 |f+1,m,Q,h1,hm,ha,h=>by
  refine⟨P.lt _ (by omega),P.lt _ (by omega),λz=>(by have:=P.nd _ _ (by omega) (by omega) z;omega),?_⟩
  cases c:lt (p.getD m 0) (p.getD (m - 1) 0)with
  |true=>
   show pw lt n (if 0 > 0 then kas_desc f (aeb p (m - (0+1)) m) (m+1) 0 else kas_desc f p (m+1) 0) Q
   rw[if_neg (abd 0)]
   refine oH o P f (m+1) Q (by omega) (by omega) (λi j AR hj=>?_) λm' a b c=>h m' (by omega) (by omega) c
   by_cases ej:j=m
   .subst ej
    by_cases ei:i=j - 1
    .subst ei;exact c
    .exact o.tr _ (at' p (j - 1)) _ (P.lt _ (by omega)) (P.lt _ (by omega)) (P.lt _ (by omega)) c (ha i (j - 1) (by omega) (by omega))
   .exact ha i j AR (by omega)
  |false=>
   have e:lt (at' p (m - 1)) (at' p m)=true:=o.tot _ _ (P.lt _ (by omega)) (P.lt _ (by omega)) (λz=>by have:=P.nd _ _ (by omega) (by omega) z;omega) c
   show pw lt n (KasT.ask (p.getD (m - 1) 0) (p.getD m 0) _) Q
   refine⟨P.lt _ (by omega),P.lt _ (by omega),λz=>(by have:=P.nd _ _ (by omega) (by omega) z;omega),?_⟩
   rw[show lt (p.getD (m - 1) 0) (p.getD m 0)=true from e]
   exact h m (aam _) (by omega) ha
theorem lR{p:Array Nat}{m i:Nat}(hm:m<=p.size)(hi:i<m):at' (aeb p 0 m) i=at' p (m - 1 - i):=by
 rw[aK,aK]
 unfold aeb
 rw[getElem?_mirror hm _ (by omega)]
 have e:0+m - 1 - i=m - 1 - i:=by omega
 split
 .rw[e]
 .rename_i h
  have:i=m - 1 - i:=by omega
  rw[<- this]
theorem ur{p:Array Nat}{m i:Nat}(hm:m<=p.size)(hi:m<=i):at' (aeb p 0 m) i=at' p i:=by
 rw[aK,aK]
 unfold aeb
 rw[getElem?_mirror hm _ (by omega),if_neg (by omega)]
theorem wg{p:Array Nat}{m:Nat}(P:Pm p n)(hm:m<=n):Pm (aeb p 0 m) n:=by
 have hs:m<=p.size:=by rw[P.sz];exact hm
 have key:∀i,i<n->∃i',i'<n/\at' (aeb p 0 m) i=at' p i'/\((i<m/\i'=m - 1 - i)\/(m<=i/\i'=i)):=λi hi=>by
  by_cases h:i<m
  .exact⟨m - 1 - i,by omega,lR hs h,.inl ⟨h,rfl⟩⟩
  .exact⟨i,hi,ur hs (by omega),.inr ⟨by omega,rfl⟩⟩
 refine⟨by unfold aeb;rw[mirror_size];exact P.sz,λi hi=>?_,λi j hi hj e=>?_⟩
 .obtain⟨i',h1,h2,_⟩:=key i hi
  rw[h2];exact P.lt i' h1
 .obtain⟨i',h1,h2,h3⟩:=key i hi
  obtain⟨j',k1,k2,k3⟩:=key j hj
  rw[h2,k2]at e
  have:=P.nd _ _ h1 k1 e
  omega
theorem rZ(o:Ord lt n){p:Array Nat}(P:Pm p n){m:Nat}{Q:Nat×Array Nat->Prop}(h1:1<=m)(hm:m<=n)(hd:QF lt p m)(h:∀m' q,1<=m'->m'<=n->Pm q n->EG lt q m'->Q (m',q)):pw lt n (kas_tail3 m n p) Q:=by
 refine pw_bind _ ?_
 have P':=wg P hm
 have hs:m<=p.size:=by rw[P.sz];exact hm
 refine m7 o P' _ _ _ h1 (by omega) (λi j AR hj=>?_) λm' a b c _=>h m' _ (by omega) (by omega) P' c
 rw[lR hs (by omega),lR hs hj]
 exact hd _ _ (by omega) (by omega)
theorem tN(o:Ord lt n){p:Array Nat}(P:Pm p n)(h2:2<=n){Q:Nat×Array Nat->Prop}(h:∀m q,1<=m->m<=n->Pm q n->EG lt q m->Q (m,q)):pw lt n (kas_count n p) Q:=by
 refine pw_bind _ ?_
 refine m7 o P _ _ _ (aam 1) (by omega) (λi j AR hj=>by omega) λm a b c d=>?_
 by_cases e:(m==n)=true
 .rw[if_pos e]
  exact h m p (by omega) (by omega) P c
 .rw[if_neg e]
  have hne:m≠n:=λz=>e (by simp[z])
  by_cases hm:m > 1
  .rw[if_pos hm]
   refine⟨P.lt _ (by omega),P.lt _ (by omega),λz=>(by have:=P.nd _ _ (by omega) (by omega) z;omega),?_⟩
   rw[show lt (p.getD 0 0) (p.getD (m - 1) 0)=true from c 0 (m - 1) (by omega) (by omega)]
   exact h m p (by omega) (by omega) P c
  .rw[if_neg hm]
   have Pu:m=1:=by omega
   subst Pu
   refine pw_bind _ ?_
   have d1:lt (at' p 1) (at' p (1 - 1))=true:=d (by omega)
   refine oH o P _ _ _ (by omega) (by omega) (λi j AR hj=>?_) λm' a b hd=>?_
   .have:i=0:=by omega
    have:j=1:=by omega
    subst i j
    exact d1
   .show pw lt n (if 0 > 0 then kas_tail3 m' n (aeb p (m' - (0+1)) m')else kas_tail3 m' n p) Q
    rw[if_neg (abd 0)]
    exact rZ o P (by omega) (by omega) hd h
theorem iM(o:Ord lt n){p:Array Nat}(P:Pm p n){k:Nat}(hk:k<n)(ha:EG lt p k):∀(f l r:Nat) (Q:Nat->Prop),l<=r->r<=k->r<=l+f->(∀i,i<l->lt (at' p i) (at' p k)=true)->(∀i,r<=i->i<k->lt (at' p k) (at' p i)=true) ->
  (∀l',l'<=k->(∀i,i<l'->lt (at' p i) (at' p k)=true)->(∀i,l'<=i->i<k->lt (at' p k) (at' p i)=true)->Q l')->pw lt n (kas_place p k f l r) Q
 |0,l,r,Q,hl,hr,hf,h1,h2,h=>by
  have:l=r:=by omega
  subst this
  exact h l hr h1 h2
 |f+1,l,r,Q,hl,hr,hf,h1,h2,h=>by
  unfold kas_place
  by_cases Rh:l ≥ r
  .rw[if_pos Rh]
   have:l=r:=by omega
   subst this
   exact h l hr h1 h2
  .rw[if_neg Rh]
   have hm:(l+r) / 2<k:=by omega
   refine⟨P.lt _ hk,P.lt _ (by omega),λz=>(by have:=P.nd _ _ hk (by omega) z;omega),?_⟩
   cases c:lt (p.getD k 0) (p.getD ((l+r) / 2) 0)with
   |true=>
    show pw lt n (kas_place p k f l ((l+r) / 2)) Q
    refine iM o P hk ha f l _ Q (by omega) (by omega) (by omega) h1 (λi hi Rn=>?_) h
    by_cases e:i=(l+r) / 2
    .subst e;exact c
    .exact o.tr _ (at' p ((l+r) / 2)) _ (P.lt _ hk) (P.lt _ (by omega)) (P.lt _ (by omega)) c (ha _ _ (by omega) Rn)
   |false=>
    show pw lt n (kas_place p k f ((l+r) / 2+1) r) Q
    have e:lt (at' p ((l+r) / 2)) (at' p k)=true:=o.tot _ _ (P.lt _ hk) (P.lt _ (by omega)) (λz=>by have:=P.nd _ _ hk (by omega) z;omega) c
    refine iM o P hk ha f _ r Q (by omega) hr (by omega) (λi hi=>?_) h2 h
    by_cases e':i=(l+r) / 2
    .subst e';exact e
    .exact o.tr _ (at' p ((l+r) / 2)) _ (P.lt _ (by omega)) (P.lt _ (by omega)) (P.lt _ hk) (ha _ _ (by omega) (by omega)) e
theorem gA{p:Array Nat}{k l i:Nat}(hk:k<p.size)(hl:l<=k):at' (bubble p k (k - l)) i=if i=l then at' p k else if l<i/\i<=k then at' p (i - 1)else at' p i:=by
 rw[aK]
 rw[getElem?_bubble hk (k - l) (by omega)]
 have e:k - (k - l)=l:=by omega
 rw[e]
 split
 .rw[aK]
 .split
  .rw[aK]
  .rw[aK]
theorem rQ(o:Ord lt n):∀(f k:Nat) (p:Array Nat) (Q:Array Nat->Prop),Pm p n->EG lt p k->k+f=n->(∀q,Pm q n->EG lt q n->Q q)->pw lt n (kas_bin f p k) Q
 |0,k,p,Q,P,ha,hk,h=>by
  have:k=n:=by omega
  subst this
  exact h p P ha
 |f+1,k,p,Q,P,ha,hk,h=>by
  have JR:k<n:=by omega
  have hs:k<p.size:=by rw[P.sz];exact JR
  refine pw_bind _ (iM o P JR ha k 0 k _ (aaU _) (aam _) (by omega) (λi hi=>by omega) (λi hi Rn=>by omega) λl hl h1 h2=>?_)
  refine rQ o f (k+1) _ Q ⟨by rw[bubble_size];exact P.sz,λi hi=>?_,λi j hi hj e=>?_⟩ (λi j AR hj=>?_) (by omega) h
  .rw[gA hs hl]
   split
   .exact P.lt _ JR
   .split
    .exact P.lt _ (by omega)
    .exact P.lt _ hi
  .rw[gA hs hl,gA hs hl]at e
   have P1:=P.nd
   split at e
   .split at e
    .omega
    .split at e
     .have:=P1 _ _ JR (by omega) e;omega
     .have:=P1 _ _ JR (by omega) e;omega
   .split at e
    .split at e
     .have:=P1 _ _ (by omega) JR e;omega
     .split at e
      .have:=P1 _ _ (by omega) (by omega) e;omega
      .have:=P1 _ _ (by omega) (by omega) e;omega
    .split at e
     .have:=P1 _ _ (by omega) JR e;omega
     .split at e
      .have:=P1 _ _ (by omega) (by omega) e;omega
      .have:=P1 _ _ (by omega) (by omega) e;omega
  .rw[gA hs hl,gA hs hl]
   split
   .split
    .omega
    .split
     .exact h2 _ (by omega) (by omega)
     .omega
   .split
    .split
     .omega
     .split
      .exact ha _ _ (by omega) (by omega)
      .omega
    .split
     .exact h1 _ (by omega)
     .split
      .exact ha _ _ (by omega) (by omega)
      .exact ha _ _ AR (by omega)
theorem jQ(o:Ord lt n)(h2:2<=n){Q:Array Nat->Prop}(h:∀p,Pm p n->EG lt p n->Q p):pw lt n (kas_sort n) Q:=by
 have P0:Pm (ac9 (aaS n)) n:=by
  have e:∀i,i<n->at' (ac9 (aaS n)) i=i:=λi hi=>by rw[aK];simp[hi]
  refine⟨by simp,λi hi=>by rw[e i hi];exact hi,λi j hi hj q=>by rw[e i hi,e j hj]at q;exact q⟩
 refine pw_bind _ (tN o P0 h2 λm q h1 hm P ha=>?_)
 show pw lt n (if m<n then kas_bin (n - max m 1) q (max m 1)else .ret q) Q
 by_cases e:m<n
 .rw[if_pos e]
  have em:max m 1=m:=by omega
  rw[em]
  exact rQ o _ _ _ _ P ha (by omega) h
 .rw[if_neg e]
  have:m=n:=by omega
  subst this
  exact h q P ha
end
theorem pw_wp{lt:Nat->Nat->Bool}{n:Nat}{cmp:Nat->Nat->(Bool->Shared->Prop)->Shared->Prop}{Q:α->Prop}{QQ:α->Shared->Prop}{J:Shared->Prop}
  (hc:∀i j C s,i<n->j<n->i≠j->J s->(∀s',J s'->C (lt i j) s')->cmp i j C s) (hq:∀a s,J s->Q a->QQ a s):∀(t:KasT α) (s:Shared),J s->pw lt n t Q->t.kasWp cmp QQ s
 |.ret a,s,hj,h=>hq a s hj h
 |.ask i j k,s,hj,h=>hc i j _ s h.1 h.2.1 h.2.2.1 hj λs' Bn=>pw_wp hc hq (k (lt i j)) s' Bn h.2.2.2
end Srt
namespace L2
open PySem PySem.Spec PyProof.Rows
theorem o4{ss:List Str}:∀{us:List Value},tO (ss.map V.str) us->StrsAre us ss:=by
 induction ss with
 |nil=>intro us r;cases r;exact .nil
 |cons x r ih=>
  intro us h
  cases h with
  |cons h1 h2=>
   obtain⟨t,rfl⟩:=h1
   exact .cons x t (ih h2)
theorem fO:∀{us:List Value} {ss:List Str},StrsAre us ss->tO (ss.map V.str) us
 |_,_,.nil=>.nil
 |_,_,.cons x t h=>.cons ⟨t,rfl⟩ (fO h)
def yL(a b:Str):Prop:=a.cps.toList<b.cps.toList
instance (a b:Str):Decidable (yL a b):=inferInstanceAs (Decidable (a.cps.toList<b.cps.toList))
theorem ie:∀(l:List Str) (p:Str),risingS p l=true->(∀y∈l,¬ yL y p)/\l.Pairwise (λa b=>¬ yL b a)
 |[],p,_=>⟨(λ_ h=>nomatch h),aeA⟩
 |x::r,p,h=>by
  have h':(!ltCps x.cps.toList p.cps.toList && risingS x r)=true:=h
  rw[aa2]at h'
  obtain⟨h1,h2⟩:=h'
  have hx:¬ yL x p:=by
   unfold yL
   rw[ltCps_eq]at h1
   simpa using h1
  obtain⟨a,b⟩:=ie r x h2
  refine⟨λy hy=>?_,List.pairwise_cons.mpr ⟨a,b⟩⟩
  rcases List.mem_cons.mp hy with rfl|hy
  .exact hx
  .intro z
   have:=a y hy
   unfold yL at *
   exact hx (List.lt_of_le_of_lt (List.not_lt.mp this) z)
theorem ia{l:List Str}(h:sortedS l=true):l.Pairwise (λa b=>¬ yL b a):=by
 cases l with
 |nil=>exact aeA
 |cons x r=>
  obtain⟨a,b⟩:=ie r x h
  exact List.pairwise_cons.mpr ⟨a,b⟩
variable{X:Cx}
def Jp(K:aag):List V->Hp->VK->Prop:=λxs H Q=>∃(p:Addr) (ss:List Str),xs=[.ref p]/\zp K H p (ss.map V.str)/\ss.length<64 /\
 ∀(l:Addr) (CT:List Str),H l=none->CT.Perm ss->CT.Pairwise (λa b=>¬ yL b a)->Q (.ref l) (upd H l (.lst (CT.map V.str)))
theorem pQ:yq X (.builtin "sorted") (Jp X.K):=by
 intro pins s σ H xs us Q I r h
 obtain⟨p,ss,rfl,hq,zO,k⟩:=h
 obtain⟨u,rfl,ru⟩:=r.one
 cases ru
 obtain⟨gE,rv,pl,hz⟩:=I.list hq
 have hS:=o4 rv
 have hl:=rv.length
 rw[aae]at hl
 refine sorted_strs pl.isList hS (by omega) λout CT a1 a2 a3=>?_
 obtain⟨e,he⟩:=sortedAll_at s.heap gE out
 have hn:H (s.heap.objs.size+1)=none:=I.ye.fresh (ae5 _)
 refine⟨.ref (s.heap.objs.size+1),_,I.laid (t':=s.toks) (a:=s.heap.objs.size+1) (o:=.lst (CT.map V.str)) (λb o q=>sortedAll_old q) (ae5 _) ?_,rfl,k _ CT hn a2 (ia a3)⟩
 refine⟨by rw[aae,a2.length_eq,aax];omega,out.toList,e,fO a1,?_⟩
 rw[Array.toArray_toList]
 exact he
variable{prog:aaE}{w:World}{A:Around}{E:Value->Shared->Prop}{s:Shared}
def db(vs:List Value):Sem PySem.Fin:=do
 let l <- newList vs
 let _ <- acQ [l] (call (.builtin "list.sort") [l] [])
 ret l
variable{x:Value}{vs:List Value}{Q:Value->Shared->Prop}
theorem qi(hc:∀R:List Value->Shared->Prop,(∀h1 tk,(∀b o,s.heap.get? b=some o->h1.get? b=some o)->R vs {s with heap:=h1,toks:=tk})->wpAny (model prog w) A.in1 (collect x) R E s)
  (h:∀h1 tk,(∀b o,s.heap.get? b=some o->h1.get? b=some o)->wpAny (model prog w) A.in1 (db vs) (λfin s'=>∃v,fin=.done (.ret v)/\Q v s') E {s with heap:=h1,toks:=tk}):wpAny (model prog w) A (call (.builtin "sorted") [x]) Q E s:=by
 refine afi aeX aeD aeE (args_sorted1 _) (?_:wpAny (model prog w) A.in1 (ac6.«sorted» ⟨[x],[]⟩) _ _ s)
 unfold ac6.«sorted»
 exact aab (m:=checkCount "sorted" 1 1 _) (aaj (aab (hc _ λh1 tk kk=>h h1 tk kk)))
theorem o6(h2:vs.length<2)(h:∀h' e,(∀b o,s.heap.get? b=some o->h'.get? b=some o)->h'.get? s.heap.objs.size=some (seqObj "list" vs.toArray e)->Q (.ref s.heap.objs.size) {s with heap:=h'}):
  wpAny (model prog w) A (db vs) (λfin s'=>∃v,fin=.done (.ret v)/\Q v s') E s:=by
 have hz:vs.length<=sizeLine:=by rw[aax];omega
 unfold db
 refine aab (ach ?_ hz)
 have DX:(s.heap.push (seqObj "list" vs.toArray 0)).get? s.heap.objs.size=some (seqObj "list" vs.toArray 0):=aal _ rfl
 refine(?_:wpAny _ _ _ _ _ {s with heap:=s.heap.push (seqObj "list" vs.toArray 0)})
 generalize Tx:s.heap.push (seqObj "list" vs.toArray 0)=hB at DX ⊢
 have kB:∀b o,s.heap.get? b=some o->hB.get? b=some o:=λb o e=>by rw[<- Tx];exact aad _ e
 refine aab (aaT (abJ adb ⟨_,DX,rfl⟩ acZ ?body (afe _)))
 case body=>
  rw[list_sort_plain]
  obtain⟨e1,JK⟩:∃e1,(hB.update s.heap.objs.size (aa1 λ_=>#[])).get? s.heap.objs.size=some (seqObj "list" #[] e1):=⟨_,abF DX λ_=>#[]⟩
  refine aab (adO DX rfl (aab (ab5 DX rfl ?_ (by rw[aaf];exact hz) (aaU _))))
  refine aab (ady JK rfl (aab (ad5 ?_ (by show vs.length<=_;exact hz))))
  refine aab (ach (aaT ?_) (aaU _))
  have Pq:(((hB.update s.heap.objs.size (aa1 λ_=>#[])).push (seqObj "tuple" vs.toArray 0)).push (seqObj "list" #[] 0)).get? s.heap.objs.size=some (seqObj "list" #[] e1) :=
   aad _ (aad _ JK)
  refine(?_:wpAny (model prog w) _ _ _ _ {s with heap:=((hB.update s.heap.objs.size (aa1 λ_=>#[])).push (seqObj "tuple" vs.toArray 0)).push (seqObj "list" #[] 0)})
  dsimp only
  have y6:vs.toArray.size<2:=by rw[aaf];exact h2
  rw[if_pos y6,if_pos y6]
  refine aab (aaj ?_)
  rw[ae1]
  refine aab (aaj ?_)
  dsimp only
  have eo:(arrOf (adn general' (vs.toArray.zip vs.toArray) #[] 7 none)).map (·.2)=vs.toArray:=by
   show (vs.toArray.zip vs.toArray).map (·.2)=vs.toArray
   apply Array.ext
   .simp
   .intro i h1 h2
    simp
  rw[eo]
  refine aab (ady Pq rfl (aab (ab5 Pq rfl ?_ (aaU _) (by rw[aaf];first|exact hz|exact Nat.le_succ_of_le hz))))
  simp only[bne_self_eq_false,ab8,if_false]
  refine aaj ⟨_,rfl,aaj ⟨_,rfl,h _ _ (λb o e=>?_) (abF Pq λ_=>vs.toArray)⟩⟩
  have hb:b≠s.heap.objs.size:=aaw (aak e)
  rw[aef _ _ _ _ hb]
  refine aad _ (aad _ ?_)
  rw[aef _ _ _ _ hb]
  exact kB b o e
variable{pins:List (Addr×Obj)}{σ:St}{H:Hp}
variable{h:Heap}{a:Addr}
theorem wL{m m':Str->Option Value}(x:h.Ns a m)(y:h.Ns a m'):m=m':=by
 obtain⟨o,es,ep,ho,hd,_,hm⟩:=x
 obtain⟨o',NV,NW,Di,JW,_,JN⟩:=y
 rw[ho]at Di;cases Di
 rw[hd]at JW;cases JW
 funext n
 rw[<- hm n,<- JN n]
variable{P:aaE}{o:HO}
theorem yk.there(x:yk P w H h a o):∃u,h.get? a=some u:=by
 cases o with
 |lst xs=>obtain⟨_,_,_,_,e⟩:=x;exact⟨_,e⟩
 |tup xs=>obtain⟨_,_,_,o,e,_⟩:=x;exact⟨_,e⟩
 |dK kvs=>obtain⟨_,_,_,_,o,_,_,e,_⟩:=x;exact⟨_,e⟩
 |dT kvs=>obtain⟨_,_,_,_,o,_,_,e,_⟩:=x;exact⟨_,e⟩
 |set S n=>obtain⟨o,_,_,_,e,_⟩:=x;exact⟨_,e⟩
 |ins C dx fs=>obtain⟨_,_,_,e,_⟩:=x;exact⟨_,e⟩
 |own y=>exact x
 |xd fs=>obtain⟨_,⟨_,_,_,e,_⟩,_⟩:=x;exact⟨_,e⟩
 |Nw lo hi=>obtain⟨_,_,_,e⟩:=x;exact⟨_,e⟩
 |Ay ob u=>obtain⟨e,_⟩:=x;exact⟨_,e⟩
 |Ib ps=>exact⟨_,show h.get? a=some _ from x⟩
 |met f y=>exact⟨_,show h.get? a=some _ from x⟩
 |ext φ=>obtain⟨_,e,_⟩:=x;exact e
theorem AA.dead(x:AA P w H h)(e:h.get? a=none):H a=none:=by
 cases q:H a with
 |none=>rfl
 |some u=>
  obtain⟨o,z⟩:=(x a u q).there
  rw[e]at z;cases z
variable{h':Heap}{xs:List V}
theorem Inv.Ir{D:Addr}{m:Str->Option Value}(I:Inv X pins σ H s)(hm:s.heap.Ns X.env.locals m)(JN:h'.Ns X.env.locals m)(k:∀b o,b≠X.env.locals->s.heap.get? b=some o->h'.get? b=some o)
  (hD:s.heap.get? D=none) (new:yk X.prog X.w (upd H D (.lst xs)) h' D (.lst xs)):Inv X pins σ (upd H D (.lst xs)) {s with heap:=h'}:=by
 have fr:H D=none:=I.ye.dead hD
 have nD:∀b o,s.heap.get? b=some o->b≠D:=λb o e z=>by rw[z,hD]at e;cases e
 have nt:∀b u,H b=some u->b≠D:=λb u e=>av e fr
 have Q3:∀b u,H b=some u->b≠X.env.locals:=λb u e=>av e I.free
 refine I.step (g':=s.gens) (d':=s.drawn) (t':=s.toks) (ch:=[]) (λ_ z=>nomatch z) (λb o hb _ _ e _=>k b o hb e) (λb o hb _ _ e _=>⟨o.slots,k b o hb e⟩) (λb o _ e n=>by rw[af (nD b o e)];exact n)
  (λb o _ e=>?_) (λb ys e=>by rw[af (nt b _ e)];exact e) (λb o u e=>by rw[af (nt b _ e)];exact e) (λb ps e=>⟨#[],by rw[af (nt b _ e),e];simp⟩) (λm2 h2=>by rw[wL h2 hm];exact JN) (λb u e=>?_) I.bare
 .by_cases hb:b=X.env.locals
  .subst hb
   obtain⟨o',_,_,Di,_⟩:=JN
   exact⟨o',Di⟩
  .exact⟨o,k b o hb e⟩
 .by_cases hb:b=D
  .subst hb
   rw[ai]at e
   cases e
   exact new
  .rw[af hb]at e
   refine(I.ye b u e).BV (λc v hc q=>k c v ?_ q) (λc q=>by rw[af (nt c _ q)];exact q) λc ys q=>by rw[af (nt c _ q)];exact q
   rcases hc with z|z
   .rw[z];exact Q3 b u e
   .exact Q3 c _ z
structure Rows(K:aag)(H:Hp)(vs:List V)(nm:List Str):Prop where
 len:vs.length=nm.length
 row:∀(i:Nat) (v:V) (x:Str),vs[i]?=some v->nm[i]?=some x->∃a r,v=.ref a/\zg K H a (.str x::r)
 nd:nm.Nodup
def Jq(K:aag):List V->Hp->VK->Prop:=λxs H Q=>∃p vs nm,xs=[.ref p]/\zp K H p vs/\vs.length<64/\Rows K H vs nm /\
 ∀l (ix:List Nat),H l=none->ix.length=vs.length->ix.Nodup->(∀i∈ix,i<vs.length)->(ix.map λi=>nm.getD i ⟨#[]⟩).Pairwise yL->Q (.ref l) (upd H l (.lst (ix.map λi=>vs.getD i .lT)))
variable{us:List Value}
theorem tO.pick(r:tO xs us):∀(ix:List Nat),(∀i∈ix,i<xs.length)->tO (ix.map λi=>xs.getD i .lT) (ix.map λi=>us.getD i aaO)
 |[],_=>.nil
 |i::ix,h=>by
  refine .cons ?_ (tO.pick r ix λj hj=>h j (aar _ hj))
  have hi:=h i aay
  have e:xs[i]?=some (xs[i]):=by simp[hi]
  obtain⟨u,hu,ru⟩:=r.get e
  have e1:xs.getD i .lT=xs[i]:=by simp[hi]
  have e2:us.getD i aaO=u:=by rw[aac,hu];rfl
  show RelV (xs.getD i .lT) (us.getD i aaO)
  rw[e1,e2]
  exact ru
variable{gE:List Value}
theorem r9{vs:List V}{nm:List Str}{Q:VK}(I:Inv X pins σ H s)(rv:tO vs gE)(hz:gE.length<=sizeLine)(zO:vs.length<64)(R:Rows X.K H vs nm)
  (k:∀l (ix:List Nat),H l=none->ix.length=vs.length->ix.Nodup->(∀i∈ix,i<vs.length)->(ix.map λi=>nm.getD i ⟨#[]⟩).Pairwise yL->Q (.ref l) (upd H l (.lst (ix.map λi=>vs.getD i .lT)))) :
  wpAny (model X.prog X.w) A (db gE) (λfin s'=>∃v,fin=.done (.ret v)/\∃x H',Inv X pins σ H' s'/\RelV x v/\Q x H') E s:=by
 have hl:=rv.length
 by_cases h2:gE.length<2
 .refine o6 h2 λh' e kk he=>?_
  have hn:H s.heap.objs.size=none:=I.ye.fresh (aam _)
  have ei:(aaS vs.length).map (λi=>vs.getD i V.lT)=vs:=by
   apply acx
   intro i
   rw[aah]
   by_cases hi:i<vs.length
   .rw[abX hi];simp[hi]
   .rw[aaq (by simpa using hi),aaq (by omega)];rfl
  have q:=k s.heap.objs.size (aaS vs.length) hn (by simp) acR (λi hi=>List.mem_range.mp hi) (by
   match hv:vs.length,hl with
   |0,_=>simp
   |1,_=>simp[adS]
   |n+2,hl=>omega)
  rw[ei]at q
  exact⟨.ref s.heap.objs.size,_,I.laid (t':=s.toks) (a:=s.heap.objs.size) (o:=.lst vs) kk (aam _) ⟨by rw[hl];exact hz,gE,e,rv,he⟩,rfl,q⟩
 .obtain⟨m,F⟩:=I.fr
  unfold db
  refine aab (ach ?_ hz)
  have DX:(s.heap.push (seqObj "list" gE.toArray 0)).get? s.heap.objs.size=some (seqObj "list" gE.toArray 0):=aal _ rfl
  have hL:X.env.locals<s.heap.objs.size:=F.ns.lt
  refine aab (aaT (abJ adb ⟨_,DX,rfl⟩ acZ ?body (afe _)))
  refine PySem.W.kat_list_sort (s:={s with heap:=s.heap.push (seqObj "list" gE.toArray 0)}) (F.kept λb o e=>aad _ e) ((iR (g:=X.base) (h:=s.heap) (L:=X.env.locals)).grown λb o e=>aad _ e) DX (abQ hL)
   (Heap.get?_none_of_le (aaZ F.above (aeG hL))) (λp hp=>aaw (aak ((iR (g:=X.base) (h:=s.heap) (L:=X.env.locals)) p hp).1)) (by omega) (by omega) λe1 h' F' N'=>?_
  have hD:∀q∈gZ X.base s.heap X.env.locals,q.1<s.heap.objs.size:=λq hq=>aak ((iR (g:=X.base) (h:=s.heap) (L:=X.env.locals)) q hq).1
  generalize UR:s.heap.objs.size=D at hD N' ⊢
  have Mi:∀b o,b≠X.env.locals->s.heap.get? b=some o->h'.get? b=some o:=λb o hb e=>by
   cases q:X.base.get? b with
   |some ob=>
    have:=I.bk b ob q
    rw[e]at this;cases this
    exact F'.keep b _ q
   |none=>exact(N' (b,o) (aar _ (dU hb q e))).1
  have Tt:∀b o,b≠X.env.locals->X.base.get? b=none->s.heap.get? b=some o->b<D:=λb o hb hn e=>hD (b,o) (dU hb hn e)
  have rowAt:∀i,i<gE.length->∃a ob vv x t n,gE.getD i aaO=.ref a/\h'.get? a=some ob/\ob.cls=.type "tuple" /\ ob.data=.seq vv n/\vv[0]?=some (.str x t)/\nm[i]?=some x/\s.heap.get? a=some ob:=λi hi=>by
   have Cc:i<vs.length:=by omega
   have e:vs[i]?=some vs[i]:=by simp[Cc]
   obtain⟨u,hu,ru⟩:=rv.get e
   have Dx:i<nm.length:=by rw[<- R.len];exact Cc
   have en:nm[i]?=some nm[i]:=by simp[Dx]
   obtain⟨a,rr,ev,ha⟩:=R.row i _ _ e en
   rw[ev]at ru
   cases ru
   obtain⟨RW,tv,⟨ob,Fi,hc,n,hd⟩,z1⟩:=I.tuple ha
   cases tv with
   |cons t1 t2=>
    obtain⟨t,rfl⟩:=t1
    refine⟨a,ob,_,nm[i],t,n,by rw[aac,hu];rfl,Mi a ob ?_ Fi,hc,hd,by simp,en,Fi⟩
    rintro rfl
    obtain⟨m,⟨o2,es,ep,g1,g2,_⟩,_⟩:=I.loc
    rw[Fi]at g1;cases g1
    rw[hd]at g2;cases g2
  have Cq:PySem.W.KatTups h' gE ((aaS gE.length).map λi=>match gE.getD i aaO with|.ref a=>(match h'.get? a with|some ob=>(match ob.data with|.seq vv _=>(vv[0]?).getD .none|_=>.none)|none=>.none)|_=>.none):=by
   have go:∀(us:List Value) (f:Nat->Value) (k0:Nat),(∀i,i<us.length->∃a ob vv n,us.getD i aaO=.ref a/\h'.get? a=some ob/\ob.cls=.type "tuple" /\ ob.data=.seq vv n/\vv[0]?=some (f (k0+i))) ->
     PySem.W.KatTups h' us ((aaS us.length).map λi=>f (k0+i)):=by
    intro us
    induction us with
    |nil=>intro f k0 _;exact trivial
    |cons u us ih=>
     intro f k0 hh
     obtain⟨a,ob,vv,n,e1,e2,e3,e4,e5⟩:=hh 0 (by simp)
     have MQ:u=.ref a:=by simpa using e1
     subst MQ
     rw[aaR,List.range_succ_eq_map,aau,aaG]
     refine⟨⟨a,ob,vv,n,rfl,e2,e3,e4,e5⟩,?_⟩
     have:=ih f (k0+1) λi hi=>by
      obtain⟨a,ob,vv,n,e1,e2,e3,e4,e5⟩:=hh (i+1) (by simpa using hi)
      exact⟨a,ob,vv,n,by simpa using e1,e2,e3,e4,by rw[show k0+1+i=k0+(i+1)by omega];exact e5⟩
     have ef:(λi=>f (k0+i)) ∘ Nat.succ=λi=>f (k0+1+i):=by
      funext i
      show f (k0+(i+1))=f (k0+1+i)
      rw[show k0+(i+1)=k0+1+i by omega]
     rw[ef]
     exact this
   have:=go gE (λi=>match gE.getD i aaO with|.ref a=>(match h'.get? a with|some ob=>(match ob.data with|.seq vv _=>(vv[0]?).getD .none|_=>.none)|none=>.none)|_=>.none) 0 λi hi=>by
    obtain⟨a,ob,vv,x,t,n,e1,e2,e3,e4,e5,_⟩:=rowAt i hi
    refine⟨a,ob,vv,n,e1,e2,e3,e4,?_⟩
    rw[aaY,e1,e5]
    simp only[e2,e4,e5]
    rfl
   simpa using this
  refine PySem.W.kat_kind (T:=.type "str") Cq (by rw[aae,adr];omega) (λv hv=>?_) rfl ?_
  .obtain⟨i,hi,rfl⟩:=List.mem_map.mp hv
   obtain⟨a,ob,vv,x,t,n,e1,e2,e3,e4,e5,_⟩:=rowAt i (List.mem_range.mp hi)
   rw[e1]
   simp only[e2,e4,e5]
   exact PySem.W.Looks.of_pure rfl
  .-- the questions
   have hT:((abS "str") != (abS "tuple"))=true:=by decide
   rw[hT]
   let lt:Nat->Nat->Bool:=λi j=>decide (yL (nm.getD i ⟨#[]⟩) (nm.getD j ⟨#[]⟩))
   have MR:∀i j,i<gE.length->j<gE.length->(nm.getD i ⟨#[]⟩).cps.toList=(nm.getD j ⟨#[]⟩).cps.toList->i=j:=λi j hi hj e=>by
    have Cc:i<nm.length:=by rw[<- R.len];omega
    have Bn:j<nm.length:=by rw[<- R.len];omega
    have e':nm.getD i ⟨#[]⟩=nm.getD j ⟨#[]⟩:=by
     generalize nm.getD i ⟨#[]⟩=x at e ⊢
     generalize nm.getD j ⟨#[]⟩=y at e ⊢
     obtain⟨x⟩:=x
     obtain⟨y⟩:=y
     exact congrArg Str.mk (Array.toList_inj.mp e)
    rw[aac,aac,aaa Cc,aaa Bn]at e'
    exact(abh R.nd).mp e'
   have o:Srt.Ord lt gE.length:=by
    refine⟨λi _=>?_,λi j k _ _ _ a b=>?_,λi j hi hj ne e=>?_⟩
    .show decide _=false
     simp[yL,ad8]
    .have a':=of_decide_eq_true a
     have b':=of_decide_eq_true b
     exact decide_eq_true (List.lt_trans (show _<_ from a') b')
    .have e':=of_decide_eq_false e
     refine decide_eq_true ?_
     unfold yL at e' ⊢
     rcases aa4 0 0 with z|_
     .omega
     .have le:=List.not_lt.mp e'
      rcases List.le_iff_lt_or_eq.mp le with z|z
      .exact z
      .exact absurd (MR j i hj hi z).symm ne
   refine Srt.pw_wp (lt:=lt) (n:=gE.length) (Q:=λp=>Srt.Pm p gE.length/\Srt.EG lt p gE.length) (J:=λs'=>s'={s with heap:=h'}) ?_ ?_ (PySem.W.kas_sort gE.length) _ rfl (Srt.jQ o (by omega) λp a b=>⟨a,b⟩)
   .rintro i j C s' hi hj ne rfl hC
    obtain⟨a,ob,vv,x,t,n,e1,e2,e3,e4,e5,e6,_⟩:=rowAt i hi
    obtain⟨a',UE,IP,x',t',n',f1,f2,f3,f4,f5,f6,_⟩:=rowAt j hj
    show wpAny _ _ (keyLt' (ada true) (gE.getD i aaO) (gE.getD j aaO)) _ _ _
    rw[e1,f1]
    refine PySem.W.kat_lt e2 e4 f2 f4 ?_
    have g1:vv.toList=.str x t::vv.toList.tail:=by
     cases h:vv.toList with
     |nil=>
          have:vv[0]?=vv.toList[0]?:=by simp
          rw[this,h]at e5;cases e5
     |cons y r=>
            have:vv[0]?=vv.toList[0]?:=by simp
            rw[this,h]at e5
            have:y=.str x t:=by simpa using e5
            rw[this];rfl
    have g2:IP.toList=.str x' t'::IP.toList.tail:=by
     cases h:IP.toList with
     |nil=>
          have:IP[0]?=IP.toList[0]?:=by simp
          rw[this,h]at f5;cases f5
     |cons y r=>
            have:IP[0]?=IP.toList[0]?:=by simp
            rw[this,h]at f5
            have:y=.str x' t':=by simpa using f5
            rw[this];rfl
    rw[g1,g2,ab6]
    have d1:nm.getD i ⟨#[]⟩=x:=by rw[aac,e6];rfl
    have d2:nm.getD j ⟨#[]⟩=x':=by rw[aac,f6];rfl
    have hne:x≠x':=λz=>ne (MR i j hi hj (by rw[d1,d2,z]))
    refine PySem.W.kat_cons (aeJ ?_)
    rw[decide_eq_false hne]
    refine PySem.W.kat_no ?_
    show wpAny _ _ (oneLt' true (.str x t) (.str x' t')) _ _ _
    refine oneLt_str ?_
    have:=hC _ rfl
    have el:lt i j=decide (x.cps.toList<x'.cps.toList):=by
     show decide (yL _ _)=_
     rw[d1,d2];rfl
    rw[el]at this
    exact this
   .rintro pa s' rfl ⟨P,As⟩
    refine PySem.W.KasFin.intro F' N' (.head λq hq=>?_) λK0 c F2 N2=>?_
    .exact aaw (hD q hq)
    .have Mh:∀b o,b≠X.env.locals->s.heap.get? b=some o->K0.get? b=some o:=λb o hb e=>by
      cases q:X.base.get? b with
      |some ob=>
       have:=I.bk b ob q
       rw[e]at this;cases this
       exact F2.keep b _ q
      |none=>exact(N2 (b,o) (aar _ (dU hb q e))).1
     have P9:=(N2 _ aay)
     have ML:s.heap.get? D=none:=by
      cases q:s.heap.get? D with
      |none=>rfl
      |some od=>exact absurd (Tt D od P9.2.1 P9.2.2 q) (abd _)
     have MA:∀i∈pa.toList,i<vs.length:=λi hi=>by
      obtain⟨j,hj,rfl⟩:=Array.mem_iff_getElem.mp (Array.mem_toList_iff.mp hi)
      have:=P.lt j (by rw[<- P.sz];exact hj)
      rw[Srt.aK]at this
      simp only[adh hj,acB]at this
      omega
     have q:=k D pa.toList (I.ye.dead ML) (by rw[abe,P.sz];omega) ?_ MA ?_
     .refine⟨_,rfl,aaj ⟨_,rfl,.ref D,_,I.Ir (xs:=pa.toList.map λi=>vs.getD i .lT) F.ns F2.ns Mh ML ⟨?_,pa.toList.map λi=>gE.getD i aaO,c,rv.pick _ MA,P9.1⟩,rfl,q⟩⟩
      rw[aae,abe,P.sz];exact hz
     .rw[ab2,abD]
      intro i j hi hj AR e
      have Cc:i<pa.size:=by simpa using hi
      have Bn:j<pa.size:=by simpa using hj
      have:=P.nd i j (by rw[<- P.sz];exact Cc) (by rw[<- P.sz];exact Bn) (by rw[Srt.aK,Srt.aK];simpa[Cc,Bn]using e)
      omega
     .rw[aex,abD]
      intro i j hi hj AR
      have Cc:i<pa.size:=by simpa using hi
      have Bn:j<pa.size:=by simpa using hj
      have:=As i j AR (by rw[<- P.sz];exact Bn)
      rw[Srt.aK,Srt.aK]at this
      have:=of_decide_eq_true this
      simpa[Cc,Bn]using this
theorem pR:yq X (.builtin "sorted") (Jq X.K):=by
 intro pins s σ H xs us Q I r h
 obtain⟨p,vs,nm,rfl,hq,zO,R,k⟩:=h
 obtain⟨u,rfl,ru⟩:=r.one
 cases ru
 obtain⟨gE,rv,pl,hz⟩:=I.list hq
 refine qi (λR' g=>collect_list pl.isList (g _ s.toks λb o e=>?_) (by rw[<- rv.length];exact hz)) λh1 tk kk=>r9 (I.kept kk) rv (by rw[<- rv.length];exact hz) zO R k
 have hb:b<s.heap.objs.size:=aak e
 rw[aef _ _ _ _ (aaw hb)]
 exact aad _ e
section
open PySem.SeqAt
open PySem.AutoSeq1 (wpAny_loadPart')
open PySem.MeetsSeq PySem.MeetsSeq2 PySem.MeetsSeq3
end
def CV(K:aag):R2:=λx y H Q=>∃a b xs,x=.ref a/\y=.ref b/\zp K H a xs/\zp K H b []/\Q (.bl (!xs.isEmpty)) H
theorem iQ(hu:X.A.units<cLine):zf X (aa9 .NotEq) (CV X.K):=by
 intro pins s σ H x y v u Q I rx ry h
 obtain⟨a,b,xs,rfl,rfl,ha,hb,q⟩:=h
 cases rx
 cases ry
 obtain⟨gE,r1,p1,_⟩:=I.list ha
 obtain⟨zm,r2,p2,_⟩:=I.list hb
 cases r2
 have fin:∀k,k=(!xs.isEmpty)->EP X pins σ Q (.bool k) s:=λk e=>by subst e;exact⟨.bl _,H,I,rfl,q⟩
 cases r1 with
 |nil=>exact SeqAt.RcNeAt.lists (e:=λ_=>true) p1.isList p2.isList rfl hu (λj h1 h2=>absurd h1 (by simp)) X.prog X.w X.xe _ (fin _ rfl)
 |cons _ _=>exact SeqAt.RcNeAt.lists_lengths p1.isList p2.isList (by simp) hu X.prog X.w X.xe _ (fin _ rfl)
def BJ(x:Str)(n:Nat):Str:=⟨(aaC n x.cps.toList).flatten.toArray⟩
def Ii:R2:=λx y H Q=>∃(z:Str) (i:Int),x=.str z/\y=.int i/\0<=i/\i<=1000/\z.length<=1000/\Q (.str (BJ z i.toNat)) H
theorem lr(x:Array Nat):∀(n:Nat) (acc:Array Nat),((aaC n x).foldl (·++·) acc)=acc++(aaC n x.toList).flatten.toArray
 |0,acc=>by simp
 |n+1,acc=>by
  rw[aa6,acJ,lr x n,aa6,abU]
  apply Array.toList_inj.mp
  simp
theorem uf(x:Str)(i:Int)(h:0<=i):Txt.mul x i=BJ x i.toNat:=by
 unfold Txt.mul BJ
 by_cases h1:i<1
 .have:i=0:=by omega
  subst this
  rfl
 .rw[if_neg h1]
  by_cases h2:(i==1 || x.length==0)=true
  .rw[if_pos h2]
   rw[ad0]at h2
   obtain⟨x⟩:=x
   rcases h2 with z|z
   .have:i=1:=by simpa using z
    subst this
    congr 1
    apply Array.toList_inj.mp
    simp
   .have hz:x.size=0:=by simpa[Str.length]using z
    have:x=#[]:=Array.eq_empty_of_size_eq_zero hz
    subst this
    congr 1
    apply Array.toList_inj.mp
    simp
  .rw[if_neg h2,lr]
   congr 1
   simp
theorem uO:zf X (aci .Mult) Ii:=by
 intro pins s σ H x y v u Q I rx ry h
 obtain⟨z,i,rfl,rfl,h0,h1,h2,q⟩:=h
 obtain⟨t,rfl⟩:=rx
 obtain⟨t',rfl⟩:=ry
 refine SB.mul ⟨?_,λ_ _ hh=>?_,λ_ _=>?_⟩ λt2 k=>?_
 .rw[decide_eq_false (by omega),decide_eq_false (by omega)];rfl
 .have:((2:Int) ^ 63 - 1) / i ≥ 2 ^ 50:=by
   apply (Int.le_ediv_iff_mul_le (by omega)).mpr
   have:(2:Int) ^ 50*i<=2 ^ 50*1000:=aeP h1 (by decide)
   have e:(2:Int) ^ 50*1000<=2 ^ 63 - 1:=by decide
   omega
  have e:(2:Int) ^ 50 > 1000:=by decide
  omega
 .have:z.length*i.toNat<=1000*1000:=Nat.mul_le_mul h2 (by omega)
  refine decide_eq_false ?_
  rw[aax]
  omega
 .rw[uf z i h0]
  exact⟨.str (BJ z i.toNat),H,I.tok k,⟨_,rfl⟩,q⟩
def LJ(K:aag):List V->Hp->VK->Prop:=λxs H Q=>∃x t c b,xs=[x,.ty c]/\Bw K H x t/\ad6 K t (.type c)=some b/\Q (.bl b) H
theorem tQ:yq X (.builtin "isinstance") (LJ X.K):=by
 intro pins s σ H xs us Q I r h
 obtain⟨x,t,c,b,rfl,ty,e,q⟩:=h
 cases r with
 |cons r1 r2=>
  cases r2 with
  |cons r2 r3=>
   cases r3
   cases r2
   exact qZ I r1 ty e λtk=>⟨.bl b,H,I.tok tk,rfl,q⟩
def Oz(wi:TI)(g:TG)(tc:TT)(tk te:TE)(js:List (Option Nat)):TE:=λσ H Q=>wi σ H λJ H1=>∀l,H1 l=none ->
 ∃W:Nat->Nat->List (Key×V)->Hp->Prop,(∃m,W 0 m [] (upd H1 l (.dK [])))/\∀i m ys H2,W i m ys H2 ->
  (J.stop i H2/\Q (.ref l) H2)\/(J.go i H2/\∀x H3,J.yld i H2 x H3->g x (yD js σ) H3 λσ4 H4=>tc σ4 H4 λb H5=>
   if b=true then tk σ4 H5 λkk H6=>te σ4 H6 λy H7=>∃key,kk=kV key/\H7 l=some (.dK ys)/\ys.length<sizeLine/\∃m',m'<m/\W (i+1) m' (putK ys key y) (upd H7 l (.dK (putK ys key y)))else ∃m',m'<m/\W (i+1) m' ys H5)
variable{tg kx vx iter:Expr}{ifs:List Expr}{scope:Scope}{pos:Pos}{wi:TI}{g:TG}{tc:TT}{tk te:TE}{N:List Str}{js:List (Option Nat)}
variable{pos':Pos}
theorem oN{use:Option (Value->Sem Unit)}{Q:VK}{QQ:Value->Shared->Prop}(hc:X.calm=true)(hx:X.xe=λ_ _=>False)(hi:PI X tg iter wi)
  (hg:∀C s₀ H₀ ex pn,PG (rW X scope N C s₀ H₀ ex pn) tg g) (ht:∀C s₀ H₀ ex pn,PF (rW X scope N C s₀ H₀ ex pn) ifs tc) (hk:∀C s₀ H₀ ex pn,PE (rW X scope N C s₀ H₀ ex pn) kx tk) (he:∀C s₀ H₀ ex pn,PE (rW X scope N C s₀ H₀ ex pn) vx te) (GH:AJ js g)
  (Bf:Bh X.env scope=true) (yT:zE X.N scope N js=true) (yt:scope.kind=.function) (hs:∀x,aa0 iter X.env x=pure x)
  (I:Inv X pins σ H s) (h:Oz wi g tc tk te js σ H Q)
  (fin:∀(l C:Addr) (H':Hp) (s':Shared),Inv X pins σ H' s'->Q (.ref l) H'->H' C=none->C≠X.env.locals->X.s₀.heap.objs.size<=C->(∀x c,X.env.cells.lookup x=some c->c≠C)->(∀p∈X.pn++pins,p.1≠C)->(∃m,s'.heap.Ns C m)->aeQ (model X.prog X.w) X.A E use QQ (.ref l) C (.ok .next) s') :
  wpAny (model X.prog X.w) X.A (adA (.DictComp kx vx [⟨tg,iter,ifs,0⟩] scope pos) scope X.env pos' newDict false (eval iter X.env) use) QQ E s:=by
 have SC:=nM Bf
 have CP:=mZ yT
 refine wpAny_comprehension_free (cl:=An X.env.cells scope.names []) rfl hs (fM (SC.cells I.ok)) yt SC.lc ?_
 refine aaM (hi pins s σ H _ I h) (λv s1 h1=>aaM h1 (λND s2 h2=>?_) (λ_ _ z=>by rw[hx]at z;exact z.elim)) (λ_ _ z=>by rw[hx]at z;exact z.elim)
 obtain⟨it,fp,tn,J,H2,rfl,I2,T,Jb,f2,hq⟩:=h2
 have KZ:H2 s2.heap.objs.size=none:=I2.ye.fresh (aam _)
 obtain⟨W,⟨m0,w0⟩,turn⟩:=hq s2.heap.objs.size KZ
 refine aab (wpAny_alloc (aaj (ad4 (λx hx=>SC.nc x hx) (by intro y hy;simp at hy) (λh₁ hns₁ hsb₁=>?_) yt)))
 dsimp only at hns₁ hsb₁ ⊢
 generalize HJ:s2.heap.push ({cls:=.type "dict",data:=.dict #[]}:Obj)=hp3 at hns₁ hsb₁ ⊢
 have MM:hp3.objs.size=s2.heap.objs.size+1:=by rw[<- HJ,aby]
 have I3:Inv X pins σ (upd H2 s2.heap.objs.size (.dK [])) {s2 with heap:=hp3}:=by
  rw[<- HJ]
  exact I2.laid (t':=s2.toks) (λb u e=>aad _ e) (aam _) (mS s2.heap I2.Qs)
 have keep:∀b o,hp3.get? b=some o->h₁.get? b=some o:=λb o e=>hsb₁.extBut b o (aaw (aak e)) (aad _ e)
 have J7:∀b∈fp,b<s2.heap.objs.size:=λb hb=>by
  obtain⟨o,e,_⟩:=T.obj _ _ Jb b hb
  exact aak e
 have f3:∀b∈fp,zN X pins (upd H2 s2.heap.objs.size (.dK [])) b:=λb hb=>⟨by rw[af (aaw (J7 b hb))];exact(f2 b hb).1,(f2 b hb).2⟩
 have J4:=mH (tk:=s2.toks+([]:List (Str×Value)).length) (C:=hp3.objs.size) (fp:=fp) (h₁:=h₁) (scope:=scope) (N:=N) (js:=js) I3 SC CP yt f3 (λb hb=>by show b<hp3.objs.size;rw[MM];exact abB (J7 b hb)) rfl keep (by
  have:(λx=>ac4 x ([]:List (Str×Value)).reverse)=λ_=>none:=by funext x;rfl
  rw[this]at hns₁;exact hns₁)
 have Lx:tn 0 h₁:=T.keep _ _ _ Jb λb hb o e=>keep b o (by rw[<- HJ];exact aad _ e)
 have loop:∀s4:Shared,s4={s2 with heap:=h₁,toks:=s2.toks+([]:List (Str×Value)).length} ->
   aec (model X.prog X.w) X.A (.compLoop (.DictComp kx vx [⟨tg,iter,ifs,0⟩] scope pos) 0 (.ref it) (.ref s2.heap.objs.size) (compEnvC scope (An X.env.cells scope.names []) hp3.objs.size X.env)) (aeQ (model X.prog X.w) X.A E use QQ (.ref s2.heap.objs.size) hp3.objs.size) s4:=by
  rintro s4 rfl
  generalize hY:rW X scope N hp3.objs.size {s2 with heap:=hp3} (upd H2 s2.heap.objs.size (.dK [])) fp (X.pn++pins)=Y at J4
  have J8:∀{H':Hp},(∀b∈fp,H' b=none)->∀b∈fp,zN Y [] H' b:=λhn b hb=>by
   subst hY
   refine⟨hn b hb,?_,?_,.inl hb,λx c e=>?_,λp hp=>?_⟩
   .show b≠hp3.objs.size
    rw[MM];exact aaw (abB (J7 b hb))
   .intro z
    rcases List.mem_cons.mp (I3.Bg b z)with q|q
    .exact(f3 b hb).2.1 q
    .exact(f3 b hb).2.2.1 q
   .exact(f3 b hb).2.2.2.2.1 x c (dz (SC.cells I.ok) (λc e=>by simp at e) e)
   .exact(f3 b hb).2.2.2.2.2 p (by simpa[rW]using hp)
  have PD:PG Y tg g:=by subst hY;exact hg _ _ _ _ _
  have Pg:PF Y ifs tc:=by subst hY;exact ht _ _ _ _ _
  have SW:PE Y kx tk:=by subst hY;exact hk _ _ _ _ _
  have PM:PE Y vx te:=by subst hY;exact he _ _ _ _ _
  have eA:Y.A=X.A:=by subst hY;rfl
  have eP:Y.prog=X.prog:=by subst hY;rfl
  have eW:Y.w=X.w:=by subst hY;rfl
  have eK:Y.K=X.K:=by subst hY;rfl
  have eC:Y.calm=true:=by subst hY;exact hc
  have eX:Y.xe=λ_ _=>False:=by subst hY;rfl
  have eE:Y.env=compEnvC scope (An X.env.cells scope.names []) hp3.objs.size X.env:=by subst hY;rfl
  have T':Turn Y.prog Y.w Y.K tg J fp it tn:=by rw[eP,eW,eK];exact T
  have eL:(yD js σ).length=js.length:=by unfold yD;rw[aae]
  rw[<- eP,<- eW,<- eA,<- eE]
  refine codeAny_loop rfl (λn s'=>∃i ys H',Inv Y [] (yD js σ) H' s'/\tn i s'.heap/\(∀b∈fp,H' b=none)/\W i n ys H') (λn s' hI=>?_) m0 ⟨0,[],_,J4,Lx,λb hb=>(f3 b hb).1,w0⟩
  obtain⟨i,ys,H5,I5,Hq,J6,w5⟩:=hI
  show wpAny _ Y.A ((compTurn (.DictComp kx vx [⟨tg,iter,ifs,0⟩] scope pos) 0 (.ref it) (.ref s2.heap.objs.size) Y.env).onRaise (λx=>do noteFrame x Y.env;theTreesLotGoes x)) _ _ s'
  refine wpAny_noted ?_
  rw[compTurn_dict]
  refine aab (act (aab ?_))
  have Ef:∀(x:Value) (s:Shared) (P:Prop),Y.xe x s->P:=λx s P z=>by rw[eX]at z;exact z.elim
  rcases turn i n ys H5 w5 with ⟨stop,qn⟩|⟨go,step⟩
  .refine aaM (T'.done Y rfl rfl rfl eC i [] s' _ H5 Y.xe I5 (J8 J6) Hq stop) (λr s6 ⟨hr,I6⟩=>?_) λx s z=>Ef x s _ z
   subst hr
   refine aaj ?_
   show aeQ _ _ _ _ _ _ _ _ _
   rw[eP,eW,eA]
   have back:Inv X pins σ H5 s6:=by subst hY;exact mI I3 I6 f3
   have HD:∃m,s6.heap.Ns hp3.objs.size m:=by
    obtain⟨m,hm,_⟩:=I6.loc
    have:Y.env.locals=hp3.objs.size:=by rw[eE];rfl
    rw[this]at hm
    exact⟨m,hm⟩
   have Qb:H5 hp3.objs.size=none:=by
    have:=I6.free
    have e:Y.env.locals=hp3.objs.size:=by rw[eE];rfl
    rw[e]at this;exact this
   refine fin s2.heap.objs.size hp3.objs.size H5 s6 back qn Qb ?_ ?_ ?_ ?_ HD
   .exact abQ I3.lt
   .exact I3.sz
   .intro x c e z
    obtain⟨v,o,ho,_⟩:=I3.cell x c e
    exact absurd (aak ho) (by rw[z];exact abd _)
   .intro p hp z
    have:=aak (I3.pin p hp).1
    rw[z]at this;exact absurd this (abd _)
  .refine aaM (T'.item Y rfl rfl rfl eC i [] s' _ H5 Y.xe I5 (J8 J6) Hq go) (λr s6 h6=>?_) λx s z=>Ef x s _ z
   obtain⟨u,hr,h6⟩:=h6
   subst hr
   dsimp only
   refine aab ?_
   refine aaM h6 (λ_ s7 h7=>?_) λx s z=>Ef x s _ z
   obtain⟨x,H7,I7,r7,y7,Ja,Qg⟩:=h7
   have QC:=I7.pinned (J8 Qg) (T.obj _ _ Ja)
   have g7:=GH x (yD js σ) H7 _ (step x H7 y7)
   refine aab ?_
   refine aaM (PD _ s7 (yD js σ) H7 x u _ QC r7 g7) (λ_ s8 h8=>?_) λx s z=>Ef x s _ z
   obtain⟨σ8,H8,I8,q8,l8,k8⟩:=h8
   refine aab ?_
   refine aaM (Pg _ s8 σ8 H8 _ I8 q8) (λb s9 h9=>?_) λx s z=>Ef x s _ z
   obtain⟨H9,I9,q9⟩:=h9
   have again:∀{s':Shared} {H':Hp},Inv Y ([]++Bj fp s7.heap) σ8 H' s'->Inv Y [] (yD js σ) H' s'/\tn (i+1) s'.heap/\∀b∈fp,H' b=none:=λ{s' H'} I'=>by
    refine⟨(I'.zQ).weak l8.symm λk v e=>?_,T.keep _ _ _ Ja λb hb o e=>(I'.pin (b,o) (aat _ (aat _ (bn hb e)))).1,λb hb=>?_⟩
    .cases ej:js[k]? with
     |none=>
      unfold yD at e
      rw[aah,ej]at e;cases e
     |some o=>
      cases o with
      |none=>
       unfold yD at e
       rw[aah,ej]at e;cases e
      |some j=>rw[k8 k j ej];exact e
    .obtain⟨o,e,d⟩:=T.obj _ _ Ja b hb
     exact(I'.pin (b,o) (aat _ (aat _ (bn hb e)))).2.1
   cases b with
   |false=>
    rw[if_neg aaB]at q9
    obtain⟨m',hm,w9⟩:=q9
    obtain⟨a1,a2,a3⟩:=again I9
    exact aaj ⟨rfl,m',hm,i+1,ys,H9,a1,a2,a3,w9⟩
   |true=>
    rw[if_pos rfl]at q9
    refine aab (aab ?_)
    refine aaM (SW _ s9 σ8 H9 _ I9 q9) (λkv OF Qe=>?_) λx s z=>Ef x s _ z
    obtain⟨kk,N6,QD,ON,R5⟩:=Qe
    refine aab (aaT ?_)
    refine aaM (PM _ OF σ8 N6 _ QD R5) (λvv Nu Qd=>?_) λx s z=>Ef x s _ z
    obtain⟨yv,RK,N5,R4,key,ek,NY,z11,m',hm,RP⟩:=Qd
    subst ek
    refine aab (act (aaT ?_))
    obtain⟨zz,hd,vs,rel,dd⟩:=jD N5.ye NY
    have hz:vs.length<=sizeLine:=by rw[<- rel.length];exact zz
    have hl:(putK ys key yv).length<=sizeLine:=by have:=cy ys key yv;omega
    refine wpAny_dictSet_pairs (hsz:=hz) (dF ON) dd λh' Hj hs=>?_
    have he:∃q,h'.get? s2.heap.objs.size=some q:=let ⟨q,_,_,hq,_⟩:=Hj;⟨q,hq⟩
    have UA:Inv Y _ σ8 (upd RK s2.heap.objs.size (.dK (putK ys key yv))) {Nu with heap:=h',toks:=Nu.toks+1}:=gX (t':=Nu.toks+1) N5 (by rw[NY];exact acn) hs he (mR hl hd (rel.put key R4) Hj)
    obtain⟨a1,a2,a3⟩:=again UA
    exact aaj ⟨rfl,m',hm,i+1,putK ys key yv,_,a1,a2,a3,RP⟩
 exact codeAny_compStart_dict (loop _ rfl) (T.self X.A 0 _ _ _ Lx (loop _ rfl))
theorem xL(hi:PI X tg iter wi)(hg:∀C s₀ H₀ ex pn,PG (rW X scope N C s₀ H₀ ex pn) tg g)(ht:∀C s₀ H₀ ex pn,PF (rW X scope N C s₀ H₀ ex pn) ifs tc)(hk:∀C s₀ H₀ ex pn,PE (rW X scope N C s₀ H₀ ex pn) kx tk)(he:∀C s₀ H₀ ex pn,PE (rW X scope N C s₀ H₀ ex pn) vx te)(GH:AJ js g)
  (hc:X.calm=true:=by rfl) (hx:X.xe=(λ_ _=>False):=by rfl) (Bf:Bh X.env scope=true:=by rfl) (yT:zE X.N scope N js=true:=by rfl) (yt:scope.kind=.function:=by rfl) (hs:∀x,aa0 iter X.env x=pure x:=by intro _;rfl) :
  PE X (.DictComp kx vx [⟨tg,iter,ifs,0⟩] scope pos) (Oz wi g tc tk te js):=by
 intro pins s σ H Q I h
 show wpAny _ X.A (adA (.DictComp kx vx [⟨tg,iter,ifs,0⟩] scope pos) scope X.env _ newDict false (eval iter X.env)) _ _ s
 refine oN (use:=none) hc hx hi hg ht hk he GH Bf yT yt hs I h λl C H' s' I' q f0 f1 f2 f3 f4 ⟨m,hm⟩=>?_
 refine⟨m,hm,λh' sb=>⟨.ref l,H',?_,rfl,q⟩⟩
 exact I'.turned (t':=s'.toks) (it:=C) (λb o hb e=>sb.extBut b o hb e) f0 f1 (.inr f2) f3 f4
variable{i:Nat}{y:Str}{py:Pos}
theorem tX{za:Pos}(hN:X.N.Nodup)(hy:X.N[i]?=some y)(hl:X.env.scope.names.lookup y=some .local)(hi:PI X tg iter wi)(hg:∀C s₀ H₀ ex pn,PG (rW X scope N C s₀ H₀ ex pn) tg g)(ht:∀C s₀ H₀ ex pn,PF (rW X scope N C s₀ H₀ ex pn) ifs tc)(hk:∀C s₀ H₀ ex pn,PE (rW X scope N C s₀ H₀ ex pn) kx tk)(he:∀C s₀ H₀ ex pn,PE (rW X scope N C s₀ H₀ ex pn) vx te)(GH:AJ js g)
  (GD:ab9 (.DictComp kx vx [⟨tg,iter,ifs,0⟩] scope pos) (some (.Name y py)) za.line X.env=pure true:=by rfl)
  (hc:X.calm=true:=by rfl) (hx:X.xe=(λ_ _=>False):=by rfl) (Bf:Bh X.env scope=true:=by rfl) (yT:zE X.N scope N js=true:=by rfl) (yt:scope.kind=.function:=by rfl) (hs:∀x,aa0 iter X.env x=pure x:=by intro _;rfl) :
  PS X (.Assign [.Name y py] (.DictComp kx vx [⟨tg,iter,ifs,0⟩] scope pos) za) (D6 (Oz wi g tc tk te js) (zD i)):=by
 intro pins s σ H D I h
 rw[exec_Assign_Name_used _ _ _ _ GD]
 refine aab (act (aab ?_))
 show wpAny _ X.A (do let _ <- adA (.DictComp kx vx [⟨tg,iter,ifs,0⟩] scope pos) scope X.env _ newDict false (eval iter X.env) (some (assign (.Name y py) X.env))) _ _ s
 refine aab (aaM (oN (use:=some (assign (.Name y py) X.env)) (E:=X.xe) (QQ:=λ_ s'=>SP X pins D .next s') hc hx hi hg ht hk he GH Bf yT yt hs I h λl C H' s' I' q f0 f1 f2 f3 f4 ⟨m,hm⟩=>?_) (λ_ s' hq=>aaj (aaj hq)) λ_ _ e=>e)
 show wpAny _ X.A (assign (.Name y py) X.env (.ref l)) _ _ _
 refine aeo (fU I' hN hy (.inl hl) (v:=.ref l) rfl (λJl QE ⟨a,sb,ha⟩=>?_) (.inr hl))
 have PZ:C≠a:=by
  rcases ha with rfl|ha
  .exact f1
  .exact λz=>f3 _ _ ha z.symm
 refine⟨m,hm.sameBut sb PZ,λh' OC=>⟨_,H',?_,q⟩⟩
 exact QE.turned (t':=Jl.toks) (it:=C) (λb o hb e=>OC.extBut b o hb e) f0 f1 (.inr f2) f3 f4
theorem ip:∀{bs:List Bool} {us:List Value},tO (bs.map V.bl) us->LSm.BoolsAre us bs
 |[],_,r=>by cases r;exact .nil
 |b::bs,_,r=>by
  cases r with
  |cons r1 r2=>cases r1;exact .cons b (ip r2)
theorem tR(hc:X.calm=true):yq X (.builtin "all") (λxs H Q=>∃(p:Addr) (bs:List Bool),xs=[.ref p]/\zp X.K H p (bs.map V.bl)/\Q (.bl (bs.all id)) H):=by
 intro pins s σ H xs us Q I r h
 obtain⟨p,bs,rfl,hq,q⟩:=h
 obtain⟨u,rfl,ru⟩:=r.one
 cases ru
 obtain⟨gE,rv,pl,hz⟩:=I.list hq
 have hb:=ip rv
 have hl:=pl.isList
 have y6:p<s.heap.objs.size:=by obtain⟨_,e,_⟩:=hl;exact aak e
 refine call_all_walk (adi hl ⟨s.heap.objs.size,[s.heap.objs.size,p],[s.heap.objs.size],gE.toArray.size,_,_,λi=>(bs[i]?).getD true,rfl,
  Walks.list (A:=X.A.in1) (I.ok.hd hc) _ p (aaw y6) gE.toArray,⟨⟨_,aal _ rfl,rfl,rfl⟩,hl.push _⟩,λi v s' Q' E' hP hQ=>?_,λh' tk hk=>?_⟩)
 .obtain⟨b,eb,rfl⟩:=hb.get i v (by simpa using hP)
  simp only[eb,acB]at hQ
  exact acs hQ
 .have eb:((aaS gE.toArray.size).all λi=>(bs[i]?).getD true)=bs.all id:=by
   rw[aaf,hb.length,LSm.range_all bs]
  rw[eb]
  exact⟨.bl (bs.all id),H,I.kept (LSm.kept_iter hk),rfl,q⟩
variable{j t:Addr}{n:Nat}
theorem kh{gE:Array Value}(gj:s.heap.IsTupleIter j t n)(gt:s.heap.IsTuple t gE)(gx:gE[n]?=some x)
  (k:∀h',h'.IsTupleIter j t (n+1)->aeI j s.heap h'->Q x {s with heap:=h'}):wpAny (model prog w) A (aa8 (.ref j)) Q E s:=by
 obtain⟨oj,j1,j2,j3⟩:=id gj
 obtain⟨ot,t1,_,m,t3⟩:=gt
 unfold aa8
 refine aab (abN (name:=aaF "__next__") gj.typeIs acy (abJ acy gj.typeIs ae8 ?_ (aeS _)))
 show wpAny _ _ (field (.ref j) 0 >>= _) _ _ s
 refine aab (abA j1 j3 (x:=.ref t) rfl ?_)
 show wpAny _ _ (if (aas t==.none)=true then _ else _) _ _ s
 rw[if_neg (show ¬ ((aas t==.none)=true)from aaB)]
 show wpAny _ _ (field (.ref j) 1 >>= _) _ _ s
 refine aab (abA j1 j3 (x:=.int n 0) rfl ?_)
 refine aab (m:=seqItems? (.ref t)) (abq t1 t3 ?_)
 simp only[aeB,gx]
 refine aab (wpAny_setField j1 j3 (by simp) (aaj ⟨x,rfl,aaj (k _ ⟨_,Heap.get?_update_self _ j1 (Obj.isFreed_of_fields (Obj.data_mapFields j3 _)),(Obj.cls_mapFields ..).trans j2,?_⟩ (aaX ..))⟩))
 rw[Obj.data_mapFields j3]
 simp[rawInt]
theorem GV{gE:Array Value}(hh:A.handled=none)(gj:s.heap.IsTupleIter j t n)(gt:s.heap.IsTuple t gE)(gx:gE[n]?=none)
  (k:∀h' e,Heap.ExtBut j s.heap h'->(∃o,h'.get? e=some o/\o.cls=.type "StopIteration")->E (.ref e) {s with heap:=h'}):wpAny (model prog w) A (aa8 (.ref j)) Q E s:=by
 obtain⟨oj,j1,j2,j3⟩:=id gj
 obtain⟨ot,t1,_,m,t3⟩:=gt
 unfold aa8
 refine aab (abN (name:=aaF "__next__") gj.typeIs acy (abJ acy gj.typeIs ae8 ?_ (aeS _)))
 show wpAny _ _ (field (.ref j) 0 >>= _) _ _ s
 refine aab (abA j1 j3 (x:=.ref t) rfl ?_)
 show wpAny _ _ (if (aas t==.none)=true then _ else _) _ _ s
 rw[if_neg (show ¬ ((aas t==.none)=true)from aaB)]
 show wpAny _ _ (field (.ref j) 1 >>= _) _ _ s
 refine aab (abA j1 j3 (x:=.int n 0) rfl ?_)
 refine aab (m:=seqItems? (.ref t)) (abq t1 t3 ?_)
 simp only[aeB,gx]
 refine aab (acD (aab (wpAny_setField j1 j3 (by simp) ?_)))
 refine aab (m:=newExc (.type "StopIteration") []) ?_
 simp only[newExc,newTuple]
 refine aab (abR (aab (m:=firstArgMember _ _) (wpAny_of_eq (a:=aaO) (by first|rfl|(simp only[firstArgMember];rfl)) (abR ?_ (by size_fits)))) (by size_fits))
 simp only[raiseNew]
 refine aab (wpAny_handled ?_)
 first|rw[show A.in1.handled=none from hh]|rw[hh]
 exact aab (aaj (wpAny_throw (k _ _ (((aaX ..).extBut.push _).push _) ⟨_,aal _ rfl,rfl⟩)))
structure Ft(h:Heap)(z u o i1 i2 t1 t2:Addr)(n:Nat):Prop where
 zz:IsZip h z u o .none
 uu:IsPair h u (.ref i1) (.ref i2)
 oo:∃a b,IsPair h o a b
 a1:h.IsTupleIter i1 t1 n
 a2:h.IsTupleIter i2 t2 n
structure HZ(z u o i1 i2:Addr):Prop where
 uz:u≠z
 oz:o≠z
 x1z:i1≠z
 x2z:i2≠z
 uo:u≠o
 u1:u≠i1
 u2:u≠i2
 o1:o≠i1
 o2:o≠i2
 xx:i1≠i2
theorem Dn{gE:Array Value}(x:h.IsTuple a gE)(k:∀o,h.get? a=some o->h'.get? a=some o):h'.IsTuple a gE:=by
 obtain⟨o,e,r⟩:=x
 exact⟨o,k o e,r⟩
theorem Aa(x:h.IsTupleIter a t n)(k:∀o,h.get? a=some o->h'.get? a=some o):h'.IsTupleIter a t n:=by
 obtain⟨o,e,r⟩:=x
 exact⟨o,k o e,r⟩
variable{z u:Addr}{v:Value}
theorem cL{o:Addr}{gE:Array Value}(x:h.IsTuple t gE)(y:IsZip h z u o v):t≠z:=by
 rintro rfl
 obtain⟨q,e,c,_⟩:=x
 rw[y]at e;cases e
 simp at c
variable{b:Addr}
theorem jb{gE:Array Value}(x:h.IsTuple t gE)(y:h.IsTupleIter j b n):t≠j:=by
 rintro rfl
 obtain⟨q,e,c,_⟩:=x
 obtain⟨q',e',c',_⟩:=y
 rw[e]at e';cases e'
 rw[c]at c'
 simp at c'
variable{i1 i2 t1 t2:Addr}{ys:Array Value}
theorem pW{o:Addr}{xs:Array Value}{y:Value}{Q:Option Value->Shared->Prop}(D:HZ z u o i1 i2)(Z:Ft s.heap z u o i1 i2 t1 t2 n)(JK:t1≠o)(EX:t2≠o)
  (g1:s.heap.IsTuple t1 xs) (g2:s.heap.IsTuple t2 ys) (e1:xs[n]?=some x) (e2:ys[n]?=some y)
  (k:∀h',IsZip h' z u o (rawInt s.heap.objs.size)->IsPair h' u (.ref i1) (.ref i2)->IsPair h' o x y->h'.IsTupleIter i1 t1 (n+1)->h'.IsTupleIter i2 t2 (n+1)->IsPair h' s.heap.objs.size x y->h'.objs.size=s.heap.objs.size+1 ->
   (∀c q,c∉[z,o,i1,i2]->s.heap.get? c=some q->h'.get? c=some q)->Q (some (.ref s.heap.objs.size)) {s with heap:=h'}) :
  wpAny (model prog w) A (pyNext (.ref z)) Q E s:=by
 obtain⟨zz,uu,⟨a,b,oo⟩,a1,a2⟩:=Z
 have z1:=cL g1 zz
 have z2:=cL g2 zz
 have Fh:s.TypeIs (.ref z) "zip" := ⟨_,zz,rfl⟩
 unfold pyNext
 refine aab (aei (abN (name:=aaF "__next__") Fh adZ (abJ adZ Fh F.entry_zip_next ?_ (F.args_zip_next_1 _))))
 refine aab (m:=field (.ref z) 2) (abA zz rfl (x:=.bool false) rfl ?_)
 refine aab (m:=field (.ref z) 3) (abA zz rfl (x:=.ref u) rfl ?_)
 refine aab (abq uu rfl ?_)
 refine aab (m:=ab0 (.ref z)) ?_
 unfold ab0
 refine aab (abA zz rfl (x:=.none) rfl (aaj ?_))
 simp only[if_true]
 refine aab (acD (aab (abA zz rfl (x:=.ref o) rfl (aab (acp zz (by simp) λp1 q1 k1=>?_)))))
 replace q1:IsZip p1 z u o .ellipsis:=q1
 refine aab ?_
 simp only[List.zipIdx_cons,List.zipIdx_nil,ae7,List.forIn_nil]
 refine aab (aab (aeh ?_))
 refine aab (m:=aa8 (.ref i1)) (kh (Aa a1 λq e=>k1.extBut _ _ D.x1z e) (Dn g1 λq e=>k1.extBut _ _ z1 e) e1 λp2 q2 k2=>aaj ?_)
 have r2:IsPair p2 o a b:=k2.extBut _ _ D.o1 (k1.extBut _ _ D.oz oo)
 refine aab (abq r2 rfl (aab (ad3 r2 λp3 q3 k3=>?_)))
 replace q3:IsPair p3 o x b:=q3
 refine aab (acC (aaj (aab (aab (aeh ?_)))))
 refine aab (m:=aa8 (.ref i2)) (kh (Aa a2 λq e=>k3.extBut _ _ D.o2.symm (k2.extBut _ _ D.xx.symm (k1.extBut _ _ D.x2z e)))
  (Dn g2 λq e=>k3.extBut _ _ EX (k2.extBut _ _ (jb g2 a1) (k1.extBut _ _ z2 e))) e2 λp4 q4 k4=>aaj ?_)
 have r4:IsPair p4 o x b:=k4.extBut _ _ D.o2 q3
 refine aab (abq r4 rfl (aab (ad3 r4 λp5 q5 k5=>?_)))
 replace q5:IsPair p5 o x y:=q5
 refine aab (acC (aaj (aaj ?_)))
 refine aab (abq q5 rfl (aab (ad5 ?_)))
 have sz:p5.objs.size=s.heap.objs.size:=by rw[k5.1,k4.1,k3.1,k2.1,k1.1]
 have MX:∀c q,c≠z->c≠o->c≠i1->c≠i2->s.heap.get? c=some q->p5.get? c=some q:=λc q c1 c2 c3 c4 e=>k5.extBut _ _ c2 (k4.extBut _ _ c4 (k3.extBut _ _ c2 (k2.extBut _ _ c3 (k1.extBut _ _ c1 e))))
 have z5:IsZip p5 z u o .ellipsis:=k5.extBut _ _ D.oz.symm (k4.extBut _ _ D.x2z.symm (k3.extBut _ _ D.oz.symm (k2.extBut _ _ D.x1z.symm q1)))
 have b1:p5.IsTupleIter i1 t1 (n+1):=Aa q2 λq e=>k5.extBut _ _ D.o1.symm (k4.extBut _ _ D.xx (k3.extBut _ _ D.o1.symm e))
 have b2:p5.IsTupleIter i2 t2 (n+1):=Aa q4 λq e=>k5.extBut _ _ D.o2.symm e
 refine aab (m:=ad9 (.ref z) (.ref p5.objs.size)) ?_
 unfold ad9
 have z6:IsZip (p5.push {cls:=.type "tuple",data:=.seq #[x,y]}) z u o .ellipsis:=aad _ z5
 refine aab (acp z6 (by simp) λp7 q7 k7=>?_)
 replace q7:IsZip p7 z u o (rawInt p5.objs.size):=q7
 refine acp q7 (by simp) λp8 q8 k8=>?_
 replace q8:IsZip p8 z u o (rawInt p5.objs.size):=q8
 have up:∀c q,c≠z->p5.get? c=some q->p8.get? c=some q:=λc q c1 e=>k8.extBut _ _ c1 (k7.extBut _ _ c1 (aad _ e))
 have QM:p5.objs.size≠z:=abQ (aak z5)
 have LV:IsPair p8 p5.objs.size x y:=k8.extBut _ _ QM (k7.extBut _ _ QM (aal _ rfl))
 have s8:p8.objs.size=p5.objs.size+1:=by rw[k8.1,k7.1,aby]
 rw[sz]at q8 LV s8
 refine aaj ⟨_,rfl,aaj ?_⟩
 show Q (some (.ref p5.objs.size)) _
 rw[sz]
 exact k p8 q8 (up _ _ D.uz (MX _ _ D.uz D.uo D.u1 D.u2 uu)) (up _ _ D.oz q5) (Aa b1 λq e=>up _ _ D.x1z e) (Aa b2 λq e=>up _ _ D.x2z e) LV s8 λc q hc e=>by
  simp only[aaK,aaV,or_false,not_or]at hc
  exact up c q hc.1 (MX c q hc.1 hc.2.1 hc.2.2.1 hc.2.2.2 e)
theorem rT{o:Addr}{xs:Array Value}{Q:Option Value->Shared->Prop}(hh:A.handled=none)(D:HZ z u o i1 i2)(Z:Ft s.heap z u o i1 i2 t1 t2 n)(JK:t1≠o)(EX:t2≠o)
  (g1:s.heap.IsTuple t1 xs) (g2:s.heap.IsTuple t2 ys) (e:xs[n]?=none\/ys[n]?=none)
  (k:∀h',(∀c q,c∉[z,o,i1,i2]->s.heap.get? c=some q->h'.get? c=some q)->Q none {s with heap:=h'}) :
  wpAny (model prog w) A (pyNext (.ref z)) Q E s:=by
 obtain⟨zz,uu,⟨a,b,oo⟩,a1,a2⟩:=Z
 have z1:=cL g1 zz
 have z2:=cL g2 zz
 have Fh:s.TypeIs (.ref z) "zip" := ⟨_,zz,rfl⟩
 unfold pyNext
 have fin:∀(h':Heap) (x:Addr),(∀c q,c∉[z,o,i1,i2]->s.heap.get? c=some q->h'.get? c=some q)->(∃q,h'.get? x=some q/\q.cls=.type "StopIteration") ->
   wpAny (model prog w) A (do if (<- isInstance (.ref x) (.type "StopIteration"))then pure none else throw (.ref x)) Q E {s with heap:=h'}:=λh' x kk ⟨q,hq,hc⟩=>
  aab (wpAny_isInstance (T := "StopIteration") (b:=true) ⟨q,hq,hc⟩ isSubtype_stop (aaj (k _ kk)))
 refine aab (aei (abN (name:=aaF "__next__") Fh adZ (abJ adZ Fh F.entry_zip_next ?_ (F.args_zip_next_1 _))))
 refine aab (m:=field (.ref z) 2) (abA zz rfl (x:=.bool false) rfl ?_)
 refine aab (m:=field (.ref z) 3) (abA zz rfl (x:=.ref u) rfl ?_)
 refine aab (abq uu rfl ?_)
 refine aab (m:=ab0 (.ref z)) ?_
 unfold ab0
 refine aab (abA zz rfl (x:=.none) rfl (aaj ?_))
 simp only[if_true]
 refine aab (acD (aab (abA zz rfl (x:=.ref o) rfl (aab (acp zz (by simp) λp1 q1 k1=>?_)))))
 replace q1:IsZip p1 z u o .ellipsis:=q1
 refine aab ?_
 simp only[List.zipIdx_cons,List.zipIdx_nil,ae7,List.forIn_nil]
 refine aab (aab (aeh ?_))
 cases e1:xs[n]? with
 |none=>
  refine aab (m:=aa8 (.ref i1)) (GV hh (Aa a1 λq e=>k1.extBut _ _ D.x1z e) (Dn g1 λq e=>k1.extBut _ _ z1 e) e1 λp2 x k2 ⟨ox,x1,x2⟩=>?_)
  have q2:IsZip p2 z u o .ellipsis:=k2 _ _ D.x1z.symm q1
  have xz:x≠z:=λq=>by subst q;rw[q2]at x1;cases x1;simp at x2
  refine acp q2 (by simp) λp3 _ k3=>fin p3 x (λc q hc e=>?_) ⟨ox,k3.extBut _ _ xz x1,x2⟩
  simp only[aaK,aaV,or_false,not_or]at hc
  exact k3.extBut _ _ hc.1 (k2 _ _ hc.2.2.1 (k1.extBut _ _ hc.1 e))
 |some x0=>
  have e2:ys[n]?=none:=by rcases e with h|h;rw[e1]at h;cases h;exact h
  refine aab (m:=aa8 (.ref i1)) (kh (Aa a1 λq e=>k1.extBut _ _ D.x1z e) (Dn g1 λq e=>k1.extBut _ _ z1 e) e1 λp2 q2 k2=>aaj ?_)
  have r2:IsPair p2 o a b:=k2.extBut _ _ D.o1 (k1.extBut _ _ D.oz oo)
  refine aab (abq r2 rfl (aab (ad3 r2 λp3 q3 k3=>?_)))
  refine aab (acC (aaj (aab (aab (aeh ?_)))))
  refine aab (m:=aa8 (.ref i2)) (GV hh (Aa a2 λq e=>k3.extBut _ _ D.o2.symm (k2.extBut _ _ D.xx.symm (k1.extBut _ _ D.x2z e)))
   (Dn g2 λq e=>k3.extBut _ _ EX (k2.extBut _ _ (jb g2 a1) (k1.extBut _ _ z2 e))) e2 λp4 x k4 ⟨ox,x1,x2⟩=>?_)
  have q4:IsZip p4 z u o .ellipsis:=k4 _ _ D.x2z.symm (k3.extBut _ _ D.oz.symm (k2.extBut _ _ D.x1z.symm q1))
  have xz:x≠z:=λq=>by subst q;rw[q4]at x1;cases x1;simp at x2
  refine acp q4 (by simp) λp5 _ k5=>fin p5 x (λc q hc e=>?_) ⟨ox,k5.extBut _ _ xz x1,x2⟩
  simp only[aaK,aaV,or_false,not_or]at hc
  exact k5.extBut _ _ hc.1 (k4 _ _ hc.2.2.2 (k3.extBut _ _ hc.2.1 (k2.extBut _ _ hc.2.2.1 (k1.extBut _ _ hc.1 e))))
abbrev Nj(h:Heap)(t1:Addr):Heap:=h.push {cls:=.type "tuple_iterator",data:=.fields #[.ref t1,.int 0 0]}
abbrev Ni(h:Heap)(t1 t2:Addr):Heap:=(Nj h t1).push {cls:=.type "tuple_iterator",data:=.fields #[.ref t2,.int 0 0]}
abbrev Nh(h:Heap)(t1 t2:Addr):Heap:=(Ni h t1 t2).push {cls:=.type "tuple",data:=.seq #[.ref h.objs.size,.ref (Nj h t1).objs.size]}
abbrev Ng(h:Heap)(t1 t2:Addr):Heap:=(Nh h t1 t2).push {cls:=.type "tuple",data:=.seq #[.none,.none]}
abbrev IM(h:Heap)(t1 t2:Addr):Heap:=(Ng h t1 t2).push {cls:=.type "zip",data:=.fields #[.none,.bool false,.bool false,.ref (Ni h t1 t2).objs.size,.ref (Nh h t1 t2).objs.size]}
theorem sQ(t1 t2:Addr)(xs ys:Array Value):Meets (ac6.«zip.__new__» ⟨[.type "zip",.ref t1,.ref t2],[]⟩)
  (λ_ R s=>s.heap.IsTuple t1 xs/\s.heap.IsTuple t2 ys/\R (.ok (.ret (.ref (Ng s.heap t1 t2).objs.size))) {s with heap:=IM s.heap t1 t2}) :=
 .of_wp λprog w A R s q=>by
  obtain⟨hp,g,d,tk,os⟩:=s
  obtain⟨g1,g2,q⟩:=q
  have hs:=sub_zip
  have m1:Heap.IsTuple (Shared.heap ⟨hp,g,d,tk,os⟩) t1 xs:=g1
  have m2:Heap.IsTuple (Shared.heap ⟨hp.push {cls:=.type "tuple_iterator",data:=.fields #[.ref t1,.int 0 0]},g,d,tk,os⟩) t2 ys:=Heap.IsTuple.push g2 _
  wp_walk using acG m1,acG m2
  exact⟨_,rfl,q⟩
theorem vP{xs:Array Value}(g1:s.heap.IsTuple t1 xs)(g2:s.heap.IsTuple t2 ys)
  (k:∀h',Ft h' (s.heap.objs.size+4) (s.heap.objs.size+2) (s.heap.objs.size+3) s.heap.objs.size (s.heap.objs.size+1) t1 t2 0->h'.objs.size=s.heap.objs.size+5->(∀c o,s.heap.get? c=some o->h'.get? c=some o)->Q (.ref (s.heap.objs.size+4)) {s with heap:=h'}) :
  wpAny (model prog w) A (call (.type "zip") [.ref t1,.ref t2]) Q E s:=by
 refine callType_new F.called_zip (by decide) (F.typeCall_zip_2 _ _) (F.newCall_zip_2 _ _) (λobj=>F.args_object_init_3 obj _ _) F.entry_zip_new (sQ t1 t2 xs ys) ⟨g1,g2,?_⟩
 have z1:(Nj s.heap t1).objs.size=s.heap.objs.size+1:=aby ..
 have z2:(Ni s.heap t1 t2).objs.size=s.heap.objs.size+2:=by rw[aby,z1]
 have z3:(Nh s.heap t1 t2).objs.size=s.heap.objs.size+3:=by rw[aby,z2]
 have z4:(Ng s.heap t1 t2).objs.size=s.heap.objs.size+4:=by rw[aby,z3]
 have z5:(IM s.heap t1 t2).objs.size=s.heap.objs.size+5:=by rw[aby,z4]
 have up:∀{h:Heap} {o o':Obj} {c:Addr},h.get? c=some o'->(h.push o).get? c=some o':=λe=>aad _ e
 have y5:(IM s.heap t1 t2).get? (Ng s.heap t1 t2).objs.size=some _:=aal _ rfl
 have y4:(IM s.heap t1 t2).get? (Nh s.heap t1 t2).objs.size=some _:=up (aal _ rfl)
 have y3:(IM s.heap t1 t2).get? (Ni s.heap t1 t2).objs.size=some _:=up (up (aal _ rfl))
 have y2:(IM s.heap t1 t2).get? (Nj s.heap t1).objs.size=some _:=up (up (up (aal _ rfl)))
 have y1:(IM s.heap t1 t2).get? s.heap.objs.size=some _:=up (up (up (up (aal _ rfl))))
 show _/\_
 rw[z2,z3,z4]at y5
 rw[z1,z2]at y3
 rw[z3]at y4
 rw[z1]at y2
 rw[z4]
 exact⟨⟨_,y5,rfl⟩,k _ ⟨y5,y3,⟨_,_,y4⟩,⟨_,y1,rfl,rfl⟩,⟨_,y2,rfl,rfl⟩⟩ z5 λc o e=>up (up (up (up (up e))))⟩
variable{t':Nat}{fp:List Addr}
theorem Inv.BP(I:Inv X pins σ H s)(k:∀b o,b∉fp->s.heap.get? b=some o->h'.get? b=some o)(hf:∀b∈fp,zN X pins H b):Inv X pins σ H {s with heap:=h',toks:=t'}:=by
 have LU:∀b u,H b=some u->b∉fp:=λb u e z=>by rw[(hf b z).1]at e;cases e
 refine I.step (g':=s.gens) (d':=s.drawn) (ch:=fp) (λb hb=>?_) (λb o _ _ hc e _=>k b o hc e) (λb o _ _ hc e _=>⟨o.slots,k b o hc e⟩) (λ_ _ _ _ n=>n)
  (λb o hc e=>⟨o,k b o hc e⟩) (λ_ _ e=>e) (λ_ _ _ e=>e) (λb ps e=>⟨#[],by rw[e];simp⟩) (λm hm=>?_) (λb u e=>?_) I.bare
 .obtain⟨f0,f1,f2,f3,f4,f5⟩:=hf b hb
  exact⟨f3,f1,f4,f5⟩
 .obtain⟨o,es,ep,ho,r⟩:=hm
  exact⟨o,es,ep,k _ o (λz=>(hf _ z).2.1 rfl) ho,r⟩
 .refine(I.ye b u e).BV (λc v hc q=>k c v ?_ q) (λ_ q=>q) λ_ _ q=>q
  rcases hc with z|z
  .rw[z];exact LU b u e
  .exact LU c _ z
def Qz(K:aag)(a b:Addr):It :=
 ⟨λi H=>∃xs ys x y,zg K H a xs/\zg K H b ys/\xs[i]?=some x/\ys[i]?=some y,
  λi H v H'=>∃p x y,v=.ref p/\H p=none/\H'=upd H p (.tup [x,y])/\∀xs ys,zg K H a xs->zg K H b ys->xs[i]?=some x/\ys[i]?=some y,
  λi H=>∃xs ys,zg K H a xs/\zg K H b ys/\(xs.length<=i\/ys.length<=i)⟩
theorem pV{o:Addr}(Z:Ft h z u o i1 i2 t1 t2 n)(k:∀b∈[z,u,o,i1,i2],∀q,h.get? b=some q->h'.get? b=some q):Ft h' z u o i1 i2 t1 t2 n:=by
 obtain⟨zz,uu,⟨a,b,oo⟩,a1,a2⟩:=Z
 exact⟨k z (by simp) _ zz,k u (by simp) _ uu,⟨a,b,k o (by simp) _ oo⟩,Aa a1 λq e=>k i1 (by simp) q e,Aa a2 λq e=>k i2 (by simp) q e⟩
variable{K:aag}{elts:List Expr}
theorem rX{x1:_}(a b z u o i1 i2:Addr)(D:HZ z u o i1 i2)(JK:a≠o)(EX:b≠o):
  Turn P w K (.Tuple elts x1 pos) (Qz K a b) [z,u,o,i1,i2] z (λn h=>Ft h z u o i1 i2 a b n) where
 mem:=by simp
 obj:=λn h Z c hc=>by
  obtain⟨zz,uu,⟨p,q,oo⟩,⟨o1,e1,c1,d1⟩,⟨o2,e2,c2,d2⟩⟩:=Z
  simp only[aaK,aaV,or_false]at hc
  rcases hc with rfl|rfl|rfl|rfl|rfl
  .exact⟨_,zz,λv e=>(by cases (show ac5 _=ae9 v from e))⟩
  .exact⟨_,uu,λv e=>(by cases (show Data.seq _ _=ae9 v from e))⟩
  .exact⟨_,oo,λv e=>(by cases (show Data.seq _ _=ae9 v from e))⟩
  .exact⟨_,e1,λv e=>(by rw[d1]at e;cases e)⟩
  .exact⟨_,e2,λv e=>(by rw[d2]at e;cases e)⟩
 keep:=λn h h' Z k=>pV Z k
 item:=by
  intro X hP hw hK hc n pins s σ H E I hf Z hg
  subst hP hw hK
  obtain⟨xs,ys,x,y,hx,hy,ex,ey⟩:=hg
  obtain⟨Ml,Nv,p1,KI⟩:=I.tuple hx
  obtain⟨Mk,FA,p2,Mq⟩:=I.tuple hy
  obtain⟨v1,e1,r1⟩:=Nv.get ex
  obtain⟨v2,e2,r2⟩:=FA.get ey
  have CK:H s.heap.objs.size=none:=I.ye.fresh (aam _)
  refine pW D Z JK EX (show s.heap.IsTuple a Ml.toArray from p1) (show s.heap.IsTuple b Mk.toArray from p2) (x:=v1) (y:=v2) (by simpa using e1) (by simpa using e2) λh' q1 q2 q3 q4 q5 q6 q7 kk=>?_
  refine⟨_,rfl,wpAny_letOwnedTupleGo_zip (s:={s with heap:=h'}) q1 λh2 w1 w2=>?_⟩
  have old:∀c∈[z,u,o,i1,i2],c<s.heap.objs.size:=λc hc=>by
   obtain⟨zz,uu,⟨p,q,oo⟩,⟨o1,e1,c1,d1⟩,⟨o2,e2,c2,d2⟩⟩:=Z
   simp only[aaK,aaV,or_false]at hc
   rcases hc with rfl|rfl|rfl|rfl|rfl
   .exact aak zz
   .exact aak uu
   .exact aak oo
   .exact aak e1
   .exact aak e2
  have UL:s.heap.objs.size≠z:=abQ (old z (by simp))
  have I1:Inv X pins σ (upd H s.heap.objs.size (.tup [x,y])) {s with heap:=s.heap.push {cls:=.type "tuple",data:=.seq #[v1,v2]}} :=
   I.laid (t':=s.toks) (λb u e=>aad _ e) (aam _) ⟨by show 2<=sizeLine;decide,[v1,v2],.cons r1 (.cons r2 .nil),⟨_,aal _ rfl,rfl,_,rfl⟩⟩
  have JU:∀c∈[z,u,o,i1,i2],zN X pins (upd H s.heap.objs.size (.tup [x,y])) c:=λc hc=>⟨by rw[af (aaw (old c hc))];exact(hf c hc).1,(hf c hc).2⟩
  have I2:Inv X pins σ (upd H s.heap.objs.size (.tup [x,y])) {s with heap:=h2}:=by
   refine I1.BP (t':=s.toks) (h':=h2) (λc q hc e=>?_) JU
   have NQ:c≠z:=λe=>hc (by simp[e])
   refine w2.extBut _ _ NQ ?_
   by_cases Hf:c=s.heap.objs.size
   .subst Hf
    have:(s.heap.push {cls:=.type "tuple",data:=.seq #[v1,v2]}).get? s.heap.objs.size=some {cls:=.type "tuple",data:=.seq #[v1,v2]}:=aal _ rfl
    have e':some {cls:=.type "tuple",data:=.seq #[v1,v2]}=some q:=this.symm.trans e
    rw[<- e'];exact q6
   .refine kk c q (λz=>hc ?_) ?_
    .simp only[aaK,aaV,or_false]at z ⊢
     rcases z with z|z|z|z
     .exact .inl z
     .exact .inr (.inr (.inl z))
     .exact .inr (.inr (.inr (.inl z)))
     .exact .inr (.inr (.inr (.inr z)))
    .exact(Heap.get?_push_ne _ _ _ Hf).symm.trans e
  refine⟨.ref s.heap.objs.size,_,I2,rfl,⟨_,x,y,rfl,CK,rfl,λUB ys' g1 g2=>?_⟩,?_,λc hc=>(JU c hc).1⟩
  .rw[I.zR g1 hx,I.zR g2 hy]
   exact⟨ex,ey⟩
  .exact⟨w1,w2.extBut _ _ D.uz q2,⟨_,_,w2.extBut _ _ D.oz q3⟩,Aa q4 λq e=>w2.extBut _ _ D.x1z e,Aa q5 λq e=>w2.extBut _ _ D.x2z e⟩
 done:=by
  intro X hP hw hK hc n pins s σ H E I hf Z hg
  subst hP hw hK
  obtain⟨xs,ys,hx,hy,hl⟩:=hg
  obtain⟨Ml,Nv,p1,KI⟩:=I.tuple hx
  obtain⟨Mk,FA,p2,Mq⟩:=I.tuple hy
  have l1:=Nv.length
  have l2:=FA.length
  refine rT (I.ok.hd hc) D Z JK EX (show s.heap.IsTuple a Ml.toArray from p1) (show s.heap.IsTuple b Mk.toArray from p2) ?_ λh' kk=>⟨rfl,I.BP (t':=s.toks) (λc q hc e=>kk c q (λz=>hc ?_) e) hf⟩
  .rcases hl with h|h
   .exact .inl (by simp;omega)
   .exact .inr (by simp;omega)
  .simp only[aaK,aaV,or_false]at z ⊢
   rcases z with z|z|z|z
   .exact .inl z
   .exact .inr (.inr (.inl z))
   .exact .inr (.inr (.inr (.inl z)))
   .exact .inr (.inr (.inr (.inr z)))
 self:=λ_ _ _ _ _ Z h=>wpAny_pyIter_zip Z.zz h
theorem Qh(n:Nat):HZ (n+4) (n+2) (n+3) n (n+1) :=
 ⟨show ¬ ((n+2:Nat)=n+4)by omega,show ¬ ((n+3:Nat)=n+4)by omega,show ¬ ((n:Nat)=n+4)by omega,show ¬ ((n+1:Nat)=n+4)by omega,show ¬ ((n+2:Nat)=n+3)by omega,show ¬ ((n+2:Nat)=n)by omega,show ¬ ((n+2:Nat)=n+1)by omega,show ¬ ((n+3:Nat)=n)by omega,show ¬ ((n+3:Nat)=n+1)by omega,show ¬ ((n:Nat)=n+1)by omega⟩
def O8(K:aag)(ta:TA):TI:=λσ H R=>ta σ H λvs H1=>∃a b,vs=[.ref a,.ref b]/\(∃xs,zg K H1 a xs)/\(∃ys,zg K H1 b ys)/\R (Qz K a b) H1
variable{ta:TA}
theorem wo{x1:_}{CQ:Pos}{a b:Expr}{p:Pos}(hg:Gl X "zip")(hm:X.mg "zip" = none)(ha:PA X [a,b] ta)(hs:aai [a,b] X.env=[(false,eval a X.env),(false,eval b X.env)]:=by rfl)(HB:aai [b] X.env=[(false,eval b X.env)]:=by rfl):
  PI X (.Tuple elts x1 CQ) (.Call (.Name "zip" p) [a,b] [] pos) (O8 X.K ta):=by
 intro pins s σ H R I h
 refine Call_ (cb I hg hm boot_zip (ac0 (yM (ha pos pins s σ H _ I h) λus s1 ⟨vs,H1,I1,r1,q1⟩=>?_) (by rw[hs,HB]) (by rw[HB];rfl)))
 obtain⟨c,d,e,⟨xs,hx⟩,⟨ys,hy⟩,q⟩:=q1
 subst e
 cases r1 with
 |cons ra rr=>
  cases rr with
  |cons rb rr=>
   cases rr
   cases ra
   cases rb
   obtain⟨Ml,Nv,p1,KI⟩:=I1.tuple hx
   obtain⟨Mk,FA,p2,Mq⟩:=I1.tuple hy
   have g1:s1.heap.IsTuple c Ml.toArray:=p1
   have g2:s1.heap.IsTuple d Mk.toArray:=p2
   have lc:c<s1.heap.objs.size:=by obtain⟨o,e,_⟩:=g1;exact aak e
   have ld:d<s1.heap.objs.size:=by obtain⟨o,e,_⟩:=g2;exact aak e
   refine vP g1 g2 λh' Z sz kk=>?_
   have I2:Inv X pins σ H1 {s1 with heap:=h'}:=I1.kept (t':=s1.toks) kk
   refine wpAny_pyIter_zip Z.zz ⟨_,_,_,_,H1,rfl,I2,rX c d _ _ _ _ _ (Qh s1.heap.objs.size) (aaw (aaA lc (aeL _ _))) (aaw (aaA ld (aeL _ _))),Z,λb' hb=>?_,q⟩
   have FE:s1.heap.objs.size<=b':=by
    simp only[aaK,aaV,or_false]at hb
    rcases hb with rfl|rfl|rfl|rfl|rfl
    all_goals first|exact aam _|exact aeL _ _
   exact I1.DC FE (I1.ye.fresh FE)
theorem hJ{sl:Addr}{gE:Array Value}{vl vu:Value}{lo hi:Option Int}(g:IsTup s.heap t gE)(hs:s.heap.IsSliceOf sl vl vu .none)(pl:IsPart vl lo)(pu:IsPart vu hi)
  (hw:HT.yR gE.size 0 lo=0/\HT.yR gE.size gE.size hi=gE.size) (k:Q (.ref t) s):wpAny (model prog w) A (adP (.ref t) (.ref sl)) Q E s:=by
 obtain⟨q,q1,q2,q3⟩:=id hs
 have ty:s.TypeIs (.ref sl) "slice" := ⟨q,q1,q2⟩
 unfold adP
 try with_reducible refine aaT ?_
 first|refine aab (aaj ?_)|skip
 refine aab (wpAny_sequenceKey g.typeIs (by decide) (aab (abN (name:=aaF "__getitem__") g.typeIs aca (abJ aca g.typeIs entry_tuple_getitem ?_ (args_tuple_getitem _ _)))))
 refine aab (m:=afc (.ref t)) (tupleItemsOf_ g (aab (adM ty ?_)))
 rw[if_pos (by decide)]
 refine aab (HT.zT hs pl pu ?_)
 show wpAny _ _ (if (((HT.yR gE.size 0 lo:Nat):Int)==0 && (1:Int)==1 && (HT.yR gE.size gE.size hi - HT.yR gE.size 0 lo)==gE.size)=true then _ else _) _ _ s
 rw[if_pos (by rw[hw.1,hw.2];simp)]
 refine aab ?_
 unfold Builtin.Tuple.tupleIsExact
 refine aab (adM g.typeIs (aaj ?_))
 rw[if_pos (by decide)]
 exact aab (acD (aaj ⟨_,rfl,aaj k⟩))
def OI(K:aag):V->Option Int->Option Int->Hp->VK->Prop:=λx lo hi H Q=>∃a xs,x=.ref a/\zg K H a xs /\
 (HT.yR xs.length 0 lo=0/\HT.yR xs.length xs.length hi=xs.length->Q (.ref a) H)/\∀p,H p=none->Q (.ref p) (upd H p (.tup (Bv xs lo hi)))
theorem uj:HV X (OI X.K):=by
 intro pins s σ H x v vl vu lo hi sl Q I rx hs pl pu h
 obtain⟨a,xs,rfl,hx,hq,q⟩:=h
 by_cases hw:HT.yR xs.length 0 lo=0/\HT.yR xs.length xs.length hi=xs.length
 .cases rx
  obtain⟨gE,r,ht,hz⟩:=I.tuple hx
  have hn:gE.toArray.size=xs.length:=by rw[aaf];exact r.length.symm
  refine⟨"tuple",_,PyProof.Rows.slot_tuple_getitem.lookup,ht.typeIs,hJ ht hs pl pu (by rw[hn];exact hw) ⟨.ref a,H,I,rfl,hq hw⟩⟩
 .exact wb pins s σ H (.ref a) v vl vu lo hi sl Q I rx hs pl pu ⟨a,xs,rfl,hx,hw,q⟩
theorem o5(hc:wpAny (model prog w) A.in1 (collect x) (λvs s1=>∃(ss:List Str) (h1:Heap) (tk:Nat),s1={s with heap:=h1,toks:=tk}/\StrsAre vs ss/\vs.length<64 /\
   (∀(h2:Heap) (out:List Value) (CT:List Str) (n:Nat),(∀b o,h1.get? b=some o->h2.get? b=some o)->h2.get? h1.objs.size=some (seqObj "list" out.toArray n)->StrsAre out CT->CT.Perm ss->sortedS CT=true->Q (.ref h1.objs.size) {s with heap:=h2,toks:=tk})) E s) :
  wpAny (model prog w) A (call (.builtin "sorted") [x]) Q E s:=by
 refine afi aeX aeD aeE (args_sorted1 _) ?_
 unfold ac6.«sorted»
 refine aab (m:=checkCount "sorted" 1 1 _) (aaj (aab (aaM hc (λvs s1 hv=>?_) λ_ _ e=>e)))
 obtain⟨ss,h1,tk,rfl,hS,zO,k⟩:=hv
 refine aab (ach ?_ (by rw[aax];omega))
 have Qt:(h1.push (seqObj "list" vs.toArray 0)).get? h1.objs.size=some (seqObj "list" vs.toArray 0):=aal _ rfl
 refine aab (aaT (abJ adb ⟨_,Qt,rfl⟩ acZ (list_sort_treeK strKind_oneLt Qt hS.keysOf (λv₁ v₂ rest e=>keyKind_strs (by rw[<- e];exact hS)) zO λst p q=>⟨_,rfl,?_⟩) (afe _)))
 obtain⟨CT,b1,b2,b3⟩:=sorted_out_str hS p q
 obtain⟨n,at2⟩:=sortedHeap_at (out:=(arrOf st).map (·.2)) Qt
 refine aaj ⟨_,rfl,k _ ((arrOf st).map (·.2)).toList CT n (λb o e=>?_) (by rw[Array.toArray_toList];exact at2) b1 b2 b3⟩
 have lt:=aak e
 rw[sortedHeap_old (aaw lt) (by rw[size_push'];exact abB lt)]
 exact aad _ e
theorem mG:∀{kvs:List (Key×Value)} {ss:List Str} {vs:List Value},kvs.map (·.1)=ss.map aan->vs.length=kvs.length->(∀(j:Nat) (v:Value),vs[j]?=some v->∃k x,kvs[j]?=some (k,x)/\(aF P w).is k v=true)->StrsAre vs ss
 |[],ss,vs,e,hl,_=>by
  have:ss=[]:=by cases ss with|nil=>rfl|cons _ _=>cases e
  subst this
  have:vs=[]:=List.length_eq_zero_iff.mp hl
  subst this
  exact .nil
 |(k,x)::r,ss,vs,e,hl,h=>by
  cases ss with
  |nil=>cases e
  |cons y ys=>
   cases vs with
   |nil=>cases hl
   |cons v us=>
    rw[aau,aau]at e
    injection e with e1 e2
    obtain⟨k',x',e3,e4⟩:=h 0 v rfl
    have TL:(k,x)=(k',x'):=aao e3
    cases TL
    have MQ:k=aan y:=e1
    subst MQ
    obtain⟨t,rfl⟩:=Value.isStrOf_shape (x:=y) (v:=v) e4
    exact .cons y t (mG e2 (by simpa using hl) λj u hj=>h (j+1) u hj)
def Jr:List V->Hp->VK->Prop:=λxs H Q=>∃(d:Addr) (kvs:List (Key×V)) (ss:List Str),xs=[.ref d]/\H d=some (.dK kvs)/\kvs.map (·.1)=ss.map aan/\ss.length<64 /\
 ∀(l:Addr) (CT:List Str),H l=none->CT.Perm ss->CT.Pairwise (λa b=>¬ yL b a)->Q (.ref l) (upd H l (.lst (CT.map V.str)))
theorem pS(hc:X.calm=true):yq X (.builtin "sorted") Jr:=by
 intro pins s σ H xs us Q I r h
 obtain⟨d,kvs,ss,rfl,hd,hk,zO,k⟩:=h
 obtain⟨u,rfl,ru⟩:=r.one
 cases ru
 obtain⟨hz,lo,vs,SV,hD⟩:=I.ye d _ hd
 obtain⟨ep,Te⟩:=hD.dictAt
 have Iy:vs.map (·.1)=ss.map aan:=by rw[<- hk];exact SV.keys.symm
 have hlen:vs.length=ss.length:=by have:=congrArg acN Iy;simpa using this
 refine o5 (PySem.W.kdu_collect (A:=X.A.in1) (PySem.W.kdl_dict (knd:=aF X.prog X.w) (kvs:=vs) (ep:=ep) lo) (I.ok.hd hc) Te (by rw[hlen,aax];omega) λh1 tk acc kk hit=>?_)
 have hl:acc.toList.length=vs.length:=by rw[abe];exact hit.1
 have hS:StrsAre acc.toList ss:=mG Iy hl λj v e=>hit.2 j v (by rw[<- ad1];exact e)
 refine⟨ss,h1,tk,rfl,hS,by rw[hl,hlen];exact zO,λh2 out CT n k2 e2 o1 o2 o3=>?_⟩
 have I1:Inv X pins σ H {s with heap:=h1,toks:=tk}:=I.kept kk
 refine⟨.ref h1.objs.size,_,I1.laid (t':=tk) (a:=h1.objs.size) (o:=.lst (CT.map V.str)) (λb o q=>k2 b o q) (aam _) ?_,rfl,k _ CT (I1.ye.fresh (aam _)) o2 (ia o3)⟩
 exact⟨by rw[aae,o2.length_eq,aax];omega,out,n,fO o1,e2⟩
def Jf(P:aaE)(w:World)(a:Addr)(S:Str->Bool)(n:Nat):HO:=.ext λh=>h.SetOf (PySem.strKind P w) a S n
theorem qF:zf X (aa9 .NotIn) (λx y H Q=>∃z a S n,x=.str z/\y=.ref a/\H a=some (Jf X.prog X.w a S n)/\Q (.bl (!S z)) H):=by
 intro pins s σ H x y v u Q I rx ry h
 obtain⟨z,a,S,n,rfl,rfl,ha,q⟩:=h
 obtain⟨t,rfl⟩:=rx
 cases ry
 obtain⟨x,_,_⟩:=I.ye a _ ha
 exact wpAny_notInSet_of (knd:=PySem.strKind X.prog X.w) (strKind_is _ _ _ _) rfl x ⟨.bl (!S z),H,I.tok _,rfl,q⟩
def strAt(us:Array Value)(i:Nat):Str:=match us[i]? with|some (.str x _)=>x|_=>⟨#[]⟩
theorem vO{us:Array Value}(hn:∀v∈us,∃x t,v=.str x t):CmpOf prog w A .Gt (λi v=>us[i]?=some v) (λi j=>decide (yL (strAt us j) (strAt us i))):=λi j vi vj s Q E hi hj q=>by
 obtain⟨x,t,rfl⟩:=hn vi (Array.mem_of_getElem? hi)
 obtain⟨y,t',rfl⟩:=hn vj (Array.mem_of_getElem? hj)
 have e1:strAt us i=x:=by unfold strAt;rw[hi]
 have e2:strAt us j=y:=by unfold strAt;rw[hj]
 dsimp only at q
 rw[e1,e2]at q
 exact PySem.richCompare_gives (op:=.Gt) (typeIs_str s x t) (typeIs_str s y t') F.slot_str_gt F.entry_str_gt (F.args_str_gt_2 _ _) (gives_str_gt x y t t') (λe=>nomatch e) q
theorem Oq{x:Str}{t t':Tok}:∀v∈(#[.str x t,.str y t']:Array Value),∃z u,v=.str z u:=λv hv=>by
 simp only[List.mem_toArray,aaK,aaV,or_false]at hv
 rcases hv with rfl|rfl
 .exact⟨x,t,rfl⟩
 .exact⟨y,t',rfl⟩
theorem sR{x:Str}{t t':Tok}(hh:A.handled=none)(k:∀h' tk,(∀c o,s.heap.get? c=some o->h'.get? c=some o)->Q (if yL x y then .str y t' else .str x t) {s with heap:=h',toks:=tk}):
  wpAny (model prog w) A (call (.builtin "max") [.str x t,.str y t']) Q E s:=by
 have g:(s.heap.push {cls:=.type "tuple",data:=.seq #[.str x t,.str y t']}).IsTuple s.heap.objs.size #[.str x t,.str y t']:=⟨_,aal _ rfl,rfl,0,rfl⟩
 have sz:(s.heap.push {cls:=.type "tuple",data:=.seq #[.str x t,.str y t']}).objs.size=s.heap.objs.size+1:=aby ..
 refine call_max_two (acG g ⟨_,[_,s.heap.objs.size],[_],_,_,_,_,rfl,Walks.tuple (A:=A.in1) hh _ s.heap.objs.size (by rw[sz];exact aaw (abu _)) #[.str x t,.str y t'],
  ⟨⟨_,aal _ rfl,rfl,rfl⟩,g.push _⟩,λc hc=>?_,by simp,vO Oq,λv h' tk hP hk=>?_⟩)
 .show c<((s.heap.push _).push _).objs.size
  rw[aby,sz]
  simp only[aaK,aaV,or_false]at hc
  rcases hc with rfl|rfl
  .rw[sz];exact abu _
  .exact abB (abu _)
 .have old:∀c o,s.heap.get? c=some o->h'.get? c=some o:=λc o e=>by
   refine hk c o (λz=>?_) (aad _ (aad _ e))
   have lt:=aak e
   rw[List.mem_singleton.mp z,sz]at lt
   exact abd _ (Nat.lt_of_succ_lt lt)
  have q:=k h' tk old
  have ev:v=if yL x y then adk y t' else adk x t:=by
   by_cases c:yL x y
   .simp[argBest,strAt,c]at hP
    rw[if_pos c];exact hP.symm
   .simp[argBest,strAt,c]at hP
    rw[if_neg c];exact hP.symm
  rw[ev];exact q
def B7(x y:Str):Str:=if yL y x then y else x
def Fe(x y:Str):Str:=if yL x y then y else x
theorem pT(hc:X.calm=true):yq X (.builtin "max") (λxs H Q=>∃x y,xs=[.str x,.str y]/\Q (.str (Fe x y)) H):=by
 intro pins s σ H xs us Q I r h
 obtain⟨x,y,rfl,q⟩:=h
 obtain⟨u,v,rfl,⟨t,rfl⟩,⟨t',rfl⟩⟩:=vals2 r
 refine sR (I.ok.hd hc) λh' tk k=>⟨.str (Fe x y),H,I.kept k,?_,q⟩
 unfold Fe
 split<;>exact⟨_,rfl⟩
theorem wI:zf X (aa9 .Is) (λx y H Q=>∃a b,x=.bl a/\y=.bl b/\Q (.bl (a==b)) H):=by
 intro pins s σ H x y v u Q I rx ry h
 obtain⟨a,b,rfl,rfl,q⟩:=h
 cases rx
 cases ry
 exact is_bool ⟨.bl _,H,I,rfl,q⟩
def Ik(K:aag):R2:=λx y H Q=>∃a b xs ys,x=.ref a/\y=.ref b/\zg K H a xs/\zg K H b ys/\xs.length+ys.length<=sizeLine /\
 (xs=[]->Q (.ref b) H)/\(ys=[]->Q (.ref a) H)/\∀p,H p=none->Q (.ref p) (upd H p (.tup (xs++ys)))
theorem uP:zf X (aci .Add) (Ik X.K):=by
 intro pins s σ H x y v u Q I rx ry h
 obtain⟨a,b,xs,ys,rfl,rfl,ha,hb,hz,q0,q1,q2⟩:=h
 by_cases hx:xs=[]
 .cases rx
  cases ry
  obtain⟨gE,r1,p1,_⟩:=I.tuple ha
  obtain⟨zm,r2,p2,_⟩:=I.tuple hb
  subst hx
  cases r1
  obtain⟨⟨c1,d1,e1,l1⟩,g1,g2,n,g3⟩:=id p1
  obtain⟨⟨c2,d2,e2,l2⟩,k1,k2,n2,k3⟩:=id p2
  simp only at g2 g3 k2 k3
  subst g2 g3 k2 k3
  exact concat_meets ⟨_,g1,rfl⟩ ⟨_,k1,rfl⟩ aeK seq_tuple_add adG adB (ado _ _)
   (tuple_addW0 a b _ _ n n2 d1 d2 l1 l2 (by simp)) ⟨g1,k1,⟨.ref b,H,I,rfl,q0 rfl⟩⟩
 .exact uQ pins s σ H (.ref a) (.ref b) v u Q I rx ry ⟨a,b,xs,ys,rfl,rfl,ha,hb,hx,hz,q1,λ_=>q2⟩
variable{e st:Expr}{RU:TE}{p2:Pos}
end L2
namespace PySem
open Sem (wp)
theorem mB:typeLookup (.type "list") "keys" = pure none:=by rw[typeLookup_type,builtinLookup_eq_fast];kernel_rfl
theorem kj{prog:aaE}{w:World}{A:Around}{E:Value->Shared->Prop}{s:Shared}{a:Addr}{xs:Array Value}{k:Nat}{sl:Array (Option Value)}{Q:Option Value->Shared->Prop}
  (hx:s.heap.get? a=some {cls:=.type "list",dict:=none,data:=.seq xs k,slots:=sl}) (hA:A.handled=none)
  (h:∀h' tk e,Heap.NewExcOf s.heap h' e "AttributeError" -> Q none {s with heap:=h',toks:=tk}) :
  wpAny (model prog w) A (getAttr? (.ref a) "keys") Q E s:=by
 obtain⟨hp,g,d,tk,os⟩:=s
 have hT:∀G4,(⟨hp,g,d,G4,os⟩:Shared).TypeIs (.ref a) "list" := λ_=>⟨_,hx,rfl⟩
 have f1:=sub_AttributeError
 have f3:=F.slot_list_getattribute.lookup
 have f4:=F.slot_list_getattribute.bind (.ref a)
 have f5:=am_list_getattr_none
 unfold getAttr? getAttrBy? getAttrBy
 repeat (any_goals (first|assumption|exact hT _|((with_reducible show wpAny _ _ (call (Value.builtin "list.__getattribute__") _ _) _ _ _);refine ad2 F.slot_list_getattribute (hT _) am_entry_list_getattribute (F.args_list_getattribute_2 _ _) (meets_getattribute_miss_list a xs k sl "keys" _ mB (by decide +kernel) (by size_fits)) ⟨hx,hA,λh' G4 e NJ=>?_⟩)|wp_step))
 obtain⟨t',u',he⟩:=NJ.there
 show wpAny _ _ (getattributeRaised _ _ _ _ _ _ _) _ _ _
 unfold getattributeRaised
 have Tg:∀G4,(⟨h',g,d,G4,os⟩:Shared).TypeIs (.ref e) "AttributeError" := λ_=>⟨_,he,rfl⟩
 repeat (any_goals (first|assumption|exact Tg _|wp_step))
 exact h _ _ _ NJ.of
end PySem
namespace PySem
open PySem.Spec PyProof.Rows
theorem F.Al:entryFor table "dict.update.loop" = some ac6.«dict.update.loop»:=entryFor_of_tree (by kernel_rfl)
theorem F.yV:plainId "dict.update.loop" = true:=by decide +kernel
section
variable{prog:aaE}{w:World}{K:Type}[DecidableEq K]{knd:KeyKind prog w K}{A:Around}{R:Result->Shared->Prop}
theorem dG{h h':Heap}{d:Addr}{kvs:List (K×Value)}(x:h.DictOf knd d kvs)(k:∀o,h.get? d=some o->h'.get? d=some o):h'.DictOf knd d kvs:=by
 obtain⟨o,es,ep,ho,r⟩:=x
 exact⟨o,es,ep,k _ ho,r⟩
theorem kH{d it l:Addr}{items:Array Value}(ks:Nat->K)(vs:Nat->Value)(hsz:items.size<=1000)(PQ:d≠it)(S9:d≠l)(Hd:l≠it)(hA:A.in1.handled=none):
  ∀(k i:Nat) (s:Shared) (kvs:List (K×Value)),items.size - i=k->i<=items.size->kvs.length<=i->s.heap.DictOf knd d kvs->s.heap.IsListIter it l i->s.heap.IsList l items ->
  (∀j,j<items.size->∃p key,items[j]?=some (.ref p)/\p≠d/\p≠it/\s.heap.IsTuple p #[key,vs j]/\knd.is (ks j) key=true) ->
  (∀h' tk,h'.DictOf knd d ((List.range' i k).foldl (λkvs j=>stored kvs (ks j) (vs j)) kvs)->(∀b o,b≠d->b≠it->s.heap.get? b=some o->h'.get? b=some o)->R (.ok (.ret .none)) {s with heap:=h',toks:=tk}) ->
  aec (model prog w) A (.builtin "dict.update.loop" ⟨[.ref d,.ref it,rawInt i,.none],[]⟩) R s:=by
 intro k
 induction k with
 |zero=>
  intro i s kvs hk hi hlen hD hI hL hP hR
  refine adQ F.Al ?_
  rw[acV F.yV _]
  show wpAny _ A.in1 (pyNext (.ref it) >>= _) _ _ s
  refine aab (wpAny_pyNext_list_end hA hI hL (by rw[Array.getElem?_eq_none];omega) λh' kk=>?_)
  show wpAny _ A.in1 (Builtin.Dict.addKeywords d [] >>= _) _ _ _
  refine aab (m:=Builtin.Dict.addKeywords d []) (aaj (aaj (hR h' s.toks (dG hD λo e=>kk _ _ PQ e) λb o h1 h2 e=>kk _ _ h2 e)))
 |succ k ih=>
  intro i s kvs hk hi hlen hD hI hL hP hR
  have y6:i<items.size:=by omega
  obtain⟨p,key,ep,pd,pt,hp,Ej⟩:=hP i y6
  refine adQ F.Al ?_
  rw[acV F.yV _]
  show wpAny _ A.in1 (pyNext (.ref it) >>= _) _ _ s
  refine aab (wpAny_pyNext_list_item hI hL ep λh1 I1 k1=>?_)
  have e1:∀b o,b≠it->s.heap.get? b=some o->h1.get? b=some o:=λb o h e=>k1.extBut _ _ h e
  have NM:h1.IsTuple p #[key,vs i]:=by
   obtain⟨o,e,r⟩:=hp
   exact⟨o,e1 _ _ pt e,r⟩
  refine aab (aaT ?_)
  refine aab (acl ?_)
  obtain⟨op,QZ,R9,UD,R8⟩:=id NM
  unfold Builtin.Dict.pairItems
  refine aab (adM (T := "tuple") ⟨op,QZ,R9⟩ ?_)
  rw[if_pos (show ((abS "tuple" == abS "list") || (abS "tuple" == abS "tuple"))=true by decide)]
  refine aab (abq QZ R8 (aaj ?_))
  show wpAny _ A.in1 (acQ [key,vs i] (dictSet d key (vs i))) _ _ _
  have Tu:h1.DictOf knd d kvs:=dG hD λo e=>e1 _ _ PQ e
  refine aaT (wpAny_dictSet_pairs Ej Tu (λh2 D2 k2=>?_) (by rw[aax];omega))
  have e2:∀b o,b≠d->b≠it->s.heap.get? b=some o->h2.get? b=some o:=λb o h h' e=>k2.extBut _ _ h (e1 _ _ h' e)
  refine aaj ⟨acW F.yV _,ih (i+1) _ _ (by omega) y6 ?_ D2 ?_ ?_ ?_ ?_⟩
  .exact aaZ (stored_length_le kvs (ks i) (vs i)) (by omega)
  .obtain⟨o,e,r⟩:=I1
   exact⟨o,k2.extBut _ _ PQ.symm e,r⟩
  .obtain⟨o,e,r⟩:=hL
   exact⟨o,e2 _ _ S9.symm Hd e,r⟩
  .intro j hj
   obtain⟨p',O3,q1,q2,q3,⟨o,e,r⟩,q5⟩:=hP j hj
   exact⟨p',O3,q1,q2,q3,⟨o,e2 _ _ q2 q3 e,r⟩,q5⟩
  .intro h' tk D' kk
   refine hR h' tk ?_ λb o h h3 e=>kk _ _ h h3 (e2 _ _ h h3 e)
   rw[List.range'_succ,acJ]
   exact D'
end
section
variable{prog:aaE}{w:World}{K:Type}[DecidableEq K]{knd:KeyKind prog w K}{A:Around}{E:Value->Shared->Prop}{s:Shared}
theorem jJ{l:Addr}{items:Array Value}{n:Nat}{sl:Array (Option Value)}{Q:Value->Shared->Prop}(ks:Nat->K)(vs:Nat->Value)(hsz:items.size<=1000)(hA:A.handled=none)
  (hx:s.heap.get? l=some {cls:=.type "list",dict:=none,data:=.seq items n,slots:=sl})
  (hP:∀j,j<items.size->∃p key,items[j]?=some (.ref p)/\s.heap.IsTuple p #[key,vs j]/\knd.is (ks j) key=true)
  (hQ:∀h' tk,h'.DictOf knd s.heap.objs.size ((List.range' 0 items.size).foldl (λkvs j=>stored kvs (ks j) (vs j)) [])->(∀b o,s.heap.get? b=some o->h'.get? b=some o)->Q (.ref s.heap.objs.size) {s with heap:=h',toks:=tk}) :
  wpAny (model prog w) A (call (.type "dict") [.ref l]) Q E s:=by
 refine callType_codes (Q₁:=λobj s₁=>obj=.ref s.heap.objs.size/\s₁={s with heap:=s.heap.push {cls:=.type "dict",data:=.dict #[]}}) F.kt_called_dict (F.kt_typeCall_dict_1 _) F.entry_dict_init (kt_code_dict_new _ ⟨rfl,rfl⟩) ?_
 rintro obj s₁ ⟨rfl,rfl⟩
 have Cb:(s.heap.push {cls:=.type "dict",data:=.dict #[]}).DictOf knd s.heap.objs.size []:=Heap.DictOf.new s.heap
 have Rb:(s.heap.push {cls:=.type "dict",data:=.dict #[]}).get? l=some {cls:=.type "list",dict:=none,data:=.seq items n,slots:=sl}:=aad _ hx
 refine⟨Cb.typeIs,F.args_dict_init_2 _ _,?_⟩
 unfold ac6.«dict.__init__»
 refine aab ?_
 unfold Builtin.Dict.selfAndRest
 refine aab (wpAny_notOrdered_dict Cb.typeIs ?_)
 show wpAny _ _ (pure (s.heap.objs.size,[aas l])) _ _ _
 refine aaj ?_
 show wpAny _ _ (Builtin.Dict.updateFrom "dict.__init__" s.heap.objs.size (.ref l) [] .none) _ _ _
 unfold Builtin.Dict.updateFrom
 refine aab (adM (T := "list") ⟨_,Rb,rfl⟩ ?_)
 rw[if_pos (by decide)]
 refine aab (m:=getAttr? (.ref l) "keys") (kj Rb hA λh2 tk e ne=>?_)
 rw[if_pos (by rfl)]
 have up:∀b o,s.heap.get? b=some o->h2.get? b=some o:=λb o q=>ne.keeps _ _ (aad _ q)
 have G9:=up _ _ hx
 have Ry:h2.DictOf knd s.heap.objs.size []:=dG Cb λo q=>ne.keeps _ _ q
 have Fj:h2.IsList l items:=⟨_,G9,rfl,n,rfl⟩
 have TQ:s.heap.objs.size≠l:=abQ (aak hx)
 have TR:s.heap.objs.size≠h2.objs.size:=by
  obtain⟨_,_,_,ho,_⟩:=Ry
  exact aaw (aak ho)
 have TN:l≠h2.objs.size:=aaw (aak G9)
 refine aab (acD (aab (adi (s:={s with heap:=h2,toks:=tk}) Fj ?_)))
 refine aaj ⟨acW F.yV _,?_⟩
 refine kH (A:=A.in1) (knd:=knd) (it:=h2.objs.size) ks vs hsz TR TQ TN hA items.size 0 _ [] (by omega) (aaU _) (aam _) (dG Ry λo q=>aad _ q) ⟨_,aal _ rfl,rfl,rfl⟩ ⟨_,aad _ G9,rfl,n,rfl⟩ ?_ ?_
 .intro j hj
  obtain⟨p,key,q1,⟨o,q2,r⟩,q3⟩:=hP j hj
  exact⟨p,key,q1,aaw (aak q2),aaw (aak (up _ _ q2)),⟨o,aad _ (up _ _ q2),r⟩,q3⟩
 .intro h' G4 D kk
  exact⟨rfl,hQ h' G4 D λb o q=>kk b o (aaw (aak q)) (aaw (aak (up _ _ q))) (aad _ (up _ _ q))⟩
end
end PySem
namespace L2
open PySem PySem.Spec PyProof.Rows
theorem oq(zu:List (Str×V))(vf:Nat->Value)(h:∀j (hj:j<zu.length),RelV zu[j].2 (vf j)):∀n,n<=zu.length ->
  KV ((zu.take n).foldl (λkvs kv=>putK kvs (aan kv.1:Key) kv.2) []) ((List.range' 0 n).foldl (λkvs j=>stored kvs (aan ((zu[j]?.getD (Str.empty,V.lT)).1):Key) (vf j)) [])
 |0,_=>.nil
 |n+1,hn=>by
  have ih:=oq zu vf h n (by omega)
  have y6:n<zu.length:=by omega
  rw[List.range'_1_concat,ads,abx,ads,aaa y6]
  simp only[Option.toList_some,acJ,List.foldl_nil,aaY]
  rw[aaa y6,acB]
  exact ih.put _ (h n y6)
theorem tD(zu:List (Str×V)):∀(kvs:List (Key×V)),(zu.foldl (λkvs kv=>putK kvs (aan kv.1:Key) kv.2) kvs).length<=kvs.length+zu.length:=by
 induction zu with
 |nil=>intro kvs;simp
 |cons x r ih=>
  intro kvs
  rw[acJ,aaR]
  have:=ih (putK kvs (aan x.1) x.2)
  have h2:(putK kvs (aan x.1:Key) x.2).length<=kvs.length+1:=by
   unfold putK
   split
   .rw[aae];omega
   .rw[aaQ];simp
  omega
variable{X:Cx}
end L2
namespace Q
open PySem L2
inductive PV where
 |lT|bl (b:Bool)|int (i:Int)|str (x:Str)|tup (xs:List PV)|lst (xs:List PV)|yw (kvs:List (Key×PV))|set (xs:List Str)|Ap (ns:List Int)
def DK(K:aag)(F:Hp)(a:Addr)(ns:List Int):Prop:=(∃o,F a=some (.Ay o (.lst (ns.map V.int)))) \/
 ∃(o:Obj) (gE:Array Value) (n:Nat),K.lookup a=some o/\o.cls=.type "list" /\ o.dict=none/\o.data=.seq gE n/\gE.size<=sizeLine/\tO (ns.map V.int) gE.toList
mutual
inductive Rep (K:aag) (F:Hp):V->PV->Prop where
 |lT:Rep K F .lT .lT
 |bl (b:Bool):Rep K F (.bl b) (.bl b)
 |int (i:Int):Rep K F (.int i) (.int i)
 |str (x:Str):Rep K F (.str x) (.str x)
 |tup {a:Addr} {vs:List V} {xs:List PV}:zg K F a vs->oF K F vs xs->Rep K F (.ref a) (.tup xs)
 |lst {a:Addr} {vs:List V} {xs:List PV}:F a=some (.lst vs)->oF K F vs xs->Rep K F (.ref a) (.lst xs)
 |yw {a:Addr} {vs:List (Key×V)} {xs:List (Key×PV)}:F a=some (.dK vs)->nE K F vs xs->Rep K F (.ref a) (.yw xs)
 |Ap {a:Addr} {ns:List Int}:DK K F a ns->Rep K F (.ref a) (.Ap ns)
inductive oF (K:aag) (F:Hp):List V->List PV->Prop where
 |nil:oF K F [] []
 |cons {v:V} {x:PV} {vs:List V} {xs:List PV}:Rep K F v x->oF K F vs xs->oF K F (v::vs) (x::xs)
inductive nE (K:aag) (F:Hp):List (Key×V)->List (Key×PV)->Prop where
 |nil:nE K F [] []
 |cons {k:Key} {v:V} {x:PV} {vs:List (Key×V)} {xs:List (Key×PV)}:Rep K F v x->nE K F vs xs->nE K F ((k,v)::vs) ((k,x)::xs)
end
variable{K:aag}{F F' H:Hp}
variable{a:Addr}
theorem cQ{xs:List V}(s:dO F F')(h:zp K F a xs):zp K F' a xs:=by
 rcases h with (h|⟨o,h⟩)|h
 .exact .inl (.inl (s _ _ h))
 .exact .inl (.inr ⟨o,s _ _ h⟩)
 .exact .inr h
theorem aw{xs:List V}(s:dO F F')(h:zg K F a xs):zg K F' a xs:=by
 rcases h with (h|⟨o,h⟩)|h
 .exact .inl (.inl (s _ _ h))
 .exact .inl (.inr ⟨o,s _ _ h⟩)
 .exact .inr h
variable{ns:List Int}
theorem iE(s:dO F F')(h:DK K F a ns):DK K F' a ns:=by
 rcases h with ⟨o,h⟩|h
 .exact .inl ⟨o,s _ _ h⟩
 .exact .inr h
theorem DK.sq(h:DK K F a ns):zp K F a (ns.map V.int):=by
 rcases h with ⟨o,h⟩|h
 .exact .inl (.inr ⟨o,h⟩)
 .exact .inr h
variable{v:V}{x:PV}
theorem Rep.mono(s:dO F F')(h:Rep K F v x):Rep K F' v x :=
 Rep.rec (K:=K) (F:=F) (motive_1:=λv x _=>Rep K F' v x) (motive_2:=λvs xs _=>oF K F' vs xs) (motive_3:=λvs xs _=>nE K F' vs xs)
  .lT .bl .int .str (λa _ b=>.tup (aw s a) b) (λa _ b=>.lst (s _ _ a) b) (λa _ b=>.yw (s _ _ a) b) (λa=>.Ap (iE s a)) .nil (λ_ _ a b=>.cons a b) .nil (λ_ _ a b=>.cons a b) h
variable{vs:List V}{xs:List PV}
theorem oF.mono(s:dO F F')(h:oF K F vs xs):oF K F' vs xs :=
 oF.rec (K:=K) (F:=F) (motive_1:=λv x _=>Rep K F' v x) (motive_2:=λvs xs _=>oF K F' vs xs) (motive_3:=λvs xs _=>nE K F' vs xs)
  .lT .bl .int .str (λa _ b=>.tup (aw s a) b) (λa _ b=>.lst (s _ _ a) b) (λa _ b=>.yw (s _ _ a) b) (λa=>.Ap (iE s a)) .nil (λ_ _ a b=>.cons a b) .nil (λ_ _ a b=>.cons a b) h
theorem nE.mono{vs:List (Key×V)}{xs:List (Key×PV)}(s:dO F F')(h:nE K F vs xs):nE K F' vs xs :=
 nE.rec (K:=K) (F:=F) (motive_1:=λv x _=>Rep K F' v x) (motive_2:=λvs xs _=>oF K F' vs xs) (motive_3:=λvs xs _=>nE K F' vs xs)
  .lT .bl .int .str (λa _ b=>.tup (aw s a) b) (λa _ b=>.lst (s _ _ a) b) (λa _ b=>.yw (s _ _ a) b) (λa=>.Ap (iE s a)) .nil (λ_ _ a b=>.cons a b) .nil (λ_ _ a b=>.cons a b) h
theorem oF.ind{motive:∀vs xs,oF K F vs xs->Prop}(h:oF K F vs xs)(nil:motive [] [] .nil)(cons:∀{v x vs xs} (a:Rep K F v x) (r:oF K F vs xs),motive vs xs r->motive (v::vs) (x::xs) (.cons a r)):motive vs xs h :=
 oF.rec (K:=K) (F:=F) (motive_1:=λ_ _ _=>True) (motive_2:=motive) (motive_3:=λ_ _ _=>True)
  trivial (λ_=>trivial) (λ_=>trivial) (λ_=>trivial) (λ_ _ _=>trivial) (λ_ _ _=>trivial) (λ_ _ _=>trivial) (λ_=>trivial) nil (λa r _ b=>cons a r b) trivial (λ_ _ _ _=>trivial) h
theorem nE.ind{motive:∀vs xs,nE K F vs xs->Prop}{vs:List (Key×V)}{xs:List (Key×PV)}(h:nE K F vs xs)(nil:motive [] [] .nil)(cons:∀{k v x vs xs} (a:Rep K F v x) (r:nE K F vs xs),motive vs xs r->motive ((k,v)::vs) ((k,x)::xs) (.cons a r)):motive vs xs h :=
 nE.rec (K:=K) (F:=F) (motive_1:=λ_ _ _=>True) (motive_2:=λ_ _ _=>True) (motive_3:=motive)
  trivial (λ_=>trivial) (λ_=>trivial) (λ_=>trivial) (λ_ _ _=>trivial) (λ_ _ _=>trivial) (λ_ _ _=>trivial) (λ_=>trivial) trivial (λ_ _ _ _=>trivial) nil (λa r _ b=>cons a r b) h
theorem oF.len(h:oF K F vs xs):vs.length=xs.length:=by
 induction h using oF.ind with
 |nil=>rfl
 |cons _ _ ih=>exact congrArg (·+1) ih
variable{i:Nat}
theorem oF.get(h:oF K F vs xs)(e:xs[i]?=some x):∃v,vs[i]?=some v/\Rep K F v x:=by
 induction h using oF.ind generalizing i with
 |nil=>cases e
 |cons a _ ih=>cases i with
  |zero=>cases e;exact⟨_,rfl,a⟩
  |succ i=>exact ih e
theorem oF.GK(h:oF K F vs xs)(e:vs[i]?=some v):∃x,xs[i]?=some x/\Rep K F v x:=by
 induction h using oF.ind generalizing i with
 |nil=>cases e
 |cons a _ ih=>cases i with
  |zero=>cases e;exact⟨_,rfl,a⟩
  |succ i=>exact ih e
variable{ws:List V}{ys:List PV}
theorem oF.app(h:oF K F vs xs)(k:oF K F ws ys):oF K F (vs++ws) (xs++ys):=by
 induction h using oF.ind with
 |nil=>exact k
 |cons a _ ih=>exact .cons a ih
theorem oF.take(n:Nat)(h:oF K F vs xs):oF K F (vs.take n) (xs.take n):=by
 induction h using oF.ind generalizing n with
 |nil=>cases n<;>exact .nil
 |cons a _ ih=>cases n with
  |zero=>exact .nil
  |succ n=>exact .cons a (ih n)
theorem oF.drop(n:Nat)(h:oF K F vs xs):oF K F (vs.drop n) (xs.drop n):=by
 induction h using oF.ind generalizing n with
 |nil=>cases n<;>exact .nil
 |cons a r ih=>cases n with
  |zero=>exact .cons a r
  |succ n=>exact ih n
theorem oF.OB(n:Nat)(k:Rep K F v x)(h:oF K F vs xs):oF K F (vs.set n v) (xs.set n x):=by
 induction h using oF.ind generalizing n with
 |nil=>exact .nil
 |cons a r ih=>cases n with
  |zero=>exact .cons k r
  |succ n=>exact .cons a (ih n)
theorem nE.len{vs:List (Key×V)}{xs:List (Key×PV)}(h:nE K F vs xs):vs.length=xs.length:=by
 induction h using nE.ind with
 |nil=>rfl
 |cons _ _ ih=>exact congrArg (·+1) ih
theorem nE.keys{vs:List (Key×V)}{xs:List (Key×PV)}(h:nE K F vs xs):vs.map (·.1)=xs.map (·.1):=by
 induction h using nE.ind with
 |nil=>rfl
 |cons _ _ ih=>exact congrArg (List.cons _) ih
structure Sl where
 k:Nat
 v:PV
abbrev En:=List (Option Sl)
structure zl where
 P:Hp->Hp->Addr->List Addr->PV->Prop
 mono:∀F F' H H' a l x,P F H a l x->dO F F'->(∀c∈l,H' c=H c)->P F' H' a l x
structure Md where
 P:aaE
 w:World
 K:aag
 ob:zl
structure Zn where
 H₀:Hp
 F₀:Hp
 S:List Addr
 oa:Nat->Option Addr:=λ_=>none
 sS:∀b∈S,H₀ b≠none
def zF(M:Md)(F H:Hp)(a:Addr):PV->Prop
 |.lst xs=>∃vs,H a=some (.lst vs)/\oF M.K F vs xs
 |.yw xs=>∃vs,H a=some (.dK vs)/\nE M.K F vs xs
 |.set xs=>H a=some (Jf M.P M.w a (λs=>decide (s∈xs)) xs.length)
 |_=>False
variable{M:Md}{H':Hp}
theorem zF.mono(s:dO F F')(e:H' a=H a)(h:zF M F H a x):zF M F' H' a x:=by
 cases x<;>try exact h.elim
 .obtain⟨vs,h1,h2⟩:=h
  exact⟨vs,e.trans h1,h2.mono s⟩
 .obtain⟨vs,h1,h2⟩:=h
  exact⟨vs,e.trans h1,h2.mono s⟩
 .exact e.trans h
def Ck(M:Md)(Z:Zn)(F H:Hp)(v:V)(s:Sl)(fp:List Addr):Prop :=
 (s.k=0/\fp=[]/\Rep M.K F v s.v)\/(s.k=1/\∃a,v=.ref a/\fp=[a]/\Z.H₀ a=none/\zF M F H a s.v) \/
 ((s.k=2\/s.k=4)/\∃a,v=.ref a/\(∀c∈fp,c∈Z.S\/Z.H₀ c=none)/\M.ob.P F H a fp s.v) \/
 (s.k=3/\∃a,v=.ref a/\fp=[a]/\a∈Z.S/\zF M F H a s.v)
structure Slots(M:Md)(Z:Zn)(F:Hp)(σ:St)(H:Hp)(env:En)(fp:Nat->List Addr):Prop where
 at':∀i s,env[i]?=some (some s)->∃v,σ[i]?=some (some v)/\Ck M Z F H v s (fp i)
 al:∀i a,a∈fp i->H a≠none/\F a=none
 dj:∀i j a,i≠j->a∈fp i->a∉fp j
 oa:∀i a s,Z.oa i=some a->env[i]?=some (some s)->s.k=2->σ[i]?=some (some (.ref a))
structure x3(M:Md)(Z:Zn)(F:Hp)(σ:St)(H:Hp)(env:En):Prop where
 sF:dO F H
 sG:∀b o,Z.H₀ b=some o->b∉Z.S->H b=some o
 pr:∀b,Z.H₀ b≠none->H b≠none
 gr:dO Z.F₀ F
 nw:∀a,F a≠none->Z.F₀ a≠none\/Z.H₀ a=none
 len:env.length=σ.length
 sl:∃fp,Slots M Z F σ H env fp
variable{Z:Zn}{σ:St}{env:En}{s:Sl}{fp:List Addr}
theorem Ck.mono(s1:dO F F')(e:∀c∈fp,H' c=H c)(h:Ck M Z F H v s fp):Ck M Z F' H' v s fp:=by
 rcases h with ⟨a,b,c⟩|⟨a,p,rfl,rfl,c,d⟩|⟨a,p,rfl,c,d⟩|⟨a,p,rfl,rfl,c,d⟩
 .exact .inl ⟨a,b,c.mono s1⟩
 .exact .inr (.inl ⟨a,p,rfl,rfl,c,d.mono s1 (e p (by simp))⟩)
 .exact .inr (.inr (.inl ⟨a,p,rfl,c,M.ob.mono _ _ _ _ _ _ _ d s1 e⟩))
 .exact .inr (.inr (.inr ⟨a,p,rfl,rfl,c,d.mono s1 (e p (by simp))⟩))
theorem am:dO H H:=λ_ _ h=>h
theorem ah{A B C:Hp}(x:dO A B)(y:dO B C):dO A C:=λa o h=>y a o (x a o h)
variable{p:Addr}{o:HO}
theorem ay(h:F p=none):dO F (upd F p o):=λa u e=>by rw[af (av e h)];exact e
theorem dO.none_of{A B:Hp}(s:dO A B)(h:B a=none):A a=none:=by
 cases e:A a with
 |none=>rfl
 |some o=>rw[s a o e]at h;cases h
theorem Slots.move{fp:Nat->List Addr}(L:Slots M Z F σ H env fp)(s1:dO F F')(s3:∀i c o,c∈fp i->H c=some o->H' c=some o)(nw:∀a,F' a≠none->F a≠none\/H a=none):Slots M Z F' σ H' env fp:=by
 refine⟨λi s h=>?_,λi a h=>?_,L.dj,L.oa⟩
 .obtain⟨v,h1,h2⟩:=L.at' i s h
  refine⟨v,h1,h2.mono s1 λc hc=>?_⟩
  cases e:H c with
  |none=>exact absurd e (L.al i c hc).1
  |some o=>exact s3 i c o hc e
 .obtain⟨h1,h2⟩:=L.al i a h
  constructor
  .cases e:H a with
   |none=>exact absurd e h1
   |some o=>rw[s3 i a o h e];simp
  .cases e:F' a with
   |none=>rfl
   |some o=>
    rcases nw a (by rw[e];simp)with z|z
    .exact absurd h2 z
    .exact absurd z h1
variable{l:List Addr}
theorem Slots.put{fp:Nat->List Addr}(L:Slots M Z F σ H env fp)(hk:s.k≠2)(hi:i<σ.length)(h:Ck M Z F H v s l)(al:∀a∈l,H a≠none/\F a=none)(dj:∀j a,j≠i->a∈l->a∉fp j):
  Slots M Z F (σ.set i (some v)) H (env.set i (some s)) (λj=>if j=i then l else fp j):=by
 refine⟨λj t e=>?_,λj a e=>?_,λj k a DY e z=>?_,λj a t e1 e2 e3=>?_⟩
 case refine_4=>
  by_cases q:j=i
  .subst q
   rw[abC]at e2
   simp only[if_true]at e2
   split at e2
   .cases e2;exact absurd e3 hk
   .cases e2
  .rw[aaD (abO q)]at e2
   rw[aaD (abO q)]
   exact L.oa j a t e1 e2 e3
 .by_cases q:j=i
  .subst q
   rw[abC]at e
   simp only[if_true]at e
   split at e
   .first|(exfalso;revert e;simp;done)|cases e
    exact⟨v,by simp[hi],by rw[if_pos rfl];exact h⟩
   .first|(exfalso;revert e;simp;done)|cases e
  .rw[aaD (abO q)]at e
   rw[aaD (abO q),if_neg q]
   exact L.at' j t e
 .by_cases q:j=i
  .rw[if_pos q]at e;exact al a e
  .rw[if_neg q]at e;exact L.al j a e
 .by_cases q:j=i
  .rw[if_pos q]at e
   rw[if_neg (λy=>DY (q.trans y.symm))]at z
   exact dj k a (λy=>DY (q.trans y.symm)) e z
  .rw[if_neg q]at e
   by_cases q2:k=i
   .rw[if_pos q2]at z
    exact dj j a q z e
   .rw[if_neg q2]at z
    exact L.dj j k a DY e z
theorem Slots.push{fp:Nat->List Addr}(L:Slots M Z F σ H env fp)(hk:s.k≠2)(hn:env.length=σ.length)(h:Ck M Z F H v s l)(al:∀a∈l,H a≠none/\F a=none)(dj:∀j a,a∈l->a∉fp j):
  Slots M Z F (σ++[some v]) H (env++[some s]) (λj=>if j=env.length then l else fp j):=by
 refine⟨λj t e=>?_,λj a e=>?_,λj k a DY e z=>?_,λj a t e1 e2 e3=>?_⟩
 case refine_4=>
  by_cases q:j=env.length
  .subst q
   simp at e2
   subst e2
   exact absurd e3 hk
  .have hj:j<env.length:=by
    have:j<(env++[some s]).length:=by
     rcases aa4 j (env++[some s]).length with y|y
     .exact y
     .rw[aaq y]at e2;cases e2
    simp at this;omega
   rw[aav hj]at e2
   rw[aav (by omega)]
   exact L.oa j a t e1 e2 e3
 .by_cases q:j=env.length
  .subst q
   simp at e
   subst e
   exact⟨v,by rw[hn];simp,by rw[if_pos rfl];exact h⟩
  .rw[if_neg q]
   have hj:j<env.length:=by
    have:j<(env++[some s]).length:=by
     rcases aa4 j (env++[some s]).length with y|y
     .exact y
     .rw[aaq y]at e;cases e
    simp at this;omega
   rw[aav hj]at e
   rw[aav (by omega)]
   exact L.at' j t e
 .by_cases q:j=env.length
  .rw[if_pos q]at e;exact al a e
  .rw[if_neg q]at e;exact L.al j a e
 .by_cases q:j=env.length
  .rw[if_pos q]at e
   rw[if_neg (λy=>DY (q.trans y.symm))]at z
   exact dj k a e z
  .rw[if_neg q]at e
   by_cases q2:k=env.length
   .rw[if_pos q2]at z
    exact dj j a z e
   .rw[if_neg q2]at z
    exact L.dj j k a DY e z
theorem Slots.drop{fp:Nat->List Addr}(L:Slots M Z F (σ++[some v]) H (env++[some s]) fp)(hn:env.length=σ.length):Slots M Z F σ H env fp:=by
 have lt:∀{j:Nat} {t:Sl},env[j]?=some (some t)->j<env.length:=λ{j t} e=>by
  rcases aa4 j env.length with y|y
  .exact y
  .rw[aaq y]at e;cases e
 refine⟨λj t e=>?_,L.al,L.dj,λj a t e1 e2 e3=>?_⟩
 .have hj:=lt e
  obtain⟨v',h1,h2⟩:=L.at' j t (by rw[aav hj];exact e)
  rw[aav (by omega)]at h1
  exact⟨v',h1,h2⟩
 .have hj:=lt e2
  have:=L.oa j a t e1 (by rw[aav hj];exact e2) e3
  rw[aav (by omega)]at this
  exact this
theorem Slots.last{fp:Nat->List Addr}(L:Slots M Z F (σ++[some v]) H (env++[some s]) fp)(hn:env.length=σ.length):Ck M Z F H v s (fp env.length):=by
 obtain⟨v',h1,h2⟩:=L.at' env.length s (by simp)
 rw[hn]at h1
 simp at h1
 subst h1
 exact h2
theorem x3.h0(K:x3 M Z F σ H env)(h:H a=none):Z.H₀ a=none:=by
 cases e:Z.H₀ a with
 |none=>rfl
 |some o=>exact absurd h (K.pr a (by rw[e];simp))
theorem x3.move(K:x3 M Z F σ H env)(s1:dO F F')(s2:dO F' H')(s3:dO H H')(nw:∀a,F' a≠none->F a≠none\/H a=none):x3 M Z F' σ H' env:=by
 obtain⟨fp,L⟩:=K.sl
 refine⟨s2,λb o h1 h2=>s3 b o (K.sG b o h1 h2),λb h=>?_,ah K.gr s1,λa h=>?_,K.len,fp,L.move s1 (λ_ c o _ e=>s3 c o e) nw⟩
 .cases e:H b with
  |none=>exact absurd e (K.pr b h)
  |some o=>rw[s3 b o e];simp
 .rcases nw a h with h1|h1
  .exact K.nw a h1
  .exact .inr (K.h0 h1)
theorem x3.lay(K:x3 M Z F σ H env)(h:H p=none):x3 M Z (upd F p o) σ (upd H p o) env:=by
 have hF:F p=none:=dO.none_of K.sF h
 refine K.move (ay hF) (λa u e=>?_) (ay h) λa e=>?_
 .by_cases q:a=p
  .subst q;rw[ai]at e ⊢;exact e
  .rw[af q]at e ⊢;exact K.sF a u e
 .by_cases q:a=p
  .subst q;exact .inr h
  .rw[af q]at e;exact .inl e
theorem x3.slots{σ':St}{eQ:En}{fp:Nat->List Addr}(K:x3 M Z F σ H env)(hn:eQ.length=σ'.length)(L:Slots M Z F σ' H eQ fp):x3 M Z F σ' H eQ:=⟨K.sF,K.sG,K.pr,K.gr,K.nw,hn,fp,L⟩
theorem x3.own(K:x3 M Z F σ H env)(h:H p=none)(hx:zF M F (upd H p o) p x):x3 M Z F (σ++[some (.ref p)]) (upd H p o) (env++[some ⟨1,x⟩]):=by
 have hF:F p=none:=dO.none_of K.sF h
 have K1:x3 M Z F σ (upd H p o) env:=K.move am (λa u e=>by rw[af (av e hF)];exact K.sF a u e) (ay h) λa e=>.inl e
 obtain⟨fp,L⟩:=K.sl
 have L1:Slots M Z F σ (upd H p o) env fp:=L.move am (λ_ c u _ e=>ay h c u e) λa e=>.inl e
 refine K1.slots (by simp[K.len]) (L1.push (l:=[p]) (by simp) K.len (.inr (.inl ⟨rfl,p,rfl,rfl,K.h0 h,hx⟩)) (λa ha=>?_) λj a ha hj=>?_)
 .simp at ha;subst ha
  exact⟨by rw[ai];simp,hF⟩
 .simp at ha;subst ha
  exact(L.al j a hj).1 h
theorem x3.drop(K:x3 M Z F (σ++[some v]) H (env++[some s])):x3 M Z F σ H env:=by
 have hn:env.length=σ.length:=by have:=K.len;simpa using this
 obtain⟨fp,L⟩:=K.sl
 exact K.slots hn (L.drop hn)
theorem zF.rep(h:zF M F H a x)(hx:∀xs,x≠.set xs)(hF:F a=none)(ho:H a=some o):Rep M.K (upd F a o) (.ref a) x:=by
 have s1:dO F (upd F a o):=ay hF
 cases x<;>try exact h.elim
 .obtain⟨vs,h1,h2⟩:=h
  rw[ho]at h1;cases h1
  exact .lst ai (h2.mono s1)
 .obtain⟨vs,h1,h2⟩:=h
  rw[ho]at h1;cases h1
  exact .yw ai (h2.mono s1)
 .exact absurd rfl (hx _)
theorem x3.Ay{fp:Nat->List Addr}{σ':St}{eQ:En}(K:x3 M Z F σ H env)(L:Slots M Z F σ H env fp)(hf:fp i=[a])(h0:Z.H₀ a=none)(ho:H a=some o)
  (hn:eQ.length=σ'.length) (hs:∀j s,j≠i->eQ[j]?=some (some s)->env[j]?=some (some s)/\σ'[j]?=σ[j]?)
  (hi:∀s,eQ[i]?=some (some s)->∃v,σ'[i]?=some (some v)/\s.k=0/\Rep M.K (upd F a o) v s.v):x3 M Z (upd F a o) σ' H eQ:=by
 have ha:=L.al i a (by rw[hf];simp)
 have s1:dO F (upd F a o):=ay ha.2
 refine⟨λb u e=>?_,K.sG,K.pr,ah K.gr s1,λb e=>?_,hn,λj=>if j=i then []else fp j,λj s h=>?_,λj b h=>?_,λj k b DY h z=>?_,λj b t e1 e2 e3=>?_⟩
 .by_cases q:b=a
  .subst q;rw[ai]at e;cases e;exact ho
  .rw[af q]at e;exact K.sF b u e
 .by_cases q:b=a
  .subst q;exact .inr h0
  .rw[af q]at e;exact K.nw b e
 .by_cases q:j=i
  .subst q
   obtain⟨v,h1,h2,h3⟩:=hi s h
   exact⟨v,h1,.inl ⟨h2,if_pos rfl,h3⟩⟩
  .obtain⟨e1,e2⟩:=hs j s q h
   obtain⟨v,h1,h2⟩:=L.at' j s e1
   exact⟨v,by rw[e2];exact h1,by rw[if_neg q];exact h2.mono s1 λ_ _=>rfl⟩
 .by_cases q:j=i
  .rw[if_pos q]at h;simp at h
  .rw[if_neg q]at h
   have hb:=L.al j b h
   have:b≠a:=λz=>L.dj j i b q h (by rw[hf,z];simp)
   exact⟨hb.1,by rw[af this];exact hb.2⟩
 .by_cases q:j=i
  .rw[if_pos q]at h;simp at h
  .rw[if_neg q]at h
   by_cases q2:k=i
   .rw[if_pos q2]at z;simp at z
   .rw[if_neg q2]at z;exact L.dj j k b DY h z
 .by_cases q:j=i
  .subst q
   obtain⟨_,_,h2,_⟩:=hi t e2
   rw[e3]at h2;cases h2
  .obtain⟨f1,f2⟩:=hs j t q e2
   rw[f2];exact L.oa j b t e1 f1 e3
theorem bP(h:H a≠none):∃o,H a=some o:=by
 cases e:H a with
 |none=>exact absurd e h
 |some o=>exact⟨o,rfl⟩
theorem x3.EY(K:x3 M Z F (σ++[some v]) H (env++[some ⟨1,x⟩]))(hx:∀xs,x≠.set xs):∃F',dO F F'/\x3 M Z F' σ H env/\Rep M.K F' v x:=by
 have hn:env.length=σ.length:=by have:=K.len;simpa using this
 obtain⟨fp,L⟩:=K.sl
 rcases L.last hn with ⟨e,_⟩|⟨_,a,rfl,hf,h0,hw⟩|⟨e,_⟩|⟨e,_⟩
 .first|(exfalso;revert e;simp;done)|cases e
 .have ha:=L.al env.length a (by rw[hf];simp)
  obtain⟨o,ho⟩:=bP ha.1
  refine⟨upd F a o,ay ha.2,K.Ay L hf h0 ho hn (λj s _ e=>?_) (λs e=>?_),hw.rep hx ha.2 ho⟩
  .have hj:j<env.length:=by
    rcases aa4 j env.length with y|y
    .exact y
    .rw[aaq y]at e;cases e
   rw[aav hj,aav (by omega)]
   exact⟨e,rfl⟩
  .simp at e
 .first|(exfalso;revert e;simp;done)|cases e
 .first|(exfalso;revert e;simp;done)|cases e
theorem x3.freeze(K:x3 M Z F σ H env)(hi:env[i]?=some (some ⟨1,x⟩))(hx:∀xs,x≠.set xs):∃F' v,σ[i]?=some (some v)/\dO F F'/\x3 M Z F' σ H (env.set i (some ⟨0,x⟩))/\Rep M.K F' v x:=by
 obtain⟨fp,L⟩:=K.sl
 obtain⟨v,hv,h⟩:=L.at' i _ hi
 rcases h with ⟨e,_⟩|⟨_,a,rfl,hf,h0,hw⟩|⟨e,_⟩|⟨e,_⟩
 .first|(exfalso;revert e;simp;done)|cases e
 .have ha:=L.al i a (by rw[hf];simp)
  obtain⟨o,ho⟩:=bP ha.1
  refine⟨upd F a o,_,hv,ay ha.2,K.Ay L hf h0 ho (by simp[K.len]) (λj s q e=>?_) (λs e=>?_),hw.rep hx ha.2 ho⟩
  .rw[aaD (abO q)]at e
   exact⟨e,rfl⟩
  .rw[abC]at e
   simp only[if_true]at e
   split at e
   .first|(exfalso;revert e;simp;done)|cases e
    exact⟨_,hv,rfl,hw.rep hx ha.2 ho⟩
   .first|(exfalso;revert e;simp;done)|cases e
 .first|(exfalso;revert e;simp;done)|cases e
 .first|(exfalso;revert e;simp;done)|cases e
theorem x3.put(K:x3 M Z F σ H env)(h:Rep M.K F v x):x3 M Z F (σ.set i (some v)) H (env.set i (some ⟨0,x⟩)):=by
 obtain⟨fp,L⟩:=K.sl
 rcases aa4 i env.length with hi|hi
 case inr=>
  rw[abl hi,abl (by have:=K.len;omega)]
  exact K
 exact K.slots (by simp[K.len]) (L.put (l:=[]) (by simp) (by have:=K.len;omega) (.inl ⟨rfl,rfl,h⟩) (λa h=>by simp at h) λj a _ h=>by simp at h)
theorem x3.take(K:x3 M Z F (σ++[some v]) H (env++[some s]))(hk:s.k≠2:=by simp):x3 M Z F (σ.set i (some v)) H (env.set i (some s)):=by
 have hn:env.length=σ.length:=by have:=K.len;simpa using this
 rcases aa4 i env.length with hi|hi
 case inr=>
  rw[abl hi,abl (by omega)]
  exact K.drop
 obtain⟨fp,L⟩:=K.sl
 have hl:=L.last hn
 refine K.slots (by simp[hn]) (Slots.put (l:=fp env.length) (fp:=λj=>if j=env.length then []else fp j) ⟨λj t e=>?_,λj a e=>?_,λj k a DY e z=>?_,(L.drop hn).oa⟩ hk (by omega) hl (λa=>L.al _ a) λj a _ h z=>?_)
 .have hj:j<env.length:=by
   rcases aa4 j env.length with y|y
   .exact y
   .rw[aaq y]at e;cases e
  rw[if_neg (by omega)]
  obtain⟨v',h1,h2⟩:=L.at' j t (by rw[aav hj];exact e)
  rw[aav (by omega)]at h1
  exact⟨v',h1,h2⟩
 .split at e
  .simp at e
  .exact L.al j a e
 .split at e
  .simp at e
  .split at z
   .simp at z
   .exact L.dj j k a DY e z
 .split at z
  .simp at z
  .rename_i q
   exact L.dj env.length j a (abO q) h z
variable{k:Nat}{y:PV}
theorem x3.write(K:x3 M Z F σ H env)(hk:k=1\/k=3)(hi:env[i]?=some (some ⟨k,x⟩))(hv:σ[i]?=some (some (.ref a)))(hw:zF M F (upd H a o) a y):x3 M Z F σ (upd H a o) (env.set i (some ⟨k,y⟩)):=by
 obtain⟨fp,L⟩:=K.sl
 obtain⟨v,GC,h⟩:=L.at' i _ hi
 rw[hv]at GC;cases GC
 obtain⟨hf,hd,Cb⟩:fp i=[a]/\(Z.H₀ a=none\/a∈Z.S)/\Ck M Z F (upd H a o) (.ref a) ⟨k,y⟩ [a]:=by
  rcases h with ⟨e,_⟩|⟨e,a',ea,hf,h0,hx⟩|⟨e,_⟩|⟨e,a',ea,hf,h0,hx⟩
  .rcases hk with rfl|rfl<;>exact absurd e (by simp)
  .cases ea
   exact⟨hf,.inl h0,.inr (.inl ⟨e,a,rfl,rfl,h0,hw⟩)⟩
  .rcases hk with rfl|rfl<;>exact absurd e (by simp)
  .cases ea
   exact⟨hf,.inr h0,.inr (.inr (.inr ⟨e,a,rfl,rfl,h0,hw⟩))⟩
 have ha:=L.al i a (by rw[hf];simp)
 refine⟨λb u e=>?_,λb u h1 h2=>?_,λb h=>?_,K.gr,K.nw,by simp[K.len],fp,λj s e=>?_,λj b h=>?_,L.dj,λj b t e1 e2 e3=>?_⟩
 .rw[af (av e ha.2)];exact K.sF b u e
 .have:b≠a:=by
   rcases hd with h0|h0
   .exact av h1 h0
   .exact λz=>h2 (by rw[z];exact h0)
  rw[af this];exact K.sG b u h1 h2
 .by_cases q:b=a
  .subst q;rw[ai];simp
  .rw[af q];exact K.pr b h
 .by_cases q:j=i
  .subst q
   rw[abC]at e
   simp only[if_true]at e
   split at e
   .first|(exfalso;revert e;simp;done)|cases e
    exact⟨_,hv,by rw[hf];exact Cb⟩
   .first|(exfalso;revert e;simp;done)|cases e
  .rw[aaD (abO q)]at e
   obtain⟨v,h1,h2⟩:=L.at' j s e
   refine⟨v,h1,h2.mono am λc hc=>af λz=>?_⟩
   exact L.dj j i c q hc (by rw[hf,z];simp)
 .have hb:=L.al j b h
  refine⟨?_,hb.2⟩
  by_cases q:b=a
  .subst q;rw[ai];simp
  .rw[af q];exact hb.1
 .by_cases q:j=i
  .subst q
   rw[abC]at e2
   simp only[if_true]at e2
   split at e2
   .cases e2;rcases hk with rfl|rfl<;>cases e3
   .cases e2
  .rw[aaD (abO q)]at e2
   exact L.oa j b t e1 e2 e3
def Vw(M:Md)(F H:Hp)(v:V)(x:PV):Prop:=Rep M.K F v x\/∃a,v=.ref a/\zF M F H a x
theorem Vw.lst(h:Vw M F H v (.lst xs))(s:dO F H):∃a vs,v=.ref a/\H a=some (.lst vs)/\oF M.K F vs xs:=by
 rcases h with h|⟨a,rfl,vs,h1,h2⟩
 .cases h with
  |lst h1 h2=>exact⟨_,_,rfl,s _ _ h1,h2⟩
 .exact⟨a,vs,rfl,h1,h2⟩
theorem Vw.tup(h:Vw M F H v (.tup xs))(s:dO F H):∃a vs,v=.ref a/\zg M.K H a vs/\oF M.K F vs xs:=by
 rcases h with h|⟨a,rfl,h⟩
 .cases h with
  |tup h1 h2=>exact⟨_,_,rfl,aw s h1,h2⟩
 .exact h.elim
theorem Vw.yw{xs:List (Key×PV)}(h:Vw M F H v (.yw xs))(s:dO F H):∃a vs,v=.ref a/\H a=some (.dK vs)/\nE M.K F vs xs:=by
 rcases h with h|⟨a,rfl,vs,h1,h2⟩
 .cases h with
  |yw h1 h2=>exact⟨_,_,rfl,s _ _ h1,h2⟩
 .exact⟨a,vs,rfl,h1,h2⟩
theorem Vw.int{i:Int}(h:Vw M F H v (.int i)):v=.int i:=by
 rcases h with h|⟨a,rfl,h⟩
 .cases h;rfl
 .exact h.elim
variable{b:Bool}
theorem Vw.bl(h:Vw M F H v (.bl b)):v=.bl b:=by
 rcases h with h|⟨a,rfl,h⟩
 .cases h;rfl
 .exact h.elim
theorem Vw.str{x:Str}(h:Vw M F H v (.str x)):v=.str x:=by
 rcases h with h|⟨a,rfl,h⟩
 .cases h;rfl
 .exact h.elim
theorem Vw.lT(h:Vw M F H v .lT):v=.lT:=by
 rcases h with h|⟨a,rfl,h⟩
 .cases h;rfl
 .exact h.elim
theorem x3.vw(K:x3 M Z F σ H env)(hi:env[i]?=some (some s))(hk:s.k≠2/\s.k≠4):∃v,σ[i]?=some (some v)/\Vw M F H v s.v:=by
 obtain⟨fp,L⟩:=K.sl
 obtain⟨v,hv,h⟩:=L.at' i _ hi
 rcases h with ⟨_,_,h⟩|⟨_,a,rfl,_,_,h⟩|⟨e,_⟩|⟨_,a,rfl,_,_,h⟩
 .exact⟨v,hv,.inl h⟩
 .exact⟨_,hv,.inr ⟨a,rfl,h⟩⟩
 .exact(e.elim hk.1 hk.2).elim
 .exact⟨_,hv,.inr ⟨a,rfl,h⟩⟩
theorem x3.val(K:x3 M Z F σ H env)(hi:env[i]?=some (some ⟨0,x⟩)):∃v,σ[i]?=some (some v)/\Rep M.K F v x:=by
 obtain⟨fp,L⟩:=K.sl
 obtain⟨v,hv,h⟩:=L.at' i _ hi
 rcases h with ⟨_,_,h⟩|⟨e,_⟩|⟨e,_⟩|⟨e,_⟩
 .exact⟨v,hv,h⟩
 .first|(exfalso;revert e;simp;done)|cases e
 .first|(exfalso;revert e;simp;done)|cases e
 .first|(exfalso;revert e;simp;done)|cases e
theorem x3.ownAt(K:x3 M Z F σ H env)(hk:k=1\/k=3)(hi:env[i]?=some (some ⟨k,x⟩)):∃a,σ[i]?=some (some (.ref a))/\zF M F H a x:=by
 obtain⟨fp,L⟩:=K.sl
 obtain⟨v,hv,h⟩:=L.at' i _ hi
 rcases h with ⟨e,_⟩|⟨_,a,rfl,_,_,h⟩|⟨e,_⟩|⟨_,a,rfl,_,_,h⟩
 .rcases hk with rfl|rfl<;>exact absurd e (by simp)
 .exact⟨a,hv,h⟩
 .rcases hk with rfl|rfl<;>exact absurd e (by simp)
 .exact⟨a,hv,h⟩
abbrev WE:=En->(PV->En->Prop)->Prop
abbrev WT:=En->(Bool->En->Prop)->Prop
abbrev WA:=En->(List PV->En->Prop)->Prop
structure Wd where
 nx:En->Prop
 rt:PV->En->Prop
 bk:En->Prop:=λ_=>False
 ct:En->Prop:=λ_=>False
 rf:PV->En->Prop:=λ_ _=>False
 ro:PV->Nat->En->Prop:=λ_ _ _=>False
abbrev WS:=Wd->En->Prop
abbrev md(ob:zl)(X:Cx):Md:=⟨X.prog,X.w,X.K,ob⟩
structure yA(ob:zl)(X:Cx)(e:Expr)(f:WE):Prop where
 ex:∃t:TE,PE X e t/\∀(Z:Zn) (F:Hp) (σ:St) (H:Hp) (env:En) (P:PV->En->Prop) (Q:VK),x3 (md ob X) Z F σ H env->f env P ->
  (∀x eQ v F' H',P x eQ->dO F F'->x3 (md ob X) Z F' σ H' eQ->Rep X.K F' v x->Q v H')->t σ H Q
structure Co(ob:zl)(X:Cx)(e:Expr)(f:WE):Prop where
 ex:∃t:TE,PE X e t/\∀(Z:Zn) (F:Hp) (σ:St) (H:Hp) (env:En) (P:PV->En->Prop) (Q:VK),x3 (md ob X) Z F σ H env->f env P ->
  (∀x eQ v F' H',P x eQ->dO F F'->x3 (md ob X) Z F' σ H' eQ->Vw (md ob X) F' H' v x->Q v H')->t σ H Q
structure E5(ob:zl)(X:Cx)(e:Expr)(f:WE):Prop where
 ex:∃t:TE,PE X e t/\∀(Z:Zn) (F:Hp) (σ:St) (H:Hp) (env:En) (P:PV->En->Prop) (Q:VK),x3 (md ob X) Z F σ H env->f env P ->
  (∀x eQ v F' H',P x eQ->dO F F'->(∀xs,x≠.set xs)->x3 (md ob X) Z F' (σ++[some v]) H' (eQ++[some ⟨1,x⟩])->Q v H')->t σ H Q
structure ED(ob:zl)(X:Cx)(e:Expr)(f:WT):Prop where
 ex:∃t:TT,PT X e t/\∀(Z:Zn) (F:Hp) (σ:St) (H:Hp) (env:En) (P:Bool->En->Prop) (Q:Bool->Hp->Prop),x3 (md ob X) Z F σ H env->f env P ->
  (∀b eQ F' H',P b eQ->dO F F'->x3 (md ob X) Z F' σ H' eQ->Q b H')->t σ H Q
structure Ks(ob:zl)(X:Cx)(e:Expr)(f:WT):Prop where
 ex:∃t:TT,PW X e t/\∀(Z:Zn) (F:Hp) (σ:St) (H:Hp) (env:En) (P:Bool->En->Prop) (Q:Bool->Hp->Prop),x3 (md ob X) Z F σ H env->f env P ->
  (∀b eQ F' H',P b eQ->dO F F'->x3 (md ob X) Z F' σ H' eQ->Q b H')->t σ H Q
structure DP(ob:zl)(X:Cx)(es:List Expr)(f:WA):Prop where
 ex:∃t:TA,PA X es t/\∀(Z:Zn) (F:Hp) (σ:St) (H:Hp) (env:En) (P:List PV->En->Prop) (Q:List V->Hp->Prop),x3 (md ob X) Z F σ H env->f env P ->
  (∀xs eQ vs F' H',P xs eQ->xs.length=es.length->dO F F'->x3 (md ob X) Z F' σ H' eQ->oF X.K F' vs xs->Q vs H')->t σ H Q
def eC(x:PV):WE:=λenv P=>P x env
def eV(i:Nat):WE:=λenv P=>match env[i]? with
 |some (some ⟨0,x⟩)=>P x env
 |some (some ⟨1,.lst xs⟩)=>P (.lst xs) (env.set i (some ⟨0,.lst xs⟩))
 |some (some ⟨1,.yw xs⟩)=>P (.yw xs) (env.set i (some ⟨0,.yw xs⟩))
 |_=>False
def y8(i:Nat):WE:=λenv P=>match env[i]? with
 |some (some ⟨0,x⟩)=>P x env
 |some (some ⟨1,x⟩)=>P x env
 |some (some ⟨3,x⟩)=>P x env
 |_=>False
variable{α:Type}
def opt(o:Option α)(P:α->Prop):Prop:=∃z,o=some z/\P z
theorem A5{z:α}{P:α->Prop}:opt (some z) P↔P z:=⟨λ⟨_,e,h⟩=>by cases e;exact h,λh=>⟨z,rfl,h⟩⟩
def iD:WA:=λenv P=>P [] env
def aS(a:WE)(r:WA):WA:=λenv P=>a env λx e1=>r e1 λxs e2=>P (x::xs) e2
def zc(a:WA):WE:=λenv P=>a env λxs e=>P (.tup xs) e
def Cv(a:WA):WE:=λenv P=>a env λxs e=>P (.lst xs) e
def x5(g:PV->PV->Option PV)(a b:WE):WE:=λenv P=>a env λx e1=>b e1 λy e2=>opt (g x y) λz=>P z e2
def RF(g:PV->Option PV)(a:WE):WE:=λenv P=>a env λx e1=>opt (g x) λz=>P z e1
def Bs(g:PV->PV->Option PV)(i:Nat)(b:WE):WE:=λenv P=>(env[i]?).join.isSome=true/\b env λy e2=>y8 i e2 λx _=>opt (g x y) λz=>P z e2
def yl(a:WE):WT:=λenv P=>a env λx e=>opt (match x with|.bl b=>some b|_=>none) λb=>P b e
def D7(a b:WT):WT:=λenv P=>a env λx e=>if x=true then b e P else P false e
def Lk(a b:WT):WT:=λenv P=>a env λx e=>if x=true then P true e else b e P
def D5(a:WT):WT:=λenv P=>a env λx e=>P (!x) e
def NX(c:WT)(a b:WE):WE:=λenv P=>c env λx e=>if x=true then a e P else b e P
variable{ob:zl}{X:Cx}{e a b c:Expr}{es:List Expr}{pos:Pos}{f g h:WE}
theorem yc(he:yA ob X e f):Co ob X e f:=by
 obtain⟨t,ht,h⟩:=he.ex
 exact⟨t,ht,λZ F σ H env P Q K hf k=>h Z F σ H env P Q K hf λx eQ v F' H' p s K' r=>k x eQ v F' H' p s K' (.inl r)⟩
theorem Ds(he:E5 ob X e f):yA ob X e f:=by
 obtain⟨t,ht,h⟩:=he.ex
 refine⟨t,ht,λZ F σ H env P Q K hf k=>h Z F σ H env P Q K hf λx eQ v F' H' p s hx K'=>?_⟩
 obtain⟨F2,s2,K2,r⟩:=K'.EY hx
 exact k x eQ v F2 H' p (ah s s2) K2 r
theorem fD(hp:PE X e (tC v))(hr:∀F,Rep X.K F v x):yA ob X e (eC x) :=
 ⟨_,hp,λZ F σ H env P Q K hf k=>k x env v F H hf am K (hr F)⟩
theorem ak{i j}:yA ob X (.Constant (.int i) j pos) (eC (.int i)):=fD aC λ_=>.int i
theorem ua{i j}:yA ob X (.Constant (.bool i) j pos) (eC (.bl i)):=fD tZ λ_=>.bl i
theorem cC{j}:yA ob X (.Constant .none j pos) (eC .lT):=fD qx λ_=>.lT
theorem aP{i j}:yA ob X (.Constant (.str i) j pos) (eC (.str i)):=fD wy λ_=>.str i
theorem xp(i:Nat){x:Str}(hp:PE X (.Name x pos) (yK i)):yA ob X (.Name x pos) (eV i):=by
 refine⟨_,hp,λZ F σ H env P Q K hf k=>?_⟩
 unfold eV at hf
 split at hf
 .rename_i y hy
  obtain⟨v,hv,r⟩:=K.val hy
  exact⟨v,hv,k _ _ v F H hf am K r⟩
 .rename_i y hy
  obtain⟨F',v,hv,s,K',r⟩:=K.freeze hy (λ_=>by simp)
  exact⟨v,hv,k _ _ v F' H hf s K' r⟩
 .rename_i y hy
  obtain⟨F',v,hv,s,K',r⟩:=K.freeze hy (λ_=>by simp)
  exact⟨v,hv,k _ _ v F' H hf s K' r⟩
 .exact hf.elim
theorem vD(i:Nat){x:Str}(hp:PE X (.Name x pos) (yK i)):Co ob X (.Name x pos) (y8 i):=by
 refine⟨_,hp,λZ F σ H env P Q K hf k=>?_⟩
 unfold y8 at hf
 split at hf
 .rename_i y hy
  obtain⟨v,hv,r⟩:=K.vw hy (by simp)
  exact⟨v,hv,k _ _ v F H hf am K r⟩
 .rename_i y hy
  obtain⟨v,hv,r⟩:=K.vw hy (by simp)
  exact⟨v,hv,k _ _ v F H hf am K r⟩
 .rename_i y hy
  obtain⟨v,hv,r⟩:=K.vw hy (by simp)
  exact⟨v,hv,k _ _ v F H hf am K r⟩
 .exact hf.elim
theorem ag:DP ob X [] iD:=⟨_,aW,λZ F σ H env P Q K hf k=>k [] env [] F H hf rfl am K .nil⟩
variable{fa:WA}
theorem ab(he:yA ob X e f)(hr:DP ob X es fa)(hs:aai (e::es) X.env=(false,eval e X.env)::aai es X.env:=by rfl):DP ob X (e::es) (aS f fa):=by
 obtain⟨t,ht,h⟩:=he.ex
 obtain⟨u,hu,g⟩:=hr.ex
 refine⟨_,aM ht hu hs,λZ F σ H env P Q K hf k=>?_⟩
 refine h Z F σ H env _ _ K hf λx e1 v F1 H1 p s1 K1 r1=>?_
 refine g Z F1 σ H1 e1 _ _ K1 p λxs e2 vs F2 H2 p2 hl s2 K2 r2=>?_
 exact k (x::xs) e2 (v::vs) F2 H2 p2 (by simp[hl]) (ah s1 s2) K2 (.cons (r1.mono s2) r2)
theorem aH{x1}(ha:DP ob X es fa)(hn:es.length<=1000:=by decide):yA ob X (.Tuple es x1 pos) (zc fa):=by
 obtain⟨t,ht,h⟩:=ha.ex
 refine⟨_,wx ht,λZ F σ H env P Q K hf k=>?_⟩
 refine h Z F σ H env _ _ K hf λxs e1 vs F1 H1 p hl s1 K1 r1=>⟨?_,λq hq=>?_⟩
 .rw[r1.len,hl,aax];omega
 .have hF:F1 q=none:=dO.none_of K1.sF hq
  exact k _ e1 _ _ _ p (ah s1 (ay hF)) (K1.lay hq) (.tup (.inl (.inl ai)) (r1.mono (ay hF)))
theorem cD(ha:DP ob X es fa)(hn:es.length<=1000:=by decide):E5 ob X (.List es pos) (Cv fa):=by
 obtain⟨t,ht,h⟩:=ha.ex
 refine⟨_,gc ht,λZ F σ H env P Q K hf k=>?_⟩
 refine h Z F σ H env _ _ K hf λxs e1 vs F1 H1 p hl s1 K1 r1=>⟨?_,λq hq=>?_⟩
 .rw[r1.len,hl,aax];omega
 .exact k _ e1 _ _ _ p s1 (λ_=>by simp) (K1.own hq ⟨vs,ai,r1⟩)
def Cz(ob:zl)(X:Cx)(r:R2)(g:PV->PV->Option PV):Prop :=
 ∀(Z:Zn) (F:Hp) (σ:St) (H:Hp) (env:En) (v u:V) (x y z:PV) (Q:VK),x3 (md ob X) Z F σ H env->Vw (md ob X) F H v x->Vw (md ob X) F H u y->g x y=some z ->
  (∀v' F' H',dO F F'->x3 (md ob X) Z F' σ H' env->Rep X.K F' v' z->Q v' H')->r v u H Q
def M5(ob:zl)(X:Cx)(r:R2)(g:PV->PV->Option PV):Prop :=
 ∀(Z:Zn) (F:Hp) (σ:St) (H:Hp) (env:En) (v u:V) (x y z:PV) (Q:VK),x3 (md ob X) Z F σ H env->Rep X.K F v x->Vw (md ob X) F H u y->g x y=some z ->
  (∀v' F' H',dO F F'->x3 (md ob X) Z F' σ H' env->Rep X.K F' v' z->Q v' H')->r v u H Q
variable{r:R2}
theorem Nr{o:PV->PV->Option PV}(h:Cz ob X r o):M5 ob X r o:=λZ F σ H env v u x y z Q K rx ry=>h Z F σ H env v u x y z Q K (.inl rx) ry
theorem gH{o:PV->PV->Option PV}{ta tb:TE}(hq:M5 ob X r o)
  (ha:∀(Z:Zn) (F:Hp) (σ:St) (H:Hp) (env:En) (P:PV->En->Prop) (Q:VK),x3 (md ob X) Z F σ H env->f env P->(∀x eQ v F' H',P x eQ->dO F F'->x3 (md ob X) Z F' σ H' eQ->Rep X.K F' v x->Q v H')->ta σ H Q)
  (hb:∀(Z:Zn) (F:Hp) (σ:St) (H:Hp) (env:En) (P:PV->En->Prop) (Q:VK),x3 (md ob X) Z F σ H env->g env P->(∀x eQ v F' H',P x eQ->dO F F'->x3 (md ob X) Z F' σ H' eQ->Vw (md ob X) F' H' v x->Q v H')->tb σ H Q) :
  ∀(Z:Zn) (F:Hp) (σ:St) (H:Hp) (env:En) (P:PV->En->Prop) (Q:VK),x3 (md ob X) Z F σ H env->x5 o f g env P->(∀x eQ v F' H',P x eQ->dO F F'->x3 (md ob X) Z F' σ H' eQ->Rep X.K F' v x->Q v H')->BI r ta tb σ H Q:=by
 intro Z F σ H env P Q K hf k
 refine ha Z F σ H env _ _ K hf λx e1 v F1 H1 p s1 K1 r1=>?_
 refine hb Z F1 σ H1 e1 _ _ K1 p λy e2 u F2 H2 p2 s2 K2 r2=>?_
 obtain⟨z,ez,p3⟩:=p2
 exact hq Z F2 σ H2 e2 v u x y z Q K2 (r1.mono s2) r2 ez λv' F' H' s3 K3 r3=>k z e2 v' F' H' p3 (ah s1 (ah s2 s3)) K3 r3
theorem sJ{o:PV->PV->Option PV}{tb:TE}(hq:Cz ob X r o)
  (hb:∀(Z:Zn) (F:Hp) (σ:St) (H:Hp) (env:En) (P:PV->En->Prop) (Q:VK),x3 (md ob X) Z F σ H env->g env P->(∀x eQ v F' H',P x eQ->dO F F'->x3 (md ob X) Z F' σ H' eQ->Vw (md ob X) F' H' v x->Q v H')->tb σ H Q) :
  ∀(Z:Zn) (F:Hp) (σ:St) (H:Hp) (env:En) (P:PV->En->Prop) (Q:VK),x3 (md ob X) Z F σ H env->Bs o i g env P->(∀x eQ v F' H',P x eQ->dO F F'->x3 (md ob X) Z F' σ H' eQ->Rep X.K F' v x->Q v H')->BI r (yK i) tb σ H Q:=by
 intro Z F σ H env P Q K hf k
 obtain⟨hd,hf⟩:=hf
 obtain⟨v,hv⟩:∃v,σ[i]?=some (some v):=by
  cases e:env[i]? with
  |none=>rw[e]at hd;cases hd
  |some w=>
   cases w with
   |none=>rw[e]at hd;cases hd
   |some s=>
    obtain⟨fp,L⟩:=K.sl
    obtain⟨v,hv,_⟩:=L.at' i s e
    exact⟨v,hv⟩
 refine⟨v,hv,hb Z F σ H env _ _ K hf λy e2 u F2 H2 p2 s2 K2 r2=>?_⟩
 unfold y8 at p2
 have fin:∀(s:Sl),(s.k≠2/\s.k≠4)->e2[i]?=some (some s)->opt (o s.v y) (λz=>P z e2)->r v u H2 Q:=λs hk hs ⟨z,ez,p3⟩=>by
  obtain⟨v',GC,rv⟩:=K2.vw hs hk
  rw[hv]at GC;cases GC
  exact hq Z F2 σ H2 e2 v u s.v y z Q K2 rv r2 ez λv' F' H' s3 K3 r3=>k z e2 v' F' H' p3 (ah s2 s3) K3 r3
 split at p2
 .rename_i hy;exact fin _ (by simp) hy p2
 .rename_i hy;exact fin _ (by simp) hy p2
 .rename_i hy;exact fin _ (by simp) hy p2
 .exact p2.elim
end Q
namespace Q
open PySem L2 PyProof.Rows
def zq(kvs:List (Key×PV))(k:Key):Option PV:=(kvs.find? λkv=>decide (kv.1=k)).map (·.2)
def AL(kvs:List (Key×PV))(k:Key)(v:PV):List (Key×PV) :=
 if (kvs.any λkv=>decide (kv.1=k))=true then kvs.map (λkv=>if kv.1=k then (kv.1,v)else kv)else kvs++[(k,v)]
def A7:PV->Option Key
 |.int i=>some (.inl i)
 |.str s=>some (.inr s)
 |_=>none
variable{K:aag}{F:Hp}
variable{k:Key}{vs:List (Key×V)}{xs:List (Key×PV)}
theorem nE.val(h:nE K F vs xs):(zG vs k=none/\zq xs k=none)\/∃v x,zG vs k=some v/\zq xs k=some x/\Rep K F v x:=by
 induction h using nE.ind with
 |nil=>exact .inl ⟨rfl,rfl⟩
 |@cons k' v x vs xs h _ ih=>
  by_cases e:k'=k
  .exact .inr ⟨v,x,e7 e,by simp[zq,abG,e],h⟩
  .rw[e8 (p:=(k',v)) e]
   have e2:zq ((k',x)::xs) k=zq xs k:=by simp[zq,abG,e]
   rw[e2]
   exact ih
theorem nE.any(h:nE K F vs xs):(vs.any λkv=>decide (kv.1=k))=xs.any λkv=>decide (kv.1=k):=by
 induction h using nE.ind with
 |nil=>rfl
 |cons _ _ ih=>exact congrArg (_ || ·) ih
theorem nE.app{ws:List (Key×V)}{ys:List (Key×PV)}(h:nE K F vs xs)(k:nE K F ws ys):nE K F (vs++ws) (xs++ys):=by
 induction h using nE.ind with
 |nil=>exact k
 |cons a _ ih=>exact .cons a ih
variable{v:V}{x:PV}
theorem nE.Jx(hv:Rep K F v x)(h:nE K F vs xs):nE K F (vs.map λkv=>if kv.1=k then (kv.1,v)else kv) (xs.map λkv=>if kv.1=k then (kv.1,x)else kv):=by
 induction h using nE.ind with
 |nil=>exact .nil
 |@cons k' v' x' vs xs a _ ih=>
  rw[aau,aau]
  dsimp only
  by_cases e:k'=k
  .rw[if_pos e,if_pos e];exact .cons hv ih
  .rw[if_neg e,if_neg e];exact .cons a ih
theorem nE.put(h:nE K F vs xs)(hv:Rep K F v x):nE K F (putK vs k v) (AL xs k x):=by
 unfold putK AL
 rw[h.any]
 split
 .exact h.Jx hv
 .exact h.app (.cons hv .nil)
theorem eF(h:A7 x=some k)(r:Rep K F v x):v=kV k:=by
 cases r<;>cases h<;>rfl
def lE:PV->PV->Option PV
 |.tup xs,.int i=>Ey xs i
 |.lst xs,.int i=>Ey xs i
 |.str s,.int i=>if s.length<=100000 then (Ey s.cps.toList i).map λc=>.str ⟨#[c]⟩else none
 |.yw kvs,y=>(A7 y).bind (zq kvs)
 |_,_=>none
def LH:R2:=λx y H Q=>∃a v,x=.ref a/\DS H a y (some v)/\Q v H
variable{ob:zl}{X:Cx}{a b c e:Expr}{f g h:WE}{pos:Pos}
theorem vk(hu:X.A.units+1<cLine):G2 X LH:=by
 intro value slice pins s σ H x y v u Q I rx ry h hs
 obtain⟨a,z,rfl,g,q⟩:=h
 cases rx
 exact tail_any (im I g) PySem.F.slot_dict_getitem.lookup (lw hu I g ry λw' s3 I3 BA=>⟨z,H,I3,BA,q⟩) hs
def LI(K:aag):R2:=λx y H Q=>QV K x y H Q\/LH x y H Q
theorem qY(hu:X.A.units+1<cLine):G2 X (LI X.K):=JC.or (vk hu)
theorem oV{vs:List V}{xs:List PV}{i:Int}{z:PV}(r:oF K F vs xs)(h:Ey xs i=some z):∃v,Ey vs i=some v/\Rep K F v z:=by
 unfold Ey at h⊢
 rw[r.len]
 cases e:G8 xs.length i with
 |none=>rw[e]at h;cases h
 |some j=>
  rw[e]at h
  exact r.get h
variable{M:Md}{H:Hp}
theorem Ia(h:Vw M F H v x)(hk:A7 x=some k):v=kV k:=by
 cases x<;>try cases hk
 .exact h.int
 .exact h.str
theorem Gi:Cz ob X (LI X.K) lE:=by
 intro Z F σ H env v u x y z Q K rx ry hz k
 unfold lE at hz
 split at hz
 .obtain⟨p,vs,rfl,h1,h2⟩:=rx.tup K.sF
  rw[ry.int]
  obtain⟨w,e1,e2⟩:=oV h2 hz
  exact .inl (.inr (.inl ⟨p,vs,_,w,rfl,rfl,h1,e1,k w F H am K e2⟩))
 .obtain⟨p,vs,rfl,h1,h2⟩:=rx.lst K.sF
  rw[ry.int]
  obtain⟨w,e1,e2⟩:=oV h2 hz
  exact .inl (.inl ⟨p,vs,_,w,rfl,rfl,.inl (.inl h1),e1,k w F H am K e2⟩)
 .rename_i s i
  split at hz
  .rename_i hl
   rw[rx.str,ry.int]
   cases e:Ey s.cps.toList i with
   |none=>rw[e]at hz;cases hz
   |some c=>
    rw[e]at hz;cases hz
    exact .inl (.inr (.inr ⟨s,i,c,rfl,rfl,by rw[aax];omega,e,k _ F H am K (.str _)⟩))
  .cases hz
 .rename_i kvs
  obtain⟨p,vs,rfl,h1,h2⟩:=rx.yw K.sF
  cases e:A7 y with
  |none=>rw[e]at hz;cases hz
  |some kk=>
   rw[e]at hz
   have hz:zq kvs kk=some z:=hz
   rw[Ia ry e]
   rcases h2.val (k:=kk)with ⟨_,e2⟩|⟨w,w',e1,e2,e3⟩
   .rw[e2]at hz;cases hz
   .rw[e2]at hz;cases hz
    refine .inr ⟨p,w,rfl,?_,k w F H am K e3⟩
    rw[<- e1];exact O4 h1
 .cases hz
theorem xU(hu:X.A.units+1<cLine)(ha:yA ob X a f)(hb:Co ob X b g)(hs:eY b:=by exact λ_ _=>rfl):yA ob X (.Subscript a b pos) (x5 lE f g):=by
 obtain⟨ta,ha,ka⟩:=ha.ex
 obtain⟨tb,hb,kb⟩:=hb.ex
 exact⟨_,bv (qY hu) ha hb hs,gH (Nr Gi) ka kb⟩
variable{p:Pos}
theorem xt(i:Nat){x:Str}(hu:X.A.units+1<cLine)(ha:PE X (.Name x p) (yK i))(hb:Co ob X b g)(hs:eY b:=by exact λ_ _=>rfl):yA ob X (.Subscript (.Name x p) b pos) (Bs lE i g):=by
 obtain⟨tb,hb,kb⟩:=hb.ex
 exact⟨_,bv (qY hu) ha hb hs,sJ Gi kb⟩
variable{r:R2}
theorem zf.or{fn:Value->Value->Sem Value}{r':R2}(h:zf X fn r)(h':zf X fn r'):zf X fn (λx y H Q=>r x y H Q\/r' x y H Q):=by
 intro pins s σ H x y v u Q I rx ry q
 rcases q with q|q
 .exact h pins s σ H x y v u Q I rx ry q
 .exact h' pins s σ H x y v u Q I rx ry q
def yB:PV->PV->Option PV
 |.int i,.int j=>some (.int (i+j))
 |.str s,.str t=>if s.length+t.length<=100000 then some (.str (s++t))else none
 |.tup xs,.tup ys=>if xs.length+ys.length<=100000 then some (.tup (xs++ys))else none
 |.lst xs,.lst ys=>if xs.length+ys.length<=100000 then some (.lst (xs++ys))else none
 |_,_=>none
theorem Vw.FL{xs:List PV}(h:Vw M F H v (.tup xs)):Rep M.K F v (.tup xs):=by
 rcases h with h|⟨a,rfl,h⟩
 .exact h
 .exact h.elim
def Il(K:aag):R2:=λx y H Q=>((FD λi j=>.int (i+j)) x y H Q\/∃i j,x=.str i/\y=.str j/\i.length+j.length<=sizeLine/\Q (.str (i++j)) H)\/(Ik K x y H Q\/LN x y H Q)
theorem uR:zf X (aci .Add) (Il X.K):=zf.or (zf.or gg pC) (zf.or uP wJ)
theorem uM:Cz ob X (Il X.K) yB:=by
 intro Z F σ H env v u x y z Q K rx ry hz k
 unfold yB at hz
 split at hz
 .cases hz
  rw[rx.int,ry.int]
  exact .inl (.inl ⟨_,_,rfl,rfl,k _ F H am K (.int _)⟩)
 .split at hz
  .cases hz
   rw[rx.str,ry.str]
   exact .inl (.inr ⟨_,_,rfl,rfl,by rw[aax];omega,k _ F H am K (.str _)⟩)
  .cases hz
 .rename_i xs ys
  split at hz
  .cases hz
   obtain⟨p,vs,rfl,h1,h2⟩:=rx.tup K.sF
   obtain⟨q,ws,rfl,g1,g2⟩:=ry.tup K.sF
   have hl:=h2.len
   have gl:=g2.len
   refine .inr (.inl ⟨p,q,vs,ws,rfl,rfl,h1,g1,by rw[aax];omega,?_⟩)
   refine⟨λe=>k _ F H am K ?_,λe=>k _ F H am K ?_,λr hr=>?_⟩
   .subst e
    have:xs=[]:=List.length_eq_zero_iff.mp hl.symm
    subst this
    exact ry.FL
   .subst e
    have:ys=[]:=List.length_eq_zero_iff.mp gl.symm
    subst this
    rw[abb]
    exact rx.FL
   .have hF:F r=none:=dO.none_of K.sF hr
    exact k _ _ _ (ay hF) (K.lay hr) (.tup (.inl (.inl ai)) ((h2.app g2).mono (ay hF)))
  .cases hz
 .rename_i xs ys
  split at hz
  .cases hz
   obtain⟨p,vs,rfl,h1,h2⟩:=rx.lst K.sF
   obtain⟨q,ws,rfl,g1,g2⟩:=ry.lst K.sF
   have hl:=h2.len
   have gl:=g2.len
   refine .inr (.inr ⟨p,q,vs,ws,rfl,rfl,h1,g1,by rw[aax];omega,λr hr=>?_⟩)
   have hF:F r=none:=dO.none_of K.sF hr
   exact k _ _ _ (ay hF) (K.lay hr) (.lst ai ((h2.app g2).mono (ay hF)))
  .cases hz
 .cases hz
variable{o:PV->PV->Option PV}
theorem eN{op:Operator}(hr:zf X (aci op) r)(hq:Cz ob X r o)(ha:yA ob X a f)(hb:Co ob X b g):yA ob X (.BinOp a op b pos) (x5 o f g):=by
 obtain⟨ta,ha,ka⟩:=ha.ex
 obtain⟨tb,hb,kb⟩:=hb.ex
 exact⟨_,bh hr ha hb,gH (Nr hq) ka kb⟩
theorem aQ(ha:yA ob X a f)(hb:Co ob X b g):yA ob X (.BinOp a .Add b pos) (x5 yB f g):=eN uR uM ha hb
def iI(C:Int->Int->Bool)(h:Int->Int->Int):PV->PV->Option PV
 |.int i,.int j=>if C i j=true then some (.int (h i j))else none
 |_,_=>none
theorem gJ{C:Int->Int->Bool}{D:Int->Int->Prop}{h:Int->Int->Int}(hC:∀i j,C i j=true->D i j):Cz ob X (rI D λi j=>.int (h i j)) (iI C h):=by
 intro Z F σ H env v u x y z Q K rx ry hz k
 unfold iI at hz
 split at hz
 .split at hz
  .rename_i hc
   cases hz
   rw[rx.int,ry.int]
   exact⟨_,_,rfl,rfl,hC _ _ hc,k _ F H am K (.int _)⟩
  .cases hz
 .cases hz
def zS:=iI (λ_ _=>true) λi j=>i - j
def Kl(i j:Int):Bool:=(decide (-(2 ^ 64)<i) && decide (i<2 ^ 64)) || (decide (-(2 ^ 64)<j) && decide (j<2 ^ 64))
def zY:PV->PV->Option PV
 |.int i,.int j=>if Kl i j=true then some (.int (i*j))else none
 |.str s,.int i=>if 0<=i/\i<=1000/\s.length<=1000 then some (.str (BJ s i.toNat))else none
 |.lst xs,.int i=>if -1000<=i/\i<=1000/\xs.length<=1000 then some (.lst (aaC i.toNat xs).flatten)else none
 |_,_=>none
def BB:=iI (λ_ j=>decide (0<j)) λi j=>i % j
def E1:=iI (λ_ j=>decide (0<j) && decide (j<1073741824)) λi j=>i / j
def B0:=iI (λi j=>decide (0<=j) && decide (j<=1000000) && decide (i.natAbs<2 ^ 64)) λi j=>i ^ j.toNat
theorem uN:zf X (aci .Sub) (rI (λ_ _=>True) λi j=>.int (i - j)):=by
 intro pins s σ H x y v u Q I rx ry h
 obtain⟨i,j,e1,e2,_,q⟩:=h
 exact wE pins s σ H x y v u Q I rx ry ⟨i,j,e1,e2,q⟩
theorem bQ(ha:yA ob X a f)(hb:Co ob X b g):yA ob X (.BinOp a .Sub b pos) (x5 zS f g):=eN uN (gJ λ_ _ _=>trivial) ha hb
theorem eM(ha:yA ob X a f)(hb:Co ob X b g):yA ob X (.BinOp a .Mod b pos) (x5 BB f g):=eN dn (gJ λ_ _ h=>of_decide_eq_true h) ha hb
theorem rH(ha:yA ob X a f)(hb:Co ob X b g):yA ob X (.BinOp a .FloorDiv b pos) (x5 E1 f g):=eN j9 (gJ λ_ _ h=>by simp at h;exact h) ha hb
theorem mN(ha:yA ob X a f)(hb:Co ob X b g):yA ob X (.BinOp a .Pow b pos) (x5 B0 f g):=eN mh (gJ λ_ _ h=>by simp at h;exact⟨h.1.1,h.1.2,h.2⟩) ha hb
theorem oF.rep{vs:List V}{xs:List PV}(r:oF K F vs xs):∀n:Nat,oF K F (aaC n vs).flatten (aaC n xs).flatten
 |0=>.nil
 |n+1=>by
  rw[aa6,aa6,abU,abU]
  exact r.app (r.rep n)
theorem uK:Cz ob X (λx y H Q=>(rI Fw λi j=>.int (i*j)) x y H Q\/(Ii x y H Q\/LA x y H Q)) zY:=by
 intro Z F σ H env v u x y z Q K rx ry hz k
 unfold zY at hz
 split at hz
 .split at hz
  .rename_i hc
   cases hz
   rw[rx.int,ry.int]
   refine .inl ⟨_,_,rfl,rfl,?_,k _ F H am K (.int _)⟩
   unfold Kl at hc
   simp at hc
   exact hc
  .cases hz
 .split at hz
  .rename_i hc
   cases hz
   rw[rx.str,ry.int]
   exact .inr (.inl ⟨_,_,rfl,rfl,hc.1,hc.2.1,hc.2.2,k _ F H am K (.str _)⟩)
  .cases hz
 .rename_i xs i
  split at hz
  .rename_i hc
   cases hz
   obtain⟨p,vs,rfl,h1,h2⟩:=rx.lst K.sF
   rw[ry.int]
   have hl:=h2.len
   refine .inr (.inr ⟨p,i,vs,rfl,rfl,h1,by omega,by omega,?_,λr hr=>?_⟩)
   .rw[aax]
    have h3:i.toNat<=1000:=by omega
    have h4:vs.length<=1000:=by omega
    calc vs.length*i.toNat<=1000*1000:=Nat.mul_le_mul h4 h3
     _<=16777216:=by decide
   .have hF:F r=none:=dO.none_of K.sF hr
    exact k _ _ _ (ay hF) (K.lay hr) (.lst ai ((h2.rep _).mono (ay hF)))
  .cases hz
 .cases hz
theorem eJ(ha:yA ob X a f)(hb:Co ob X b g):yA ob X (.BinOp a .Mult b pos) (x5 zY f g):=eN (zf.or jn (zf.or uO wF)) uK ha hb
def LX:PV->Option PV
 |.int i=>some (.int (-i))
 |_=>none
variable{op:CmpOp}
theorem xv(hr:zf X (aa9 op) r)(hq:Cz ob X r o)(ha:yA ob X a f)(hb:Co ob X b g)(hm:acv op b=false):yA ob X (.Compare a [op] [b] pos) (x5 o f g):=by
 obtain⟨ta,ha,ka⟩:=ha.ex
 obtain⟨tb,hb,kb⟩:=hb.ex
 exact⟨_,n5 hr ha hb hm,gH (Nr hq) ka kb⟩
theorem xw{o:PV->PV->Option PV}(he:∃t,PE X (.Compare a [op] [b] pos) t/\PT X (.Compare a [op] [b] pos) (FP t)/\∀(Z:Zn) (F:Hp) (σ:L2.St) (H:Hp) (env:En) (P:PV->En->Prop) (Q:VK),x3 (md ob X) Z F σ H env->f env P->(∀x eQ v F' H',P x eQ->dO F F'->x3 (md ob X) Z F' σ H' eQ->Rep X.K F' v x->Q v H')->t σ H Q):ED ob X (.Compare a [op] [b] pos) (yl f):=by
 obtain⟨t,_,ht,h⟩:=he
 refine⟨_,ht,λZ F σ H env P Q K hf k=>h Z F σ H env _ _ K hf λx e1 v F1 H1 p s1 K1 r1=>?_⟩
 obtain⟨z,hz,p⟩:=p
 cases x<;>try (cases hz)
 cases r1
 exact⟨_,rfl,k _ e1 F1 H1 p s1 K1⟩
theorem vF(hr:zf X (aa9 op) r)(hq:Cz ob X r o)(ha:yA ob X a f)(hb:Co ob X b g)(hm:acv op b=false):ED ob X (.Compare a [op] [b] pos) (yl (x5 o f g)):=by
 obtain⟨ta,ha,ka⟩:=ha.ex
 obtain⟨tb,hb,kb⟩:=hb.ex
 exact xw (o:=o) ⟨_,n5 hr ha hb hm,ed hr ha hb hm,gH (Nr hq) ka kb⟩
theorem bw{P:V->V->Hp->V->Prop}(h:∀(F H:Hp) (v u:V) (x y z:PV),dO F H->Vw (md ob X) F H v x->Vw (md ob X) F H u y->o x y=some z->∃w,(∀F,Rep X.K F w z)/\∀Q:VK,Q w H->r v u H Q):Cz ob X r o:=by
 intro Z F σ H env v u x y z Q K rx ry hz k
 obtain⟨w,h1,h2⟩:=h F H v u x y z K.sF rx ry hz
 exact h2 Q (k w F H am K (h1 F))
def Gs:PV->PV->Option PV
 |.int i,.int j=>some (.bl (decide (i<j)))
 |.str s,.str t=>some (.bl (decide (yL s t)))
 |_,_=>none
def OY:PV->PV->Option PV
 |.int i,.int j=>some (.bl (decide (i<=j)))
 |.str s,.str t=>some (.bl (!decide (yL t s)))
 |_,_=>none
def HK:PV->PV->Option PV
 |.int i,.int j=>some (.bl (decide (j<i)))
 |_,_=>none
theorem qE:Cz ob X (λx y H Q=>(FD λi j=>.bl (decide (i<j))) x y H Q\/∃i j,x=.str i/\y=.str j/\Q (.bl (decide (i.cps.toList<j.cps.toList))) H) Gs:=by
 refine bw (P:=λ_ _ _ _=>True) λF H v u x y z sF rx ry hz=>?_
 unfold Gs at hz
 split at hz
 .cases hz
  rw[rx.int,ry.int]
  exact⟨_,λ_=>.bl _,λQ q=>.inl ⟨_,_,rfl,rfl,q⟩⟩
 .cases hz
  rw[rx.str,ry.str]
  exact⟨_,λ_=>.bl _,λQ q=>.inr ⟨_,_,rfl,rfl,q⟩⟩
 .cases hz
theorem wD:Cz ob X (FD λi j=>.bl (decide (j<i))) HK:=by
 refine bw (P:=λ_ _ _ _=>True) λF H v u x y z sF rx ry hz=>?_
 unfold HK at hz
 split at hz
 .cases hz
  rw[rx.int,ry.int]
  exact⟨_,λ_=>.bl _,λQ q=>⟨_,_,rfl,rfl,q⟩⟩
 .cases hz
theorem t4:zf X (aa9 .Lt) (λx y H Q=>(FD λi j=>.bl (decide (i<j))) x y H Q\/∃i j,x=.str i/\y=.str j/\Q (.bl (decide (i.cps.toList<j.cps.toList))) H):=zf.or xN qG
def CZ:PV->Bool
 |.lT=>true
 |_=>false
def Gx:PV->PV->Option PV
 |x,.lT=>some (.bl (CZ x))
 |.bl a,.bl b=>some (.bl (a==b))
 |_,_=>none
theorem vW(h:Vw M F H v x):decide (v=V.lT)=CZ x:=by
 rcases h with h|⟨a,rfl,h⟩
 .cases h<;>simp[CZ]
 .cases x<;>first|exact h.elim|simp[CZ]
theorem mf:Cz ob X (λx y H Q=>(y=.lT/\Q (.bl (decide (x=.lT))) H)\/∃a b,x=.bl a/\y=.bl b/\Q (.bl (a==b)) H) Gx:=by
 refine bw (P:=λ_ _ _ _=>True) λF H v u x y z sF rx ry hz=>?_
 unfold Gx at hz
 split at hz
 .cases hz
  rw[ry.lT]
  refine⟨_,λ_=>.bl _,λQ q=>.inl ⟨rfl,?_⟩⟩
  rw[vW rx];exact q
 .cases hz
  rw[rx.bl,ry.bl]
  exact⟨_,λ_=>.bl _,λQ q=>.inr ⟨_,_,rfl,rfl,q⟩⟩
 .cases hz
theorem pB:zf X (aa9 .Is) (λx y H Q=>(y=.lT/\Q (.bl (decide (x=.lT))) H)\/∃a b,x=.bl a/\y=.bl b/\Q (.bl (a==b)) H):=zf.or wH wI
def FN:PV->Option Bool
 |.lT=>some false
 |.bl b=>some b
 |.int i=>some (i != 0)
 |.str s=>if s.length<=100000 then some ((s.length:Int) != 0)else none
 |.tup xs=>some (!xs.isEmpty)
 |.lst xs=>some (!xs.isEmpty)
 |.yw xs=>some (!xs.isEmpty)
 |_=>none
def BU(a:WE):WT:=λenv P=>a env λx e=>opt (FN x) λb=>P b e
theorem ce(he:Co ob X e f)(h:∀whole,isTrue e X.env whole=(do let v <- whole;standAt e.pos;acQ [v] (truthy v)):=by intro _;rfl):ED ob X e (BU f):=by
 obtain⟨t,ht,k0⟩:=he.ex
 refine⟨_,sk ht h,λZ F σ H env P Q K hf k=>k0 Z F σ H env _ _ K hf λx e1 v F1 H1 p s1 K1 r1=>?_⟩
 obtain⟨z,hz,p⟩:=p
 refine⟨z,?_,k _ e1 F1 H1 p s1 K1⟩
 have Ql:∀{α β:Type} {l:List α} {m:List β},l.length=m.length->l.isEmpty=m.isEmpty:=λ{α β l m} h=>by
  cases l<;>cases m<;>simp at h⊢
 cases x<;>simp only[FN]at hz
 .cases hz;rw[r1.lT];rfl
 .cases hz;rw[r1.bl];rfl
 .cases hz;rw[r1.int];rfl
 .split at hz
  .cases hz;rw[r1.str];exact⟨by rw[aax];omega,rfl⟩
  .cases hz
 .cases hz
  obtain⟨p,vs,rfl,h1,h2⟩:=r1.tup K1.sF
  exact .inr (.inl ⟨vs,h1,by rw[Ql h2.len]⟩)
 .cases hz
  obtain⟨p,vs,rfl,h1,h2⟩:=r1.lst K1.sF
  exact .inl ⟨vs,.inl (.inl h1),by rw[Ql h2.len]⟩
 .cases hz
  obtain⟨p,vs,rfl,h1,h2⟩:=r1.yw K1.sF
  exact .inr (.inr ⟨vs,h1,by rw[Ql h2.len]⟩)
 .cases hz
 .cases hz
variable{t u:WT}{rest:List Expr}
theorem pP(h:Ks ob X e t):ED ob X e t:=by
 obtain⟨w,hw,k⟩:=h.ex
 exact⟨w,hw.pt,k⟩
theorem kD(h:ED ob X a t):Ks ob X (.BoolOp .And [a] pos) t:=by
 obtain⟨w,hw,k⟩:=h.ex
 exact⟨w,pw_and1 hw,k⟩
theorem xB(h:ED ob X a t):Ks ob X (.BoolOp .Or [a] pos) t:=by
 obtain⟨w,hw,k⟩:=h.ex
 exact⟨w,pw_or1 hw,k⟩
theorem mQ(h:ED ob X a t)(h2:Ks ob X (.BoolOp .And (b::rest) pos) u):Ks ob X (.BoolOp .And (a::b::rest) pos) (D7 t u):=by
 obtain⟨w,hw,k⟩:=h.ex
 obtain⟨w2,Pc,k2⟩:=h2.ex
 refine⟨_,pw_and hw Pc,λZ F σ H env P Q K hf kk=>k Z F σ H env _ _ K hf λx e1 F1 H1 p s1 K1=>?_⟩
 cases x with
 |true=>exact Ct (k2 Z F1 σ H1 e1 P Q K1 p λx e2 F2 H2 p2 s2 K2=>kk x e2 F2 H2 p2 (ah s1 s2) K2)
 |false=>exact B9 (kk _ e1 F1 H1 p s1 K1)
theorem xV(h:ED ob X a t)(h2:Ks ob X (.BoolOp .Or (b::rest) pos) u):Ks ob X (.BoolOp .Or (a::b::rest) pos) (Lk t u):=by
 obtain⟨w,hw,k⟩:=h.ex
 obtain⟨w2,Pc,k2⟩:=h2.ex
 refine⟨_,pw_or hw Pc,λZ F σ H env P Q K hf kk=>k Z F σ H env _ _ K hf λx e1 F1 H1 p s1 K1=>?_⟩
 cases x with
 |true=>exact Ct (kk _ e1 F1 H1 p s1 K1)
 |false=>exact B9 (k2 Z F1 σ H1 e1 P Q K1 p λx e2 F2 H2 p2 s2 K2=>kk x e2 F2 H2 p2 (ah s1 s2) K2)
theorem mP(h:ED ob X a t):ED ob X (.UnaryOp .Not a pos) (D5 t):=by
 obtain⟨w,hw,k⟩:=h.ex
 exact⟨_,wj hw,λZ F σ H env P Q K hf kk=>k Z F σ H env _ _ K hf λx e1 F1 H1 p s1 K1=>kk _ e1 F1 H1 p s1 K1⟩
theorem rG(hc:ED ob X c t)(ha:yA ob X a f)(hb:yA ob X b g):yA ob X (.IfExp c a b pos) (NX t f g):=by
 obtain⟨w,hw,k⟩:=hc.ex
 obtain⟨ta,ha,ka⟩:=ha.ex
 obtain⟨tb,hb,kb⟩:=hb.ex
 refine⟨_,sv hw ha hb,λZ F σ H env P Q K hf kk=>k Z F σ H env _ _ K hf λx e1 F1 H1 p s1 K1=>?_⟩
 cases x with
 |true=>exact Ct (ka Z F1 σ H1 e1 P Q K1 p λx e2 v F2 H2 p2 s2 K2 r2=>kk x e2 v F2 H2 p2 (ah s1 s2) K2 r2)
 |false=>exact B9 (kb Z F1 σ H1 e1 P Q K1 p λx e2 v F2 H2 p2 s2 K2 r2=>kk x e2 v F2 H2 p2 (ah s1 s2) K2 r2)
def Cy:PV->Option Bool
 |.bl b=>some b
 |_=>none
def Ex(a b:WE):WE:=λenv P=>a env λx e=>opt (Cy x) λk=>if k=true then b e P else P (.bl false) e
def TK(a b:WE):WE:=λenv P=>a env λx e=>opt (Cy x) λk=>if k=true then P (.bl true) e else b e P
def Ki(a:WE):WE:=λenv P=>a env λx e=>opt (Cy x) λk=>P (.bl (!k)) e
theorem jz{op}(h:yA ob X a f):yA ob X (.BoolOp op [a] pos) f:=by
 obtain⟨t,ht,k⟩:=h.ex
 exact⟨t,wz ht,k⟩
theorem oS{k:Bool}(r:Rep K F v x)(h:Cy x=some k):v=.bl k/\x=.bl k:=by
 cases x<;>cases h
 cases r
 exact⟨rfl,rfl⟩
theorem gv(ha:yA ob X a f)(hb:yA ob X (.BoolOp .And (b::rest) pos) g):yA ob X (.BoolOp .And (a::b::rest) pos) (Ex f g):=by
 obtain⟨ta,ha,ka⟩:=ha.ex
 obtain⟨tb,hb,kb⟩:=hb.ex
 refine⟨_,wC ha hb,λZ F σ H env P Q K hf kk=>ka Z F σ H env _ _ K hf λx e1 v F1 H1 p s1 K1 r1=>?_⟩
 obtain⟨z,hz,p⟩:=p
 obtain⟨rfl,rfl⟩:=oS r1 hz
 refine⟨z,rfl,?_⟩
 cases z with
 |true=>exact Ct (kb Z F1 σ H1 e1 P Q K1 p λx e2 v F2 H2 p2 s2 K2 r2=>kk x e2 v F2 H2 p2 (ah s1 s2) K2 r2)
 |false=>exact B9 (kk _ e1 _ F1 H1 p s1 K1 (.bl _))
theorem xq(ha:yA ob X a f):yA ob X (.UnaryOp .Not a pos) (Ki f):=by
 obtain⟨ta,ha,ka⟩:=ha.ex
 refine⟨_,wA ha,λZ F σ H env P Q K hf kk=>ka Z F σ H env _ _ K hf λx e1 v F1 H1 p s1 K1 r1=>?_⟩
 obtain⟨z,hz,p⟩:=p
 obtain⟨rfl,rfl⟩:=oS r1 hz
 exact⟨z,rfl,kk _ e1 _ F1 H1 p s1 K1 (.bl _)⟩
def zb:Nat->PV->PV->Option Bool
 |0,_,_=>none
 |d+1,x,y=>match x,y with
  |.lT,.lT=>some true
  |.lT,.bl _=>some false
  |.lT,.int _=>some false
  |.lT,.str _=>some false
  |.bl _,.lT=>some false
  |.bl a,.bl b=>some (a==b)
  |.bl a,.int b=>some ((if a then 1 else 0)==b)
  |.bl _,.str _=>some false
  |.int _,.lT=>some false
  |.int a,.bl b=>some (a==(if b then 1 else 0))
  |.int a,.int b=>some (a==b)
  |.int _,.str _=>some false
  |.str _,.lT=>some false
  |.str _,.bl _=>some false
  |.str _,.int _=>some false
  |.str a,.str b=>some (a==b)
  |.tup xs,.tup ys=>((xs.zip ys).mapM λp=>zb d p.1 p.2).map λbs=>bs.all id && xs.length==ys.length
  |.lst xs,.lst ys=>if xs.length=ys.length then ((xs.zip ys).mapM λp=>zb d p.1 p.2).map λbs=>bs.all id else some false
  |.tup _,.lst _=>some false
  |.lst _,.tup _=>some false
  |.tup _,.lT=>some false
  |.tup _,.bl _=>some false
  |.tup _,.int _=>some false
  |.tup _,.str _=>some false
  |.lT,.tup _=>some false
  |.bl _,.tup _=>some false
  |.int _,.tup _=>some false
  |.str _,.tup _=>some false
  |.lst _,.lT=>some false
  |.lst _,.bl _=>some false
  |.lst _,.int _=>some false
  |.lst _,.str _=>some false
  |.lT,.lst _=>some false
  |.bl _,.lst _=>some false
  |.int _,.lst _=>some false
  |.str _,.lst _=>some false
  |_,_=>none
variable{α:Type}
theorem bo{β:Type}{f:α->Option β}:∀{l:List α} {m:List β},l.mapM f=some m->m.length=l.length/\∀(i:Nat) (a:α),l[i]?=some a->∃b,m[i]?=some b/\f a=some b
 |[],m,h=>by simp at h;subst h;exact⟨rfl,λi a e=>by simp at e⟩
 |a::l,m,h=>by
  rw[abt]at h
  cases ea:f a with
  |none=>rw[ea]at h;cases h
  |some b=>
   rw[ea]at h
   cases el:l.mapM f with
   |none=>rw[el]at h;cases h
   |some m'=>
    rw[el]at h
    have h:some (b::m')=some m:=h
    cases h
    obtain⟨h1,h2⟩:=bo el
    refine⟨by simp[h1],λi c e=>?_⟩
    cases i with
    |zero=>simp at e;subst e;exact⟨b,rfl,ea⟩
    |succ i=>simp at e ⊢;exact h2 i c e
theorem tO.GK:∀{xs:List V} {us:List Value} {i:Nat} {u:Value},tO xs us->us[i]?=some u->∃x,xs[i]?=some x/\RelV x u
 |_,_,_,_,.nil,e=>by simp at e
 |_,_,0,_,.cons r _,e=>by simp at e;subst e;exact⟨_,rfl,r⟩
 |_,_,i+1,x,.cons _ t,e=>by
  obtain⟨u,h1,h2⟩:=tO.GK (i:=i) (u:=x) t (by simpa using e)
  exact⟨u,by simpa using h1,h2⟩
variable{pins:List (Addr×Obj)}{σ:L2.St}{s:Shared}
variable{ws:List V}
theorem cp(I:Inv X pins σ H s){a:Addr}{vs:List V}(h1:zp X.K H a vs)(h2:zg X.K H a ws):False:=by
 obtain⟨_,_,⟨o,n,e,c,_⟩,_⟩:=I.list h1
 obtain⟨_,_,⟨o',e',c',_⟩,_⟩:=I.tuple h2
 rw[e]at e';cases e';rw[c]at c';injection c' with c';exact absurd c' (by decide)
theorem dA{e:Nat->Bool}{bs:List Bool}(h:∀j,j<bs.length->bs[j]?=some (e j)):(aaS bs.length).all e=bs.all id:=by
 rw[aaL,aeO,aeO]
 constructor
 .intro q b hb
  obtain⟨j,hj,rfl⟩:=List.mem_iff_getElem.mp hb
  have:=h j hj
  rw[aaa hj]at this
  have q2:=q j (List.mem_range.mpr hj)
  rw[<- aao this]at q2
  exact q2
 .intro q j hj
  have hj:=List.mem_range.mp hj
  have:=h j hj
  rw[aaa hj]at this
  rw[<- aao this]
  exact q _ (abK hj)
theorem lu(I:Inv X pins σ H s)(sF:dO F H):∀{d:Nat} {v:V} {x y:PV} {k:Bool},Rep X.K F v x->Rep X.K F v y->zb d x y=some k->k=true:=by
 intro d
 induction d with
 |zero=>intro v x y k _ _ h;cases h
 |succ d ih=>
  intro v x y k rx ry h
  have lists:∀{vs:List V} {xs ys:List PV} {bs:List Bool},oF X.K F vs xs->oF X.K F vs ys->(xs.zip ys).mapM (λp=>zb d p.1 p.2)=some bs->bs.all id=true:=λ{vs xs ys bs} r1 r2 hm=>by
   obtain⟨h1,h2⟩:=bo hm
   rw[aeO]
   intro b hb
   obtain⟨j,hj,rfl⟩:=List.mem_iff_getElem.mp hb
   have PB:j<(xs.zip ys).length:=by rw[<- h1];exact hj
   obtain⟨b',e1,e2⟩:=h2 j _ (aaa PB)
   rw[aaa hj]at e1
   cases aao e1
   have hx:xs[j]?=some (xs.zip ys)[j].1:=by
    have:=aaa PB
    rw[aa7]at this
    exact this.1
   have hy:ys[j]?=some (xs.zip ys)[j].2:=by
    have:=aaa PB
    rw[aa7]at this
    exact this.2
   obtain⟨v1,q1,q2⟩:=r1.get hx
   obtain⟨v2,q3,q4⟩:=r2.get hy
   rw[q1]at q3;cases q3
   exact ih q2 q4 e2
  cases rx with
  |lT=>cases ry;cases h;rfl
  |bl b=>cases ry;cases h;simp
  |int b=>cases ry;cases h;simp
  |str b=>cases ry;cases h;simp
  |tup h1 r1=>
   cases ry with
   |tup h2 r2=>
    have:=I.zR (aw sF h1) (aw sF h2)
    subst this
    replace h:Option.map (λbs:List Bool=>bs.all id && acN _==acN _) (List.mapM (λp:PV×PV=>zb d p.1 p.2) (List.zip _ _))=some k:=h
    rw[aap]at h
    obtain⟨bs,hb,e⟩:=h
    rw[<- e,lists r1 r2 hb,<- r1.len,<- r2.len]
    simp
   |lst h2 r2=>exact(cp I (.inl (.inl (sF _ _ h2))) (aw sF h1)).elim
   |yw h2 r2=>cases h
   |Ap h2=>cases h
  |lst h1 r1=>
   cases ry with
   |tup h2 r2=>exact(cp I (.inl (.inl (sF _ _ h1))) (aw sF h2)).elim
   |lst h2 r2=>
    rw[h1]at h2;cases h2
    replace h:(if acN _=acN _ then Option.map (λbs:List Bool=>bs.all id) (List.mapM (λp:PV×PV=>zb d p.1 p.2) (List.zip _ _))else some false)=some k:=h
    rw[if_pos (by rw[<- r1.len,<- r2.len])]at h
    rw[aap]at h
    obtain⟨bs,hb,e⟩:=h
    rw[<- e,lists r1 r2 hb]
   |yw h2 r2=>cases h
   |Ap h2=>cases h
  |yw h1 r1=>cases y<;>cases h
  |Ap h1=>cases y<;>cases h
theorem Kf(I:Inv X pins σ H s)(sF:dO F H):∀{d:Nat} {A:Around} {v u:V} {x y:PV} {a b:Value} {k:Bool},A.units+d<cLine->Rep X.K F v x->Rep X.K F u y->RelV v a->RelV u b->zb d x y=some k->SeqAt.RcAt A s a b k/\SeqAt.EqAt A s a b k:=by
 intro d
 induction d with
 |zero=>intro A v u x y a b k _ _ _ _ _ h;cases h
 |succ d ih=>
  intro A v u x y a b k hu rx ry ra rb h
  have zI:A.units<cLine:=by omega
  cases rx with
  |lT=>
   cases ra
   cases ry with
   |lT=>cases rb;cases h;exact⟨SeqAt.RcAt.none_none,ae2 _⟩
   |bl b=>cases rb;cases h;exact⟨SeqAt.RcAt.none_bool b,SeqAt.EqAt.none_bool b⟩
   |int b=>obtain⟨t,rfl⟩:=rb;cases h;exact⟨SeqAt.RcAt.none_int b t,SeqAt.EqAt.none_int b t⟩
   |str b=>obtain⟨t,rfl⟩:=rb;cases h;exact⟨SeqAt.RcAt.none_str b t,SeqAt.EqAt.none_str b t⟩
   |tup h1 r1=>
    cases rb;cases h
    obtain⟨gE,_,p,_⟩:=I.tuple (aw sF h1)
    exact⟨SeqAt.RcAt.none_tuple p zI,SeqAt.EqAt.none_tuple p zI⟩
   |lst h1 r1=>
    cases rb;cases h
    obtain⟨gE,_,p,_⟩:=I.list (.inl (.inl (sF _ _ h1)))
    exact⟨SeqAt.RcAt.none_list p.isList zI,SeqAt.EqAt.none_list p.isList zI⟩
   |yw=>cases h
   |Ap=>cases h
  |bl a=>
   cases ra
   cases ry with
   |lT=>cases rb;cases h;exact⟨SeqAt.RcAt.bool_none a,SeqAt.EqAt.bool_none a⟩
   |bl b=>cases rb;cases h;exact⟨SeqAt.RcAt.bool_bool a b,SeqAt.EqAt.bool_bool a b⟩
   |int b=>obtain⟨t,rfl⟩:=rb;cases h;exact⟨SeqAt.RcAt.bool_int a b t,SeqAt.EqAt.bool_int a b t⟩
   |str b=>obtain⟨t,rfl⟩:=rb;cases h;exact⟨SeqAt.RcAt.bool_str a b t,SeqAt.EqAt.bool_str a b t⟩
   |tup h1 r1=>
    cases rb;cases h
    obtain⟨gE,_,p,_⟩:=I.tuple (aw sF h1)
    exact⟨SeqAt.RcAt.bool_tuple a p zI,SeqAt.EqAt.bool_tuple a p zI⟩
   |lst h1 r1=>
    cases rb;cases h
    obtain⟨gE,_,p,_⟩:=I.list (.inl (.inl (sF _ _ h1)))
    exact⟨SeqAt.RcAt.bool_list a p.isList zI,SeqAt.EqAt.bool_list a p.isList zI⟩
   |yw=>cases h
   |Ap=>cases h
  |int a=>
   obtain⟨t',rfl⟩:=ra
   cases ry with
   |lT=>cases rb;cases h;exact⟨SeqAt.RcAt.int_none a t',SeqAt.EqAt.int_none a t'⟩
   |bl b=>cases rb;cases h;exact⟨SeqAt.RcAt.int_bool a t' b,SeqAt.EqAt.int_bool a t' b⟩
   |int b=>obtain⟨t,rfl⟩:=rb;cases h;exact⟨SeqAt.RcAt.int_int a t' b t,aek a t' b t⟩
   |str b=>obtain⟨t,rfl⟩:=rb;cases h;exact⟨SeqAt.RcAt.int_str a t' b t,SeqAt.EqAt.int_str a t' b t⟩
   |tup h1 r1=>
    cases rb;cases h
    obtain⟨gE,_,p,_⟩:=I.tuple (aw sF h1)
    exact⟨SeqAt.RcAt.int_tuple a t' p zI,SeqAt.EqAt.int_tuple a t' p zI⟩
   |lst h1 r1=>
    cases rb;cases h
    obtain⟨gE,_,p,_⟩:=I.list (.inl (.inl (sF _ _ h1)))
    exact⟨SeqAt.RcAt.int_list a t' p.isList zI,SeqAt.EqAt.int_list a t' p.isList zI⟩
   |yw=>cases h
   |Ap=>cases h
  |str a=>
   obtain⟨t',rfl⟩:=ra
   cases ry with
   |lT=>cases rb;cases h;exact⟨SeqAt.RcAt.str_none a t',SeqAt.EqAt.str_none a t'⟩
   |bl b=>cases rb;cases h;exact⟨SeqAt.RcAt.str_bool a t' b,SeqAt.EqAt.str_bool a t' b⟩
   |int b=>obtain⟨t,rfl⟩:=rb;cases h;exact⟨SeqAt.RcAt.str_int a t' b t,SeqAt.EqAt.str_int a t' b t⟩
   |str b=>obtain⟨t,rfl⟩:=rb;cases h;exact⟨SeqAt.RcAt.str_str a t' b t,SeqAt.EqAt.str_str a t' b t⟩
   |tup h1 r1=>
    cases rb;cases h
    obtain⟨gE,_,p,_⟩:=I.tuple (aw sF h1)
    exact⟨SeqAt.RcAt.str_tuple a t' p zI,SeqAt.EqAt.str_tuple a t' p zI⟩
   |lst h1 r1=>
    cases rb;cases h
    obtain⟨gE,_,p,_⟩:=I.list (.inl (.inl (sF _ _ h1)))
    exact⟨SeqAt.RcAt.str_list a t' p.isList zI,SeqAt.EqAt.str_list a t' p.isList zI⟩
   |yw=>cases h
   |Ap=>cases h
  |@tup pa vs xs h1 r1=>
   cases ra
   obtain⟨gE,rv,p,_⟩:=I.tuple (aw sF h1)
   cases ry with
   |lT=>cases rb;cases h;exact⟨SeqAt.RcAt.tuple_none p zI,SeqAt.EqAt.tuple_none p zI⟩
   |bl b=>cases rb;cases h;exact⟨SeqAt.RcAt.tuple_bool b p zI,SeqAt.EqAt.tuple_bool b p zI⟩
   |int b=>obtain⟨t,rfl⟩:=rb;cases h;exact⟨SeqAt.RcAt.tuple_int b t p zI,SeqAt.EqAt.tuple_int b t p zI⟩
   |str b=>obtain⟨t,rfl⟩:=rb;cases h;exact⟨SeqAt.RcAt.tuple_str b t p zI,SeqAt.EqAt.tuple_str b t p zI⟩
   |@tup pb ws ys h2 r2=>
    cases rb
    have h0:=h
    obtain⟨zm,BA,p2,_⟩:=I.tuple (aw sF h2)
    replace h:Option.map (λbs:List Bool=>bs.all id && xs.length==ys.length) (List.mapM (λp:PV×PV=>zb d p.1 p.2) (xs.zip ys))=some k:=h
    rw[aap]at h
    obtain⟨bs,hb,e⟩:=h
    obtain⟨Fo,Fp⟩:=bo hb
    have l1:gE.length=xs.length:=by rw[<- rv.length,r1.len]
    have l2:zm.length=ys.length:=by rw[<- BA.length,r2.len]
    have rc:SeqAt.RcAt A s (.ref pa) (.ref pb) k:=by
     have:=SeqAt.RcAt.tuples (e:=λj=>bs.getD j false) p p2 zI (λj j1 j2=>by
      simp only[aaf]at j1 j2
      have jx:j<xs.length:=by omega
      have jy:j<ys.length:=by omega
      have hz:(xs.zip ys)[j]?=some (xs[j],ys[j]):=by rw[aa7];exact⟨by simp[jx],by simp[jy]⟩
      obtain⟨b,e1,e2⟩:=Fp j _ hz
      obtain⟨v1,q1,q2⟩:=r1.get (aaa jx)
      obtain⟨v2,q3,q4⟩:=r2.get (aaa jy)
      obtain⟨u1,q5,q6⟩:=rv.get q1
      obtain⟨u2,q7,q8⟩:=BA.get q3
      have g1:gE.toArray[j]=u1:=by simpa[aaa j1]using q5
      have g2:zm.toArray[j]=u2:=by simpa[aaa j2]using q7
      rw[g1,g2]
      have C1:bs.getD j false=b:=by simp[aen,e1]
      rw[C1]
      exact(ih (A:=A.in1) (by show A.units+1+d<cLine;omega) q2 q4 q6 q8 e2).2)
     have e3:((aaS (min gE.toArray.size zm.toArray.size)).all (λj=>bs.getD j false) && gE.toArray.size==zm.toArray.size)=k:=by
      have e4:min gE.toArray.size zm.toArray.size=bs.length:=by
       rw[Fo,adU,aaf,aaf,l1,l2]
      rw[e4,dA (λj hj=>by simp[aen,aaa hj]),aaf,aaf,l1,l2]
      exact e
     rw[e3]at this
     exact this
    refine⟨rc,?_⟩
    by_cases q:pa=pb
    .subst q
     have:k=true:=lu I sF (.tup h1 r1) (.tup h2 r2) h0
     subst this
     exact ae2 _
    .exact SeqAt.EqAt.of_refs q rc
   |lst h2 r2=>
    cases rb;cases h
    obtain⟨zm,_,p2,_⟩:=I.list (.inl (.inl (sF _ _ h2)))
    exact⟨SeqAt.RcAt.tuple_list p p2.isList zI,SeqAt.EqAt.tuple_list p p2.isList zI⟩
   |yw=>cases h
   |Ap=>cases h
  |@lst pa vs xs h1 r1=>
   cases ra
   obtain⟨gE,rv,p,_⟩:=I.list (.inl (.inl (sF _ _ h1)))
   cases ry with
   |lT=>cases rb;cases h;exact⟨SeqAt.RcAt.list_none p.isList zI,SeqAt.EqAt.list_none p.isList zI⟩
   |bl b=>cases rb;cases h;exact⟨SeqAt.RcAt.list_bool b p.isList zI,SeqAt.EqAt.list_bool b p.isList zI⟩
   |int b=>obtain⟨t,rfl⟩:=rb;cases h;exact⟨SeqAt.RcAt.list_int b t p.isList zI,SeqAt.EqAt.list_int b t p.isList zI⟩
   |str b=>obtain⟨t,rfl⟩:=rb;cases h;exact⟨SeqAt.RcAt.list_str b t p.isList zI,SeqAt.EqAt.list_str b t p.isList zI⟩
   |tup h2 r2=>
    cases rb;cases h
    obtain⟨zm,_,p2,_⟩:=I.tuple (aw sF h2)
    exact⟨SeqAt.RcAt.list_tuple p.isList p2 zI,SeqAt.EqAt.list_tuple p.isList p2 zI⟩
   |@lst pb ws ys h2 r2=>
    cases rb
    have h0:=h
    obtain⟨zm,BA,p2,_⟩:=I.list (.inl (.inl (sF _ _ h2)))
    have l1:gE.length=xs.length:=by rw[<- rv.length,r1.len]
    have l2:zm.length=ys.length:=by rw[<- BA.length,r2.len]
    have rc:SeqAt.RcAt A s (.ref pa) (.ref pb) k:=by
     replace h:(if xs.length=ys.length then Option.map (λbs:List Bool=>bs.all id) (List.mapM (λp:PV×PV=>zb d p.1 p.2) (xs.zip ys))else some false)=some k:=h
     split at h
     .rename_i hl
      rw[aap]at h
      obtain⟨bs,hb,e⟩:=h
      obtain⟨Fo,Fp⟩:=bo hb
      have:=SeqAt.RcAt.lists (e:=λj=>bs.getD j false) p.isList p2.isList (by rw[aaf,aaf];omega) zI (λj j1 j2=>by
       simp only[aaf]at j1 j2
       have jx:j<xs.length:=by omega
       have jy:j<ys.length:=by omega
       have hz:(xs.zip ys)[j]?=some (xs[j],ys[j]):=by rw[aa7];exact⟨by simp[jx],by simp[jy]⟩
       obtain⟨b,e1,e2⟩:=Fp j _ hz
       obtain⟨v1,q1,q2⟩:=r1.get (aaa jx)
       obtain⟨v2,q3,q4⟩:=r2.get (aaa jy)
       obtain⟨u1,q5,q6⟩:=rv.get q1
       obtain⟨u2,q7,q8⟩:=BA.get q3
       have g1:gE.toArray[j]=u1:=by simpa[aaa j1]using q5
       have g2:zm.toArray[j]=u2:=by simpa[aaa j2]using q7
       rw[g1,g2]
       have C1:bs.getD j false=b:=by simp[aen,e1]
       rw[C1]
       exact(ih (A:=A.in1) (by show A.units+1+d<cLine;omega) q2 q4 q6 q8 e2).2)
      have e3:((aaS gE.toArray.size).all (λj=>bs.getD j false))=k:=by
       have e4:gE.toArray.size=bs.length:=by
        rw[Fo,adU,aaf,l1];omega
       rw[e4,dA (λj hj=>by simp[aen,aaa hj])]
       exact e
      rw[e3]at this
      exact this
     .rename_i hl
      cases h
      exact SeqAt.RcAt.lists_lengths p.isList p2.isList (by simp only[aaf];simpa[l1,l2]using hl) zI
    refine⟨rc,?_⟩
    by_cases q:pa=pb
    .subst q
     have:k=true:=lu I sF (.lst h1 r1) (.lst h2 r2) h0
     subst this
     exact ae2 _
    .exact SeqAt.EqAt.of_refs q rc
   |yw=>cases h
   |Ap=>cases h
  |yw h1 r1=>cases y<;>cases h
  |Ap h1=>cases y<;>cases h
def yU(x y:PV):Option PV:=(zb 60 x y).map .bl
theorem Vw.Ay(h:Vw M F H v x)(s:dO F H)(hx:∀xs,x≠.set xs):∃F',dO F F'/\dO F' H/\Rep M.K F' v x:=by
 rcases h with h|⟨a,rfl,h⟩
 .exact⟨F,am,s,h⟩
 .cases x<;>try exact h.elim
  .rename_i xs
   obtain⟨vs,h1,h2⟩:=h
   cases e:F a with
   |none=>
    refine⟨upd F a (.lst vs),ay e,λb o q=>?_,.lst ai (h2.mono (ay e))⟩
    by_cases z:b=a
    .subst z;rw[ai]at q;cases q;exact h1
    .rw[af z]at q;exact s b o q
   |some o=>
    have:=s a o e
    rw[h1]at this;cases this
    exact⟨F,am,s,.lst e h2⟩
  .rename_i xs
   obtain⟨vs,h1,h2⟩:=h
   cases e:F a with
   |none=>
    refine⟨upd F a (.dK vs),ay e,λb o q=>?_,.yw ai (h2.mono (ay e))⟩
    by_cases z:b=a
    .subst z;rw[ai]at q;cases q;exact h1
    .rw[af z]at q;exact s b o q
   |some o=>
    have:=s a o e
    rw[h1]at this;cases this
    exact⟨F,am,s,.yw e h2⟩
  .exact absurd rfl (hx _)
def LK(K:aag):R2:=λv u H Q=>∃F x y k,dO F H/\Rep K F v x/\Rep K F u y/\zb 60 x y=some k/\Q (.bl k) H
theorem bf(hu:X.A.units+60<cLine):zf X (aa9 .Eq) (LK X.K):=by
 intro pins s σ H x y v u Q I rx ry h
 obtain⟨F,p,q,k,sF,r1,r2,e,hq⟩:=h
 exact(Kf I sF (A:=X.A) hu r1 r2 rx ry e).1 X.prog X.w X.xe _ ⟨.bl k,H,I,rfl,hq⟩
theorem be:Cz ob X (LK X.K) yU:=by
 refine bw (P:=λ_ _ _ _=>True) λF H v u x y z sF rx ry hz=>?_
 unfold yU at hz
 rw[aap]at hz
 obtain⟨k,hk,rfl⟩:=hz
 have nx:∀xs,x≠.set xs:=λxs e=>by subst e;cases y<;>cases hk
 have ny:∀xs,y≠.set xs:=λxs e=>by subst e;cases x<;>cases hk
 obtain⟨F1,s1,s2,r1⟩:=rx.Ay sF nx
 have R1:Vw (md ob X) F1 H u y:=by
  rcases ry with r|⟨a,e,r⟩
  .exact .inl (r.mono s1)
  .exact .inr ⟨a,e,r.mono s1 rfl⟩
 obtain⟨F2,s3,s4,r2⟩:=R1.Ay s2 ny
 exact⟨_,λ_=>.bl _,λQ q=>⟨F2,x,y,k,s4,r1.mono s3,r2,hk,q⟩⟩
def toV:PV->Option V
 |.lT=>some .lT
 |.bl b=>some (.bl b)
 |.int i=>some (.int i)
 |.str s=>some (.str s)
 |_=>none
theorem qe{w:V}(h:Vw M F H v x)(e:toV x=some w):v=w:=by
 cases x<;>cases e
 .exact h.lT
 .exact h.bl
 .exact h.int
 .exact h.str
def Eg:PV->PV->Option PV
 |.lst xs,.lst []=>some (.bl (!xs.isEmpty))
 |x,y=>(toV x).bind λv=>(toV y).bind λu=>if Ht v u=true then some (.bl (!decide (v=u)))else none
theorem me:Cz ob X (λx y H Q=>OL x y H Q\/CV X.K x y H Q) Eg:=by
 refine bw (P:=λ_ _ _ _=>True) λF H v u x y z sF rx ry hz=>?_
 unfold Eg at hz
 split at hz
 .cases hz
  rename_i xs
  obtain⟨p,vs,rfl,h1,h2⟩:=rx.lst sF
  obtain⟨q,ws,rfl,g1,g2⟩:=ry.lst sF
  cases g2
  refine⟨_,λ_=>.bl _,λQ hq=>.inr ⟨p,q,vs,rfl,rfl,.inl (.inl h1),.inl (.inl g1),?_⟩⟩
  have:vs.isEmpty=xs.isEmpty:=by have:=h2.len;cases vs<;>cases xs<;>simp at this ⊢
  rw[this];exact hq
 .cases e1:toV x with
  |none=>rw[e1]at hz;cases hz
  |some v'=>
   cases e2:toV y with
   |none=>rw[e1,e2]at hz;cases hz
   |some u'=>
    rw[e1,e2]at hz
    have hz:(if Ht v' u'=true then some (PV.bl (!decide (v'=u')))else none)=some z:=hz
    split at hz
    .rename_i hs
     cases hz
     rw[qe rx e1,qe ry e2]
     exact⟨_,λ_=>.bl _,λQ q=>.inl ⟨hs,q⟩⟩
    .cases hz
theorem pA(hu:X.A.units<cLine):zf X (aa9 .NotEq) (λx y H Q=>OL x y H Q\/CV X.K x y H Q):=zf.or xM (iQ hu)
theorem Inv.NB(I:Inv X pins σ H s){a:Addr}{o:Obj}(h:X.K.lookup a=some o):H a=none:=(I.bs a o (I.mod.kin a o h)).2
theorem mU(I:Inv X pins σ H s){a:Addr}{kvs:List (Key×V)}{vs:List V}(h1:H a=some (.dK kvs))(h2:zg X.K H a vs):False:=by
 obtain⟨_,_,_,_,o,_,_,e,ex,_⟩:=I.ye a _ h1
 obtain⟨_,_,⟨o',e',c',_⟩,_⟩:=I.tuple h2
 rw[e]at e';cases e';rw[ex.1]at c';injection c' with c';exact absurd c' (by decide)
theorem ik:∀{ns ms:List Int},ns.map V.int=ms.map V.int->ns=ms
 |[],[],_=>rfl
 |n::ns,m::ms,h=>by
  rw[aau,aau]at h
  injection h with h1 h2
  injection h1 with h1
  rw[h1,ik h2]
 |[],_::_,h=>by simp at h
 |_::_,[],h=>by simp at h
variable{y:PV}
theorem Rep.inj(I:Inv X pins σ H s)(sF:dO F H)(h:Rep X.K F v x)(h':Rep X.K F v y):x=y:=by
 refine Rep.rec (K:=X.K) (F:=F) (motive_1:=λv x _=>∀y,Rep X.K F v y->x=y) (motive_2:=λvs xs _=>∀ys,oF X.K F vs ys->xs=ys) (motive_3:=λvs xs _=>∀ys,nE X.K F vs ys->xs=ys)
  ?_ ?_ ?_ ?_ ?_ ?_ ?_ ?_ ?_ ?_ ?_ ?_ h y h'
 .intro y h;cases h;rfl
 .intro b y h;cases h;rfl
 .intro b y h;cases h;rfl
 .intro b y h;cases h;rfl
 .intro a vs xs h1 _ ih y h
  cases h with
  |tup h2 r2=>
   have:=I.zR (aw sF h1) (aw sF h2)
   subst this
   rw[ih _ r2]
  |lst h2 r2=>exact(cp I (.inl (.inl (sF _ _ h2))) (aw sF h1)).elim
  |yw h2 r2=>exact(mU I (sF _ _ h2) (aw sF h1)).elim
  |Ap h2=>exact(cp I (cQ sF h2.sq) (aw sF h1)).elim
 .intro a vs xs h1 _ ih y h
  cases h with
  |tup h2 r2=>exact(cp I (.inl (.inl (sF _ _ h1))) (aw sF h2)).elim
  |lst h2 r2=>rw[h1]at h2;cases h2;rw[ih _ r2]
  |yw h2 r2=>rw[h1]at h2;cases h2
  |Ap h2=>
   rcases h2 with ⟨o,h2⟩|⟨o,_,_,h2,_⟩
   .rw[h1]at h2;cases h2
   .have:=sF _ _ h1;rw[Inv.NB I h2]at this;cases this
 .intro a vs xs h1 _ ih y h
  cases h with
  |tup h2 r2=>exact(mU I (sF _ _ h1) (aw sF h2)).elim
  |lst h2 r2=>rw[h1]at h2;cases h2
  |yw h2 r2=>rw[h1]at h2;cases h2;rw[ih _ r2]
  |Ap h2=>
   rcases h2 with ⟨o,h2⟩|⟨o,_,_,h2,_⟩
   .rw[h1]at h2;cases h2
   .have:=sF _ _ h1;rw[Inv.NB I h2]at this;cases this
 .intro a ns h1 y h
  cases h with
  |tup h2 r2=>exact(cp I (cQ sF h1.sq) (aw sF h2)).elim
  |lst h2 r2=>
   rcases h1 with ⟨o,h1⟩|⟨o,_,_,h1,_⟩
   .rw[h1]at h2;cases h2
   .have:=sF _ _ h2;rw[Inv.NB I h1]at this;cases this
  |yw h2 r2=>
   rcases h1 with ⟨o,h1⟩|⟨o,_,_,h1,_⟩
   .rw[h1]at h2;cases h2
   .have:=sF _ _ h2;rw[Inv.NB I h1]at this;cases this
  |Ap h2=>rw[ik (I.Dv (cQ sF h1.sq) (cQ sF h2.sq))]
 .intro ys h;cases h;rfl
 .intro v x vs xs _ _ O7 O6 ys h
  cases h with
  |cons h r=>rw[O7 _ h,O6 _ r]
 .intro ys h;cases h;rfl
 .intro k v x vs xs _ _ O7 O6 ys h
  cases h with
  |cons h r=>rw[O7 _ h,O6 _ r]
variable{A:Around}
theorem gO(I:Inv X pins σ H s)(sF:dO F H){d:Nat}{vs:List V}{us:List Value}{xs:List PV}{u:Value}{ks:List Bool}(hu:A.units+d<cLine)(rv:tO vs us)(r:oF X.K F vs xs)(rx:Rep X.K F v x)(ru:RelV v u)
  (hk:xs.mapM (λy=>zb d y x)=some ks):∃e:Value->Bool,(∀y,y∈us->SeqAt.EqAt A s y u (e y))/\us.any e=ks.any id/\us.countP e=ks.countP id/\(∀(i:Nat) (w:Value),us[i]?=some w->ks[i]?=some (e w)):=by
 obtain⟨hl,hb⟩:=bo hk
 have l1:=rv.length
 have l2:=r.len
 have key:∀(i:Nat) (w:Value),us[i]?=some w->∃b y z,xs[i]?=some y/\vs[i]?=some z/\RelV z w/\Rep X.K F z y/\zb d y x=some b/\ks[i]?=some b:=λi w hw=>by
  obtain⟨z,e1,e2⟩:=tO.GK rv hw
  obtain⟨y,e3,e4⟩:=r.GK e1
  obtain⟨b,e5,e6⟩:=hb i y e3
  exact⟨b,y,z,e3,e1,e2,e4,e6,e5⟩
 let e:Value->Bool:=λw=>(us.zip ks).any λp=>p.1==w && p.2
 have four:∀(i:Nat) (w:Value),us[i]?=some w->ks[i]?=some (e w):=by
  intro i w hw
  obtain⟨b,y,z,e1,e2,e3,e4,e5,e6⟩:=key i w hw
  rw[e6]
  congr 1
  rw[aaL,acT]
  constructor
  .intro C1
   refine⟨(w,b),aaN (i:=i) (by rw[aa7];exact⟨hw,e6⟩),by simp[C1]⟩
  .rintro⟨⟨w',b'⟩,hm,hp⟩
   simp only[aa2]at hp
   obtain⟨j,hj,ej⟩:=List.mem_iff_getElem.mp hm
   have hz:=aaa hj
   rw[ej,aa7]at hz
   obtain⟨KI,Mq⟩:=hz
   have Ss:w'=w:=eq_of_beq hp.1
   dsimp only at KI Mq
   rw[Ss]at KI
   obtain⟨b2,y2,z2,f1,f2,f3,f4,f5,f6⟩:=key j w KI
   have:z=z2:=e3.inj f3
   subst this
   have:=Rep.inj I sF e4 f4
   subst this
   rw[e5]at f5;cases f5
   rw[Mq]at f6;cases f6
   exact hp.2
 have Mz:ks=us.map e:=by
  refine acx λi=>?_
  rw[aah]
  cases q:us[i]? with
  |none=>
   have:us.length<=i:=List.getElem?_eq_none_iff.mp q
   rw[aaq (by omega)];rfl
  |some w=>rw[four i w q];rfl
 refine⟨e,λy hy=>?_,?_,?_,four⟩
 .obtain⟨i,hi,rfl⟩:=List.mem_iff_getElem.mp hy
  have hw:=aaa hi
  obtain⟨b,y,z,e1,e2,e3,e4,e5,e6⟩:=key i _ hw
  have:=four i _ hw
  rw[e6]at this
  rw[<- aao this]
  exact(Kf I sF (A:=A) hu e4 rx e3 ru e5).2
 .rw[Mz,adW];rfl
 .rw[Mz,List.countP_map];rfl
def GA(x:PV):PV->Option Bool
 |.tup ys=>(ys.mapM λy=>zb 60 y x).map λks=>ks.any id
 |.lst ys=>(ys.mapM λy=>zb 60 y x).map λks=>ks.any id
 |.yw kvs=>(A7 x).map λk=>(zq kvs k).isSome
 |.str s=>match x with
  |.str t=>some (!(acM s t 0 s.length 1).isEmpty)
  |_=>none
 |.set S=>match x with
  |.str t=>some (decide (t∈S))
  |_=>none
 |_=>none
def Gn:PV->Bool
 |.set _=>false
 |_=>true
theorem mq(h:Gn x=true):∀xs,x≠.set xs:=λxs e=>by subst e;cases h
def A8(x y:PV):Option PV:=if Gn x=true then (GA x y).map .bl else none
def AD(x y:PV):Option PV:=if Gn x=true then (GA x y).map λb=>.bl (!b)else none
def Fc(P:aaE)(w:World)(K:aag)(neg:Bool):R2:=λv u H Q=>∃(F:Hp) (x:PV) (b:Bool),dO F H/\Q (.bl (if neg then !b else b)) H /\
 ((∃p vs ys ks,u=.ref p/\(zp K H p vs\/zg K H p vs)/\oF K F vs ys/\Rep K F v x/\ys.mapM (λy=>zb 60 y x)=some ks/\b=ks.any id) \/
  (∃p o,u=.ref p/\DS H p v o/\b=o.isSome)\/(∃i j,v=.str i/\u=.str j/\b=!(acM j i 0 j.length 1).isEmpty) \/
  (∃z a S n,v=.str z/\u=.ref a/\H a=some (Jf P w a S n)/\b=S z))
theorem dq(hu:X.A.units+62<cLine):zf X (aa9 .In) (Fc X.prog X.w X.K false):=by
 intro pins s σ H v u v' u' Q I rv ru h
 obtain⟨F,x,b,sF,q,h⟩:=h
 have q:Q (.bl b) H:=q
 rcases h with ⟨p,vs,ys,ks,rfl,hs,hr,hx,hk,rfl⟩|⟨p,o,rfl,hd,rfl⟩|⟨i,j,rfl,rfl,rfl⟩|⟨z,a,S,n,rfl,rfl,ha,rfl⟩
 .cases ru
  rcases hs with hs|hs
  .obtain⟨gE,r,pl,_⟩:=I.list hs
   obtain⟨e,e1,e2,_⟩:=gO I sF (A:=X.A.in1) (d:=60) (by show X.A.units+1+60<cLine;omega) r hr hx rv hk
   refine SeqAt.in_listAt e pl.isList (λy hy=>e1 y (by simpa using hy)) ⟨.bl _,H,I,rfl,?_⟩
   rw[show gE.toArray.any e=gE.any e by simp,e2];exact q
  .obtain⟨gE,r,pl,_⟩:=I.tuple hs
   obtain⟨e,e1,e2,_⟩:=gO I sF (A:=X.A.in1) (d:=60) (by show X.A.units+1+60<cLine;omega) r hr hx rv hk
   refine SeqAt.in_tupleAt e pl (λy hy=>e1 y (by simpa using hy)) ⟨.bl _,H,I,rfl,?_⟩
   rw[show gE.toArray.any e=gE.any e by simp,e2];exact q
 .cases ru
  exact xZ (by omega) I hd rv λs3 I3=>⟨.bl _,H,I3,rfl,q⟩
 .exact qH pins s σ H _ _ _ _ Q I rv ru ⟨i,j,rfl,rfl,q⟩
 .cases ru
  obtain⟨t,rfl⟩:=rv
  obtain⟨x,_,_⟩:=I.ye a _ ha
  exact wpAny_inSet_of (knd:=PySem.strKind X.prog X.w) (strKind_is _ _ _ _) rfl x ⟨.bl (S z),H,I.tok _,rfl,q⟩
theorem gK(hu:X.A.units+62<cLine):zf X (aa9 .NotIn) (Fc X.prog X.w X.K true):=by
 intro pins s σ H v u v' u' Q I rv ru h
 obtain⟨F,x,b,sF,q,h⟩:=h
 have q:Q (.bl (!b)) H:=q
 rcases h with ⟨p,vs,ys,ks,rfl,hs,hr,hx,hk,rfl⟩|⟨p,o,rfl,hd,rfl⟩|⟨i,j,rfl,rfl,rfl⟩|⟨z,a,S,n,rfl,rfl,ha,rfl⟩
 .cases ru
  rcases hs with hs|hs
  .obtain⟨gE,r,pl,_⟩:=I.list hs
   obtain⟨e,e1,e2,_⟩:=gO I sF (A:=X.A.in1) (d:=60) (by show X.A.units+1+60<cLine;omega) r hr hx rv hk
   refine SeqAt.notIn_listAt e pl.isList (λy hy=>e1 y (by simpa using hy)) ⟨.bl _,H,I,rfl,?_⟩
   rw[show gE.toArray.any e=gE.any e by simp,e2];exact q
  .obtain⟨gE,r,pl,_⟩:=I.tuple hs
   obtain⟨e,e1,e2,_⟩:=gO I sF (A:=X.A.in1) (d:=60) (by show X.A.units+1+60<cLine;omega) r hr hx rv hk
   refine SeqAt.notIn_tupleAt e pl (λy hy=>e1 y (by simpa using hy)) ⟨.bl _,H,I,rfl,?_⟩
   rw[show gE.toArray.any e=gE.any e by simp,e2];exact q
 .cases ru
  exact vH (by omega) I hd rv λs3 I3=>⟨.bl _,H,I3,rfl,q⟩
 .exact mi pins s σ H _ _ _ _ Q I rv ru ⟨i,j,rfl,rfl,q⟩
 .exact qF pins s σ H _ _ _ _ Q I rv ru ⟨z,a,S,n,rfl,rfl,ha,q⟩
theorem re{u:V}{b neg:Bool}(sF:dO F H)(nx:∀xs,x≠.set xs)(rx:Vw (md ob X) F H v x)(ry:Vw (md ob X) F H u y)(hz:GA x y=some b)(Q:VK)(q:Q (.bl (if neg then !b else b)) H):Fc X.prog X.w X.K neg v u H Q:=by
 unfold GA at hz
 have seq:∀{p:Addr} {vs:List V} {ys:List PV},u=.ref p->(zp X.K H p vs\/zg X.K H p vs)->oF X.K F vs ys->((ys.mapM λy=>zb 60 y x).map λks=>ks.any id)=some b->Fc X.prog X.w X.K neg v u H Q:=λ{p vs ys} hp hs hr hz=>by
  rw[aap]at hz
  obtain⟨ks,hk,e⟩:=hz
  obtain⟨F1,s1,s2,r1⟩:=rx.Ay sF nx
  exact⟨F1,x,b,s2,q,.inl ⟨p,vs,ys,ks,hp,hs,hr.mono s1,r1,hk,e.symm⟩⟩
 split at hz
 .obtain⟨p,vs,e,h1,h2⟩:=ry.tup sF
  exact seq e (.inr h1) h2 hz
 .obtain⟨p,vs,e,h1,h2⟩:=ry.lst sF
  exact seq e (.inl (.inl (.inl h1))) h2 hz
 .obtain⟨p,vs,e,h1,h2⟩:=ry.yw sF
  rw[aap]at hz
  obtain⟨k,hk,rfl⟩:=hz
  have hv:=Ia rx hk
  subst hv
  refine⟨F,.lT,_,sF,q,.inr (.inl ⟨p,zG vs k,e,O4 h1,?_⟩)⟩
  rcases h2.val (k:=k)with ⟨e1,e2⟩|⟨w,w',e1,e2,_⟩
  .rw[e1,e2];rfl
  .rw[e1,e2];rfl
 .split at hz
  .cases hz
   exact⟨F,.lT,_,sF,q,.inr (.inr (.inl ⟨_,_,rx.str,ry.str,rfl⟩))⟩
  .cases hz
 .split at hz
  .cases hz
   rcases ry with r|⟨p,rfl,r⟩
   .cases r
   .exact⟨F,.lT,_,sF,q,.inr (.inr (.inr ⟨_,p,_,_,rx.str,rfl,r,rfl⟩))⟩
  .cases hz
 .cases hz
theorem dm:Cz ob X (Fc X.prog X.w X.K false) A8:=by
 refine bw (P:=λ_ _ _ _=>True) λF H v u x y z sF rx ry hz=>?_
 unfold A8 at hz
 split at hz
 case isFalse=>cases hz
 rename_i nx
 rw[aap]at hz
 obtain⟨b,hb,rfl⟩:=hz
 exact⟨_,λ_=>.bl _,λQ q=>re sF (mq nx) rx ry hb Q q⟩
theorem gI:Cz ob X (Fc X.prog X.w X.K true) AD:=by
 refine bw (P:=λ_ _ _ _=>True) λF H v u x y z sF rx ry hz=>?_
 unfold AD at hz
 split at hz
 case isFalse=>cases hz
 rename_i nx
 rw[aap]at hz
 obtain⟨b,hb,rfl⟩:=hz
 exact⟨_,λ_=>.bl _,λQ q=>re sF (mq nx) rx ry hb Q q⟩
inductive Fu (M:Md) (F H:Hp):List V->List PV->Prop where
 |nil:Fu M F H [] []
 |cons {v:V} {x:PV} {vs:List V} {xs:List PV}:Vw M F H v x->Fu M F H vs xs->Fu M F H (v::vs) (x::xs)
theorem oF.RR{vs:List V}{xs:List PV}(h:oF M.K F vs xs):Fu M F H vs xs:=by
 induction h using oF.ind with
 |nil=>exact .nil
 |cons a _ ih=>exact .cons (.inl a) ih
theorem Fu.one{vs:List V}(h:Fu M F H vs [x]):∃v,vs=[v]/\Vw M F H v x:=by
 cases h with
 |cons a r=>cases r;exact⟨_,rfl,a⟩
theorem Fu.two{vs:List V}(h:Fu M F H vs [x,y]):∃v u,vs=[v,u]/\Vw M F H v x/\Vw M F H u y:=by
 cases h with
 |cons a r=>
  cases r with
  |cons b r=>cases r;exact⟨_,_,rfl,a,b⟩
structure EE(ob:zl)(X:Cx)(es:List Expr)(f:WA):Prop where
 ex:∃t:TA,PA X es t/\∀(Z:Zn) (F:Hp) (σ:L2.St) (H:Hp) (env:En) (P:List PV->En->Prop) (Q:List V->Hp->Prop),x3 (md ob X) Z F σ H env->f env P ->
  (∀xs eQ vs F' H',P xs eQ->dO F F'->x3 (md ob X) Z F' σ H' eQ->Fu (md ob X) F' H' vs xs->Q vs H')->t σ H Q
def a1(a:WE):WA:=λenv P=>a env λx e=>P [x] e
def Cg(o:List PV->Option PV)(fa:WA):WE:=λenv P=>fa env λxs e=>opt (o xs) λz=>P z e
variable{es:List Expr}{fa:WA}{x:Str}{Iu T:String}{r:List V->Hp->VK->Prop}{o:List PV->Option PV}
theorem Fy(h:DP ob X es fa):EE ob X es fa:=by
 obtain⟨t,ht,k⟩:=h.ex
 exact⟨t,ht,λZ F σ H env P Q K hf kk=>k Z F σ H env P Q K hf λxs e1 vs F1 H1 p _ s1 K1 r1=>kk xs e1 vs F1 H1 p s1 K1 r1.RR⟩
theorem gU(h:Co ob X e f)(hs:aai [e] X.env=(false,eval e X.env)::aai [] X.env:=by rfl):EE ob X [e] (a1 f):=by
 obtain⟨t,ht,k⟩:=h.ex
 exact⟨_,aM ht aW hs,λZ F σ H env P Q K hf kk=>k Z F σ H env _ _ K hf λx e1 v F1 H1 p s1 K1 r1=>kk [x] e1 [v] F1 H1 p s1 K1 (.cons r1 .nil)⟩
def BG(ob:zl)(X:Cx)(r:List V->Hp->VK->Prop)(o:List PV->Option PV):Prop :=
 ∀(Z:Zn) (F:Hp) (σ:L2.St) (H:Hp) (env:En) (vs:List V) (xs:List PV) (z:PV) (Q:VK),x3 (md ob X) Z F σ H env->Fu (md ob X) F H vs xs->o xs=some z ->
  (∀v' F' H',dO F F'->x3 (md ob X) Z F' σ H' env->Rep X.K F' v' z->Q v' H')->r vs H Q
def EF(ob:zl)(X:Cx)(r:List V->Hp->VK->Prop)(o:List PV->Option PV):Prop :=
 ∀(Z:Zn) (F:Hp) (σ:L2.St) (H:Hp) (env:En) (vs:List V) (xs:List PV) (z:PV) (Q:VK),x3 (md ob X) Z F σ H env->Fu (md ob X) F H vs xs->o xs=some z ->
  (∀v' H',(∀xs,z≠.set xs)->x3 (md ob X) Z F (σ++[some v']) H' (env++[some ⟨1,z⟩])->Q v' H')->r vs H Q
theorem ql{t:TA}(hq:BG ob X r o)(k:∀(Z:Zn) (F:Hp) (σ:L2.St) (H:Hp) (env:En) (P:List PV->En->Prop) (Q:List V->Hp->Prop),x3 (md ob X) Z F σ H env->fa env P->(∀xs eQ vs F' H',P xs eQ->dO F F'->x3 (md ob X) Z F' σ H' eQ->Fu (md ob X) F' H' vs xs->Q vs H')->t σ H Q):
  ∀(Z:Zn) (F:Hp) (σ:L2.St) (H:Hp) (env:En) (P:PV->En->Prop) (Q:VK),x3 (md ob X) Z F σ H env->Cg o fa env P->(∀x eQ v F' H',P x eQ->dO F F'->x3 (md ob X) Z F' σ H' eQ->Rep X.K F' v x->Q v H')->Nn r t σ H Q:=by
 intro Z F σ H env P Q K hf kk
 refine k Z F σ H env _ _ K hf λxs e1 vs F1 H1 p s1 K1 r1=>?_
 obtain⟨z,hz,p⟩:=p
 exact hq Z F1 σ H1 e1 vs xs z Q K1 r1 hz λv' F' H' s2 K2 r2=>kk z e1 v' F' H' p (ah s1 s2) K2 r2
theorem um{t:TA}(hq:EF ob X r o)(k:∀(Z:Zn) (F:Hp) (σ:L2.St) (H:Hp) (env:En) (P:List PV->En->Prop) (Q:List V->Hp->Prop),x3 (md ob X) Z F σ H env->fa env P->(∀xs eQ vs F' H',P xs eQ->dO F F'->x3 (md ob X) Z F' σ H' eQ->Fu (md ob X) F' H' vs xs->Q vs H')->t σ H Q):
  ∀(Z:Zn) (F:Hp) (σ:L2.St) (H:Hp) (env:En) (P:PV->En->Prop) (Q:VK),x3 (md ob X) Z F σ H env->Cg o fa env P->(∀x eQ v F' H',P x eQ->dO F F'->(∀xs,x≠.set xs)->x3 (md ob X) Z F' (σ++[some v]) H' (eQ++[some ⟨1,x⟩])->Q v H')->Nn r t σ H Q:=by
 intro Z F σ H env P Q K hf kk
 refine k Z F σ H env _ _ K hf λxs e1 vs F1 H1 p s1 K1 r1=>?_
 obtain⟨z,hz,p⟩:=p
 exact hq Z F1 σ H1 e1 vs xs z Q K1 r1 hz λv' H' hx K2=>kk z e1 v' F1 H' p s1 hx K2
theorem gS(hc:yq X (.builtin Iu) r)(hq:BG ob X r o)(hg:Gl X x)(hm:X.mg x=none)(hv:acg x=some (.builtin Iu))(ha:EE ob X (e::es) fa)(hn:x ≠ "__name__" :=by decide)(A9:(x==("__debug__" : Str))=false:=by decide)
  (he:aai (e::es) X.env=(false,eval e X.env)::aai es X.env:=by rfl) (Ag:(backTo pos (aai es X.env)).any (·.1)=false:=by rfl):yA ob X (.Call (.Name x p) (e::es) [] pos) (Cg o fa):=by
 obtain⟨t,ht,k⟩:=ha.ex
 exact⟨_,bT hc hg hm hv ht hn A9 he Ag,ql hq k⟩
theorem fC(hc:yq X (.type T) r)(hq:BG ob X r o)(hg:Gl X x)(hm:X.mg x=none)(hv:acg x=some (.type T))(ha:EE ob X (e::es) fa)(hn:x ≠ "__name__" :=by decide)(A9:(x==("__debug__" : Str))=false:=by decide)
  (he:aai (e::es) X.env=(false,eval e X.env)::aai es X.env:=by rfl) (Ag:(backTo pos (aai es X.env)).any (·.1)=false:=by rfl):yA ob X (.Call (.Name x p) (e::es) [] pos) (Cg o fa):=by
 obtain⟨t,ht,k⟩:=ha.ex
 exact⟨_,kU hc hg hm hv ht hn A9 he Ag,ql hq k⟩
theorem xu(hc:yq X (.type T) r)(hq:EF ob X r o)(hg:Gl X x)(hm:X.mg x=none)(hv:acg x=some (.type T))(ha:EE ob X (e::es) fa)(hn:x ≠ "__name__" :=by decide)(A9:(x==("__debug__" : Str))=false:=by decide)
  (he:aai (e::es) X.env=(false,eval e X.env)::aai es X.env:=by rfl) (Ag:(backTo pos (aai es X.env)).any (·.1)=false:=by rfl):E5 ob X (.Call (.Name x p) (e::es) [] pos) (Cg o fa):=by
 obtain⟨t,ht,k⟩:=ha.ex
 exact⟨_,kU hc hg hm hv ht hn A9 he Ag,um hq k⟩
variable{ns:List Int}
theorem Vw.Ap(h:Vw M F H v (.Ap ns))(s:dO F H):∃a,v=.ref a/\zp M.K H a (ns.map V.int):=by
 rcases h with h|⟨a,rfl,h⟩
 .cases h with
  |Ap h=>exact⟨_,rfl,cQ s h.sq⟩
 .exact h.elim
def B8:List PV->Option PV
 |[.lst xs]=>some (.int xs.length)
 |[.tup xs]=>some (.int xs.length)
 |[.yw xs]=>some (.int xs.length)
 |[.str s]=>if s.length<=100000 then some (.int s.length)else none
 |[.Ap ns]=>some (.int ns.length)
 |_=>none
def LD(K:aag):List V->Hp->VK->Prop:=λxs H Q=>(∃p ys,xs=[.ref p]/\(zp K H p ys\/zg K H p ys)/\Q (.int ys.length) H)\/((∃z,xs=[.str z]/\z.length<=sizeLine/\Q (.int z.length) H)\/∃a kvs,xs=[V.ref a]/\H a=some (.dK kvs)/\Q (.int kvs.length) H)
theorem jE:yq X (.builtin "len") (LD X.K):=yq.or gz (yq.or m3 rP)
theorem jF:BG ob X (LD X.K) B8:=by
 intro Z F σ H env vs xs z Q K rv hz k
 unfold B8 at hz
 split at hz
 .cases hz
  obtain⟨v,rfl,r⟩:=rv.one
  obtain⟨p,vs,rfl,h1,h2⟩:=r.lst K.sF
  exact .inl ⟨p,vs,rfl,.inl (.inl (.inl h1)),k _ F H am K (by rw[h2.len];exact .int _)⟩
 .cases hz
  obtain⟨v,rfl,r⟩:=rv.one
  obtain⟨p,vs,rfl,h1,h2⟩:=r.tup K.sF
  exact .inl ⟨p,vs,rfl,.inr h1,k _ F H am K (by rw[h2.len];exact .int _)⟩
 .cases hz
  obtain⟨v,rfl,r⟩:=rv.one
  obtain⟨p,vs,rfl,h1,h2⟩:=r.yw K.sF
  exact .inr (.inr ⟨p,vs,rfl,h1,k _ F H am K (by rw[h2.len];exact .int _)⟩)
 .split at hz
  .cases hz
   obtain⟨v,rfl,r⟩:=rv.one
   rw[r.str]
   exact .inr (.inl ⟨_,rfl,by rw[aax];omega,k _ F H am K (.int _)⟩)
  .cases hz
 .cases hz
  obtain⟨v,rfl,r⟩:=rv.one
  obtain⟨p,rfl,h1⟩:=r.Ap K.sF
  exact .inl ⟨p,_,rfl,.inl h1,k _ F H am K (by rw[aae];exact .int _)⟩
 .cases hz
def bW:List PV->Option PV
 |[.lst xs]=>some (.tup xs)
 |[.tup xs]=>some (.tup xs)
 |_=>none
def Gg(K:aag):List V->Hp->VK->Prop:=λxs H Q=>∃p ys,xs=[.ref p]/\((zp K H p ys/\∀l,H l=none->Q (.ref l) (upd H l (.tup ys)))\/(zg K H p ys/\Q (.ref p) H))
theorem cu:yq X (.type "tuple") (Gg X.K):=lJ
theorem cv:BG ob X (Gg X.K) bW:=by
 intro Z F σ H env vs xs z Q K rv hz k
 unfold bW at hz
 split at hz
 .cases hz
  obtain⟨v,rfl,r⟩:=rv.one
  obtain⟨p,vs,rfl,h1,h2⟩:=r.lst K.sF
  refine⟨p,vs,rfl,.inl ⟨.inl (.inl h1),λl hl=>?_⟩⟩
  have hF:F l=none:=dO.none_of K.sF hl
  exact k _ _ _ (ay hF) (K.lay hl) (.tup (.inl (.inl ai)) (h2.mono (ay hF)))
 .cases hz
  obtain⟨v,rfl,r⟩:=rv.one
  have r':=r.FL
  obtain⟨p,vs,rfl,h1,h2⟩:=r.tup K.sF
  exact⟨p,vs,rfl,.inr ⟨h1,k _ F H am K r'⟩⟩
 .cases hz
theorem f9:∀(ns:List Int),oF K F (ns.map V.int) (ns.map PV.int)
 |[]=>.nil
 |n::ns=>.cons (.int n) (f9 ns)
def ES:List PV->Option PV
 |[.int i,.int j]=>some (.int (if j > i then j else i))
 |[.str s,.str t]=>some (.str (Fe s t))
 |_=>none
theorem xD(hc:X.calm=true):yq X (.builtin "max") (λxs H Q=>(∃i j,xs=[.int i,.int j]/\Q (.int (if j > i then j else i)) H)\/∃x y,xs=[.str x,.str y]/\Q (.str (Fe x y)) H):=yq.or (rO hc) (pT hc)
theorem xF:BG ob X (λxs H Q=>(∃i j,xs=[.int i,.int j]/\Q (.int (if j > i then j else i)) H)\/∃x y,xs=[.str x,.str y]/\Q (.str (Fe x y)) H) ES:=by
 intro Z F σ H env vs xs z Q K rv hz k
 unfold ES at hz
 split at hz
 .cases hz
  obtain⟨v,u,rfl,r1,r2⟩:=rv.two
  rw[r1.int,r2.int]
  exact .inl ⟨_,_,rfl,k _ F H am K (.int _)⟩
 .cases hz
  obtain⟨v,u,rfl,r1,r2⟩:=rv.two
  rw[r1.str,r2.str]
  exact .inr ⟨_,_,rfl,k _ F H am K (.str _)⟩
 .cases hz
def Gy:PV->Option Int
 |.int i=>some i
 |_=>none
def Dq:PV->Option Str
 |.str i=>some i
 |_=>none
theorem dh{g:PV->Option α}{w:α->V}(hg:∀x a,g x=some a->∀v,Rep K F v x->v=w a):∀{xs:List PV} {as:List α} {vs:List V},xs.mapM g=some as->oF K F vs xs->vs=as.map w
 |[],as,vs,h,r=>by simp at h;subst h;cases r;rfl
 |x::xs,as,vs,h,r=>by
  rw[abt]at h
  cases ea:g x with
  |none=>rw[ea]at h;cases h
  |some a=>
   rw[ea]at h
   cases el:xs.mapM g with
   |none=>rw[el]at h;cases h
   |some bs=>
    rw[el]at h
    have h:some (a::bs)=some as:=h
    cases h
    cases r with
    |cons r1 r2=>rw[aau,hg x a ea _ r1,dh hg el r2]
def DJ:List PV->Option PV
 |[.lst xs]=>(xs.mapM Cy).map λbs=>.bl (bs.all id)
 |_=>none
theorem xH(x:PV)(a:Bool)(h:Cy x=some a)(v:V)(r:Rep K F v x):v=.bl a:=by cases x<;>cases h;cases r;rfl
theorem jP(x:PV)(a:Str)(h:Dq x=some a)(v:V)(r:Rep K F v x):v=.str a:=by cases x<;>cases h;cases r;rfl
theorem xG:BG ob X (λxs H Q=>∃(p:Addr) (bs:List Bool),xs=[.ref p]/\zp X.K H p (bs.map V.bl)/\Q (.bl (bs.all id)) H) DJ:=by
 intro Z F σ H env vs xs z Q K rv hz k
 unfold DJ at hz
 split at hz
 .rw[aap]at hz
  obtain⟨ns,hn,rfl⟩:=hz
  obtain⟨v,rfl,r⟩:=rv.one
  obtain⟨p,vs,rfl,h1,h2⟩:=r.lst K.sF
  have:=dh xH hn h2
  subst this
  exact⟨p,ns,rfl,.inl (.inl h1),k _ F H am K (.bl _)⟩
 .cases hz
abbrev WO:=En->(Option Int->En->Prop)->Prop
structure N9(ob:zl)(X:Cx)(e:Option Expr)(f:WO):Prop where
 ex:∃t:TO,PO X e t/\∀(Z:Zn) (F:Hp) (σ:L2.St) (H:Hp) (env:En) (P:Option Int->En->Prop) (Q:Option Int->Hp->Prop),x3 (md ob X) Z F σ H env->f env P ->
  (∀i eQ F' H',P i eQ->dO F F'->x3 (md ob X) Z F' σ H' eQ->Q i H')->t σ H Q
def CG:WO:=λenv P=>P none env
def CF(a:WE):WO:=λenv P=>a env λx e=>opt (Gy x) λi=>P (some i) e
theorem kF:N9 ob X none CG:=⟨_,j4,λZ F σ H env P Q K hf k=>k none env F H hf am K⟩
theorem kE(h:Co ob X e f):N9 ob X (some e) (CF f):=by
 obtain⟨t,ht,k⟩:=h.ex
 refine⟨_,j0 ht,λZ F σ H env P Q K hf kk=>k Z F σ H env _ _ K hf λx e1 v F1 H1 p s1 K1 r1=>?_⟩
 obtain⟨z,hz,p⟩:=p
 cases x<;>cases hz
 rw[r1.int]
 exact⟨_,rfl,kk _ e1 F1 H1 p s1 K1⟩
def Ci(xs:List α)(lo hi:Option Int):List α:=(xs.drop (HT.yR xs.length 0 lo)).take (HT.yR xs.length xs.length hi - HT.yR xs.length 0 lo)
def Hr:PV->Option Int->Option Int->Option PV
 |.lst xs,lo,hi=>some (.lst (Ci xs lo hi))
 |.tup xs,lo,hi=>some (.tup (Ci xs lo hi))
 |.Ap ns,lo,hi=>some (.lst ((Ci ns lo hi).map .int))
 |_,_,_=>none
def Lc(a:WE)(lo hi:WO):WE:=λenv P=>a env λx e1=>lo e1 λl e2=>hi e2 λu e3=>opt (Hr x l u) λz=>P z e3
theorem mV{vs:List V}{xs:List PV}{lo hi:Option Int}(r:oF K F vs xs):oF K F (Bv vs lo hi) (Ci xs lo hi):=by
 unfold Bv Ci
 rw[r.len]
 exact(r.drop _).take _
theorem vI{lo hi:Option Int}:Bv (ns.map V.int) lo hi=(Ci ns lo hi).map V.int:=by
 unfold Bv Ci
 rw[aae,List.map_take,List.map_drop]
theorem Rep.vw{x:PV}(h:Rep M.K F v x):Vw M F H v x:=.inl h
theorem pN{l u:Option Expr}{lo hi:WO}{p2:Pos}(ha:yA ob X a f)(hl:N9 ob X l lo)(hu:N9 ob X u hi):yA ob X (.Subscript a (.Slice l u none p2) pos) (Lc f lo hi):=by
 obtain⟨t,ht,k⟩:=ha.ex
 obtain⟨t1,HA,k1⟩:=hl.ex
 obtain⟨t2,JG,k2⟩:=hu.ex
 refine⟨_,iO (HV.or jR uj) ht HA JG,λZ F σ H env P Q K hf kk=>k Z F σ H env _ _ K hf λx e1 v F1 H1 p s1 K1 r1=>?_⟩
 refine k1 Z F1 σ H1 e1 _ _ K1 p λi e2 F2 H2 p2 s2 K2=>k2 Z F2 σ H2 e2 _ _ K2 p2 λj e3 F3 H3 p3 s3 K3=>?_
 obtain⟨z,hz,p3⟩:=p3
 have r3:=(r1.mono s2).mono s3
 have s4:=ah s1 (ah s2 s3)
 have OM:Vw (md ob X) F3 H3 v x:=.inl r3
 cases x<;>simp only[Hr]at hz<;>cases hz
 .obtain⟨q,vs,rfl,h1,h2⟩:=OM.tup K3.sF
  refine .inr ⟨q,vs,rfl,h1,λhw=>kk _ e3 _ F3 H3 p3 s4 K3 ?_,λl hl=>?_⟩
  .have:Ci (α:=PV) ‹_› i j=‹List PV›:=by
    unfold Ci
    rw[<- h2.len,hw.1,hw.2]
    simp[h2.len]
   rw[this];exact r3
  .have hF:F3 l=none:=dO.none_of K3.sF hl
   exact kk _ e3 _ _ _ p3 (ah s4 (ay hF)) (K3.lay hl) (.tup (.inl (.inl ai)) ((mV h2).mono (ay hF)))
 .obtain⟨q,vs,rfl,h1,h2⟩:=OM.lst K3.sF
  refine .inl ⟨q,vs,rfl,.inl (.inl h1),λl hl=>?_⟩
  have hF:F3 l=none:=dO.none_of K3.sF hl
  exact kk _ e3 _ _ _ p3 (ah s4 (ay hF)) (K3.lay hl) (.lst ai ((mV h2).mono (ay hF)))
 .obtain⟨q,rfl,h1⟩:=OM.Ap K3.sF
  refine .inl ⟨q,_,rfl,h1,λl hl=>?_⟩
  have hF:F3 l=none:=dO.none_of K3.sF hl
  exact kk _ e3 _ _ _ p3 (ah s4 (ay hF)) (K3.lay hl) (.lst (by rw[ai,vI]) (f9 _))
structure M8(M:Md)(Z:Zn)(F:Hp)(P:Wd)(D:Ends):Prop where
 nx:∀env σ F' H,P.nx env->dO F F'->x3 M Z F' σ H env->D.nx σ H
 rt:∀x env v σ F' H,P.rt x env->dO F F'->x3 M Z F' σ H env->Rep M.K F' v x->D.rt v H
 bk:∀env σ F' H,P.bk env->dO F F'->x3 M Z F' σ H env->D.bk σ H
 ct:∀env σ F' H,P.ct env->dO F F'->x3 M Z F' σ H env->D.ct σ H
 rf:∀x env v σ F' H,P.rf x env->dO F F'->(∀xs,x≠.set xs)->x3 M Z F' (σ++[some v]) H (env++[some ⟨1,x⟩])->D.rt v H
 ro:∀x i env v σ F' H,P.ro x i env->dO F F'->x3 M Z F' σ H env->env[i]?=some (some ⟨4,x⟩)->σ[i]?=some (some v)->D.rt v H
variable{Z:Zn}{F1:Hp}{P:Wd}
theorem M8.mono{D:Ends}(h:M8 M Z F P D)(s:dO F F1):M8 M Z F1 P D :=
 ⟨λe σ F' H p q=>h.nx e σ F' H p (ah s q),λx e v σ F' H p q=>h.rt x e v σ F' H p (ah s q),λe σ F' H p q=>h.bk e σ F' H p (ah s q),λe σ F' H p q=>h.ct e σ F' H p (ah s q),λx e v σ F' H p q=>h.rf x e v σ F' H p (ah s q),λx i e v σ F' H p q=>h.ro x i e v σ F' H p (ah s q)⟩
structure BR(ob:zl)(X:Cx)(st:Stmt)(f:WS):Prop where
 ex:∃t:TS,PS X st t/\∀(Z:Zn) (F:Hp) (σ:L2.St) (H:Hp) (env:En) (P:Wd) (D:Ends),x3 (md ob X) Z F σ H env->f P env->M8 (md ob X) Z F P D->t D σ H
structure Bx(ob:zl)(X:Cx)(st:List Stmt)(f:WS):Prop where
 ex:∃t:TS,EB X st t/\∀(Z:Zn) (F:Hp) (σ:L2.St) (H:Hp) (env:En) (P:Wd) (D:Ends),x3 (md ob X) Z F σ H env->f P env->M8 (md ob X) Z F P D->t D σ H
abbrev WG:=PV->En->(En->Prop)->Prop
structure Nd(ob:zl)(X:Cx)(tg:Expr)(f:WG):Prop where
 ex:∃t:TG,PG X tg t/\∀(Z:Zn) (F:Hp) (σ:L2.St) (H:Hp) (env:En) (v:V) (x:PV) (P:En->Prop) (Q:L2.St->Hp->Prop),x3 (md ob X) Z F σ H env->Rep X.K F v x->f x env P ->
  (∀eQ σ' F' H',P eQ->dO F F'->x3 (md ob X) Z F' σ' H' eQ->Q σ' H')->t v σ H Q
abbrev IF:=List PV->En->(En->Prop)->Prop
structure H0(ob:zl)(X:Cx)(RX:List Expr)(f:IF):Prop where
 ex:∃t:FH,M4 X RX t/\∀(Z:Zn) (F:Hp) (σ:L2.St) (H:Hp) (env:En) (vs:List V) (xs:List PV) (P:En->Prop) (Q:L2.St->Hp->Prop),x3 (md ob X) Z F σ H env->oF X.K F vs xs->f xs env P ->
  (∀eQ σ' F' H',P eQ->dO F F'->x3 (md ob X) Z F' σ' H' eQ->Q σ' H')->t vs σ H Q
def oR(a b:WS):WS:=λP env=>a {P with nx:=b P} env
def zh:WS:=λP env=>P.nx env
def ym(a:WE):WS:=λP env=>a env P.rt
def A3(a:WE):WS:=λP env=>a env λ_ e=>P.nx e
def AX(c:WT)(a b:WS):WS:=λP env=>c env λk e=>if k=true then a P e else b P e
def Jk:WS:=λP env=>P.ct env
def yz(i:Nat)(a:WE):WS:=λP env=>a env λx e=>P.nx (e.set i (some ⟨0,x⟩))
def zU(i:Nat)(a:WE):WS:=λP env=>a env λx e=>P.nx (e.set i (some ⟨1,x⟩))
def gN(i:Nat):WG:=λx env P=>P (env.set i (some ⟨0,x⟩))
def BD:IF:=λxs env P=>xs=[]/\P env
def yX(g:WG)(r:IF):IF:=λxs env P=>match xs with
 |[]=>False
 |x::xs=>g x env λe=>r xs e P
def gT(r:IF):WG:=λx env P=>match x with
 |.tup xs=>r xs env P
 |_=>False
def Gf(a:WE)(g:WG):WS:=λP env=>a env λx e=>g x e P.nx
def F8(i j:Nat)(a:WA):WS:=λP env=>a env λxs e=>match xs with
 |[x,y]=>P.nx ((e.set i (some ⟨0,x⟩)).set j (some ⟨0,y⟩))
 |_=>False
variable{tg:Expr}{st:Stmt}{Ky:List Stmt}{u v:WS}
theorem aG:Bx ob X [] zh:=⟨_,nV,λZ F σ H env P D K hf L=>L.nx env σ F H hf am K⟩
theorem aj(h1:BR ob X st u)(h2:Bx ob X Ky v):Bx ob X (st::Ky) (oR u v):=by
 obtain⟨t1,HA,k1⟩:=h1.ex
 obtain⟨t2,JG,k2⟩:=h2.ex
 refine⟨_,bA HA JG,λZ F σ H env P D K hf L=>k1 Z F σ H env _ _ K hf ⟨λe σ' F' H' p s K'=>?_,L.rt,L.bk,L.ct,L.rf,L.ro⟩⟩
 exact k2 Z F' σ' H' e P D K' p (L.mono s)
theorem ap(h1:BR ob X st u):Bx ob X [st] u:=by
 obtain⟨t1,HA,k1⟩:=h1.ex
 exact⟨t1,cS HA,k1⟩
theorem xn:BR ob X (.Continue pos) Jk:=⟨_,nh,λZ F σ H env P D K hf L=>L.ct env σ F H hf am K⟩
theorem aA(h:yA ob X e f):BR ob X (.Return (some e) pos) (ym f):=by
 obtain⟨t,ht,k⟩:=h.ex
 exact⟨_,eh ht,λZ F σ H env P D K hf L=>k Z F σ H env _ _ K hf λx e1 v F1 H1 p s1 K1 r1=>L.rt x e1 v σ F1 H1 p s1 K1 r1⟩
theorem cr(h:Co ob X e f)(hs:ab9 e none pos.line X.env=pure false:=by rfl):BR ob X (.Expr e pos) (A3 f):=by
 obtain⟨t,ht,k⟩:=h.ex
 exact⟨_,jZ ht hs,λZ F σ H env P D K hf L=>k Z F σ H env _ _ K hf λx e1 v F1 H1 p s1 K1 r1=>L.nx e1 σ F1 H1 p s1 K1⟩
theorem aO{s1 s2:List Stmt}(hc:ED ob X c t)(ha:Bx ob X s1 u)(hb:Bx ob X s2 v):BR ob X (.If c s1 s2 pos) (AX t u v):=by
 obtain⟨w,hw,k⟩:=hc.ex
 obtain⟨ta,ha,ka⟩:=ha.ex
 obtain⟨tb,hb,kb⟩:=hb.ex
 refine⟨_,tW hw ha hb,λZ F σ H env P D K hf L=>k Z F σ H env _ _ K hf λx e1 F1 H1 p s1 K1=>?_⟩
 cases x with
 |true=>exact Ct (ka Z F1 σ H1 e1 P D K1 p (L.mono s1))
 |false=>exact B9 (kb Z F1 σ H1 e1 P D K1 p (L.mono s1))
theorem aB(i:Nat){pos':Pos}(hN:X.N.Nodup)(hi:X.N[i]?=some x)(hx:Loc X.env.scope x)(he:yA ob X e f)(hs:ab9 e (some (.Name x pos')) pos.line X.env=pure false:=by rfl)(hf:X.fn x=true\/X.env.scope.names.lookup x=some .local:=by first|exact .inl rfl|exact .inr rfl|assumption):
  BR ob X (.Assign [.Name x pos'] e pos) (yz i f):=by
 obtain⟨t,ht,k⟩:=he.ex
 exact⟨_,ee hN hi hx ht hs hf,λZ F σ H env P D K hf L=>k Z F σ H env _ _ K hf λx e1 v F1 H1 p s1 K1 r1=>L.nx _ _ F1 H1 p s1 (K1.put r1)⟩
theorem b0(i:Nat){pos':Pos}(hN:X.N.Nodup)(hi:X.N[i]?=some x)(hx:Loc X.env.scope x)(he:E5 ob X e f)(hs:ab9 e (some (.Name x pos')) pos.line X.env=pure false:=by rfl)(hf:X.fn x=true\/X.env.scope.names.lookup x=some .local:=by first|exact .inl rfl|exact .inr rfl|assumption):
  BR ob X (.Assign [.Name x pos'] e pos) (zU i f):=by
 obtain⟨t,ht,k⟩:=he.ex
 exact⟨_,ee hN hi hx ht hs hf,λZ F σ H env P D K hf L=>k Z F σ H env _ _ K hf λx e1 v F1 H1 p s1 _ K1=>L.nx _ _ F1 H1 p s1 K1.take⟩
theorem aJ(i:Nat)(hN:X.N.Nodup)(hi:X.N[i]?=some x)(hx:Loc X.env.scope x)(hf:X.fn x=true\/X.env.scope.names.lookup x=some .local:=by first|exact .inl rfl|exact .inr rfl|assumption):Nd ob X (.Name x pos) (gN i) :=
 ⟨_,aU hN hi hx hf,λZ F σ H env v x P Q K r hf k=>k _ _ F H hf am (K.put r)⟩
theorem eO:H0 ob X [] BD:=⟨_,j5,λZ F σ H env vs xs P Q K r hf k=>by obtain⟨rfl,hf⟩:=hf;cases r;exact⟨rfl,k env σ F H hf am K⟩⟩
theorem aZ{g:WG}{r:IF}(h1:Nd ob X e g)(h2:H0 ob X es r)(hs:(acm (e::es) X.env).map (·.2)=assign e X.env::(acm es X.env).map (·.2):=by rfl):H0 ob X (e::es) (yX g r):=by
 obtain⟨t1,HA,k1⟩:=h1.ex
 obtain⟨t2,JG,k2⟩:=h2.ex
 refine⟨_,dk HA JG hs,λZ F σ H env vs xs P Q K r hf k=>?_⟩
 cases r with
 |nil=>exact hf.elim
 |cons r1 r2=>
  refine⟨_,_,rfl,k1 Z F σ H env _ _ _ _ K r1 hf λe1 σ1 F1 H1 p s1 K1=>?_⟩
  exact k2 Z F1 σ1 H1 e1 _ _ P Q K1 (r2.mono s1) p λe2 σ2 F2 H2 p2 s2 K2=>k e2 σ2 F2 H2 p2 (ah s1 s2) K2
variable{n:Nat}
theorem gy{r:IF}{k:Nat}(hc:X.calm=true)(h:H0 ob X es r)(hl:∀xs env P,r xs env P->xs.length=n)(hn:(acm es X.env).length=n:=by rfl)(Ha:(acm es X.env).findIdx? (·.1)=none:=by rfl):Nd ob X (.Tuple es k pos) (gT r):=by
 obtain⟨t,ht,kk⟩:=h.ex
 refine⟨_,lX hc ht hn Ha,λZ F σ H env v x P Q K r hf k=>?_⟩
 unfold gT at hf
 split at hf
 .have hl:=hl _ _ _ hf
  cases r with
  |tup h1 h2=>exact⟨_,_,rfl,aw K.sF h1,by rw[h2.len];exact hl,kk Z F σ H env _ _ P Q K h2 hf k⟩
 .exact hf.elim
theorem gq:∀xs env P,BD xs env P->xs.length=0:=λxs env P h=>by obtain⟨rfl,_⟩:=h;rfl
variable{i:Nat}
theorem bi{r:IF}(h:∀xs env P,r xs env P->xs.length=n):∀xs env P,yX (gN i) r xs env P->xs.length=n+1:=λxs env P q=>by
 cases xs with
 |nil=>exact q.elim
 |cons x xs=>exact congrArg (·+1) (h _ _ _ q)
theorem mM{g:WG}(he:yA ob X e f)(hg:Nd ob X tg g)(hs:adw [tg] e pos.line X.env=pure false:=by rfl)(hw:adx [tg] e X.env=pure none:=by rfl)
  (h1:(acm [tg] X.env).map (·.2)=[assign tg X.env]:=by rfl):BR ob X (.Assign [tg] e pos) (Gf f g):=by
 obtain⟨t,ht,k⟩:=he.ex
 obtain⟨t1,HA,k1⟩:=hg.ex
 refine⟨_,jl ht HA hs hw h1,λZ F σ H env P D K hf L=>k Z F σ H env _ _ K hf λx e1 v F1 H1 p s1 K1 r1=>?_⟩
 exact k1 Z F1 σ H1 e1 v x _ _ K1 r1 p λe2 σ2 F2 H2 p2 s2 K2=>L.nx e2 σ2 F2 H2 p2 (ah s1 s2) K2
variable{px py:Pos}
theorem rq(i j:Nat){y:Str}{pt:Pos}{kt k2 pt2}(hc:X.calm=true)(hN:X.N.Nodup)(hi:X.N[i]?=some x)(hj:X.N[j]?=some y)(AR:i≠j)
  (hx:X.env.scope.names.lookup x=some .local) (hy:X.env.scope.names.lookup y=some .local) (ha:DP ob X [a,b] fa)
  (hw:adx [.Tuple [.Name x px,.Name y py] kt pt] (.Tuple [a,b] k2 pt2) X.env=pure (some [x,y]))
  (hs:adw [.Tuple [.Name x px,.Name y py] kt pt] (.Tuple [a,b] k2 pt2) pos.line X.env=pure false:=by rfl) :
  BR ob X (.Assign [.Tuple [.Name x px,.Name y py] kt pt] (.Tuple [a,b] k2 pt2) pos) (F8 i j fa):=by
 obtain⟨t,ht,k⟩:=ha.ex
 refine⟨_,wk hc hN hi hj AR hx hy ht hw hs,λZ F σ H env P D K hf L=>k Z F σ H env _ _ K hf λxs e1 vs F1 H1 p hl s1 K1 r1=>?_⟩
 cases r1 with
 |nil=>cases hl
 |cons r1 r2=>cases r2 with
  |nil=>cases hl
  |cons r2 r3=>cases r3 with
   |nil=>exact⟨_,_,rfl,L.nx _ _ F1 H1 p s1 ((K1.put r1).put r2)⟩
   |cons=>simp at hl
def D3(c:WT)(b:WS)(P:Wd):Nat->En->Prop
 |0,_=>False
 |n+1,env=>c env λk e=>if k=true then b {P with nx:=D3 c b P n,ct:=D3 c b P n,bk:=P.nx} e else P.nx e
def Bi(c:WT)(b:WS):WS:=λP env=>∃n,D3 c b P n env
theorem mL(hp:PassesOwn (model X.prog X.w) X.A X.env X.xe)(hc:ED ob X c t)(hb:Bx ob X Ky u):BR ob X (.While c Ky [] pos) (Bi t u):=by
 obtain⟨w,hw,k⟩:=hc.ex
 obtain⟨tb,hb,kb⟩:=hb.ex
 refine⟨_,lV hp hw hb,λZ F σ H env P D K hf L=>?_⟩
 obtain⟨n,hf⟩:=hf
 refine⟨λm σ' H'=>∃F' eQ,dO F F'/\x3 (md ob X) Z F' σ' H' eQ/\D3 t u P m eQ,⟨n,F,env,am,K,hf⟩,?_⟩
 rintro m σ' H' ⟨F',eQ,s,K',hg⟩
 cases m with
 |zero=>exact hg.elim
 |succ m=>
  refine k Z F' σ' H' eQ _ _ K' hg λx e1 F1 H1 p s1 K1=>?_
  cases x with
  |true=>
   refine Ct ⟨λσ2 H2=>∃F2 e2,dO F F2/\x3 (md ob X) Z F2 σ2 H2 e2/\D3 t u P m e2,λσ2 H2 q=>⟨m,abu m,q⟩,?_⟩
   have sF:=ah s s1
   exact kb Z F1 σ' H1 e1 _ _ K1 p ⟨λe2 σ2 F2 H2 q s2 K2=>⟨F2,e2,ah sF s2,K2,q⟩,(L.mono sF).rt,(L.mono sF).nx,λe2 σ2 F2 H2 q s2 K2=>⟨F2,e2,ah sF s2,K2,q⟩,(L.mono sF).rf,(L.mono sF).ro⟩
  |false=>exact B9 (L.nx e1 σ' F1 H1 p (ah s s1) K1)
structure DN(M:Md)(J:It)(F:Hp)(xs:List PV):Prop where
 go:∀(Z:Zn) (i:Nat) (σ:L2.St) (env:En) (F' H:Hp) (x:PV),dO F F'->x3 M Z F' σ H env->xs[i]?=some x->J.go i H/\∀v H',J.yld i H v H'->∃N8,dO F' N8/\x3 M Z N8 σ H' env/\Rep M.K N8 v x/\dO H H'/\∀a,N8 a≠none->F' a≠none\/H a=none
 stop:∀(Z:Zn) (i:Nat) (σ:L2.St) (env:En) (F' H:Hp),dO F F'->x3 M Z F' σ H env->xs.length<=i->J.stop i H
structure G3(ob:zl)(X:Cx)(tg it:Expr)(f:WA):Prop where
 ex:∃wi:TI,PI X tg it wi/\∀(Z:Zn) (F:Hp) (σ:L2.St) (H:Hp) (env:En) (P:List PV->En->Prop) (R:It->Hp->Prop),x3 (md ob X) Z F σ H env->f env P ->
  (∀xs eQ J F' H',P xs eQ->dO F F'->x3 (md ob X) Z F' σ H' eQ->DN (md ob X) J F' xs->R J H')->wi σ H R
theorem xf{a:Addr}{vs:List V}{xs:List PV}(h:F a=some (.lst vs))(r:oF M.K F vs xs):DN M (Hl M.K a) F xs:=by
 refine⟨λZ i σ env F' H x s K e=>?_,λZ i σ env F' H s K hl=>⟨vs,.inl (.inl (K.sF _ _ (s _ _ h))),by rw[r.len];exact hl⟩⟩
 obtain⟨v,hv,rv⟩:=r.get e
 have hH:zp M.K H a vs:=.inl (.inl (K.sF _ _ (s _ _ h)))
 refine⟨⟨vs,v,hH,hv⟩,λv' H' y=>?_⟩
 obtain⟨rfl,y⟩:=y
 have:=y vs hH
 rw[hv]at this;cases this
 exact⟨F',am,K,rv.mono s,am,λ_ h=>.inl h⟩
theorem xb{a:Addr}{vs:List V}{xs:List PV}(h:zg M.K F a vs)(r:oF M.K F vs xs):DN M (QA M.K a) F xs:=by
 refine⟨λZ i σ env F' H x s K e=>?_,λZ i σ env F' H s K hl=>⟨vs,aw K.sF (aw s h),by rw[r.len];exact hl⟩⟩
 obtain⟨v,hv,rv⟩:=r.get e
 have hH:zg M.K H a vs:=aw K.sF (aw s h)
 refine⟨⟨vs,v,hH,hv⟩,λv' H' y=>?_⟩
 obtain⟨rfl,y⟩:=y
 have:=y vs hH
 rw[hv]at this;cases this
 exact⟨F',am,K,rv.mono s,am,λ_ h=>.inl h⟩
def O9(K:aag)(tl:TE):TI:=λσ H R=>tl σ H λx H1=>∃a,x=.ref a/\(((∃xs,zp K H1 a xs)/\R (Hl K a) H1)\/((∃xs,zg K H1 a xs)/\R (QA K a) H1))
theorem wq{l:Expr}{tl:TE}(hl:PE X l tl):PI X tg l (O9 X.K tl):=by
 intro pins s σ H R I h
 refine yM (hl pins s σ H _ I h) λv s1 ⟨x,H1,I1,r1,q1⟩=>?_
 obtain⟨a,e,q⟩:=q1
 subst e
 cases r1
 rcases q with ⟨⟨xs,hq⟩,q⟩|⟨⟨xs,hq⟩,q⟩
 .obtain⟨gE,rv,p,hz⟩:=I1.list hq
  refine adi p.isList ?_
  refine⟨s1.heap.objs.size,[s1.heap.objs.size],_,_,H1,rfl,I1.kept (t':=s1.toks) λb o e=>aad _ e,kQ a _,⟨_,aal _ rfl,rfl,rfl⟩,λb hb=>?_,q⟩
  have e:b=s1.heap.objs.size:=by simpa using hb
  subst e
  exact I1.DC (aam _) (I1.ye.fresh (aam _))
 .obtain⟨gE,rv,p,hz⟩:=I1.tuple hq
  refine acG (show s1.heap.IsTuple a gE.toArray from p) ?_
  refine⟨s1.heap.objs.size,[s1.heap.objs.size],_,_,H1,rfl,I1.kept (t':=s1.toks) λb o e=>aad _ e,oY a _,⟨_,aal _ rfl,rfl,rfl⟩,λb hb=>?_,q⟩
  have e:b=s1.heap.objs.size:=by simpa using hb
  subst e
  exact I1.DC (aam _) (I1.ye.fresh (aam _))
def iS(a:WE):WA:=λenv P=>a env λx e=>match x with
 |.lst xs=>P xs e
 |.tup xs=>P xs e
 |_=>False
theorem aY(h:yA ob X e f):G3 ob X tg e (iS f):=by
 obtain⟨t,ht,k⟩:=h.ex
 refine⟨_,wq ht,λZ F σ H env P R K hf kk=>k Z F σ H env _ _ K hf λx e1 v F1 H1 p s1 K1 r1=>?_⟩
 cases r1 with
 |tup h1 h2=>exact⟨_,rfl,.inr ⟨⟨_,aw K1.sF h1⟩,kk _ e1 _ F1 H1 p s1 K1 (xb h1 h2)⟩⟩
 |lst h1 h2=>exact⟨_,rfl,.inl ⟨⟨_,.inl (.inl (K1.sF _ _ h1))⟩,kk _ e1 _ F1 H1 p s1 K1 (xf h1 h2)⟩⟩
 |_=>exact p.elim
def BY(lo:Int)(n:Nat):List PV:=(aaS n).map λ(k:Nat)=>.int (lo+(k:Int))
theorem xc{lo:Int}:DN M (N4 lo n) F (BY lo n):=by
 refine⟨λZ i σ env F' H x s K e=>?_,λZ i σ env F' H s K hl=>show n<=i by simpa[BY]using hl⟩
 have hi:i<n:=by
  rcases aa4 i n with h|h
  .exact h
  .rw[aaq (by simpa[BY]using h)]at e;cases e
 have ex:x=.int (lo+i):=by
  unfold BY at e
  rw[aah,abX hi]at e
  exact(aao e).symm
 subst ex
 refine⟨hi,λv' H' y=>?_⟩
 obtain⟨rfl,rfl⟩:=y
 exact⟨F',am,K,.int _,am,λ_ h=>.inl h⟩
def KH(a:WA):WA:=λenv P=>a env λxs e=>match xs with
 |[.int j]=> -1000000<=j/\j<=1000000/\P (BY 0 j.toNat) e
 |_=>False
def Sn(a:WA):WA:=λenv P=>a env λxs e=>match xs with
 |[.int i,.int j]=>(-1000000<=i/\i<=1000000 /\ -1000000<=j/\j<=1000000)/\P (BY i (j - i).toNat) e
 |_=>False
theorem gw(hg:Gl X "range")(hm:X.mg "range" = none)(ha:DP ob X [a] fa)(hs:aai [a] X.env=[(false,eval a X.env)]:=by rfl):G3 ob X tg (.Call (.Name "range" p) [a] [] pos) (KH fa):=by
 obtain⟨t,ht,k⟩:=ha.ex
 refine⟨_,qt hg hm ht hs,λZ F σ H env P R K hf kk=>k Z F σ H env _ _ K hf λxs e1 vs F1 H1 p _ s1 K1 r1=>?_⟩
 split at p
 .cases r1 with
  |cons r1 r2=>
   cases r1
   cases r2
   exact⟨_,rfl,by omega,by omega,kk _ e1 _ F1 H1 p.2.2 s1 K1 xc⟩
 .exact p.elim
def Dl(xs ys:List PV):List PV:=(xs.zip ys).map λp=>.tup [p.1,p.2]
variable{ys:List PV}
theorem xa{a b:Addr}{vs:List V}{xs:List PV}(h1:zg M.K F a vs)(r1:oF M.K F vs xs)(h2:zg M.K F b ws)(r2:oF M.K F ws ys):DN M (Qz M.K a b) F (Dl xs ys):=by
 refine⟨λZ i σ env F' H x s K e=>?_,λZ i σ env F' H s K hl=>⟨vs,ws,aw K.sF (aw s h1),aw K.sF (aw s h2),?_⟩⟩
 .unfold Dl at e
  rw[aah]at e
  cases ez:(xs.zip ys)[i]? with
  |none=>rw[ez]at e;cases e
  |some q=>
   rw[ez]at e
   obtain⟨x1,x2⟩:=q
   rw[aa7]at ez
   have e:x=.tup [x1,x2]:=(aao e).symm
   subst e
   obtain⟨v1,q1,q2⟩:=r1.get ez.1
   obtain⟨v2,q3,q4⟩:=r2.get ez.2
   have g1:=aw K.sF (aw s h1)
   have g2:=aw K.sF (aw s h2)
   refine⟨⟨vs,ws,v1,v2,g1,g2,q1,q3⟩,λv' H' y=>?_⟩
   obtain⟨p,w1,w2,rfl,hp,rfl,y⟩:=y
   obtain⟨y1,y2⟩:=y vs ws g1 g2
   rw[q1]at y1;cases y1
   rw[q3]at y2;cases y2
   have hF:F' p=none:=dO.none_of K.sF hp
   refine⟨upd F' p (.tup [v1,v2]),ay hF,K.lay hp,.tup (.inl (.inl ai)) (.cons ((q2.mono s).mono (ay hF)) (.cons ((q4.mono s).mono (ay hF)) .nil)),ay hp,λc hc=>?_⟩
   by_cases z:c=p
   .subst z;exact .inr hp
   .rw[af z]at hc;exact .inl hc
 .have:=r1.len
  have:=r2.len
  simp only[Dl,aae,adU]at hl
  omega
def iZ(a:WA):WA:=λenv P=>a env λxs e=>match xs with
 |[.tup xs,.tup ys]=>P (Dl xs ys) e
 |_=>False
theorem xC{elts:List Expr}{x1:_}{CQ:Pos}(hg:Gl X "zip")(hm:X.mg "zip" = none)(ha:DP ob X [a,b] fa)(hs:aai [a,b] X.env=[(false,eval a X.env),(false,eval b X.env)]:=by rfl)(HB:aai [b] X.env=[(false,eval b X.env)]:=by rfl):
  G3 ob X (.Tuple elts x1 CQ) (.Call (.Name "zip" p) [a,b] [] pos) (iZ fa):=by
 obtain⟨t,ht,k⟩:=ha.ex
 refine⟨_,wo hg hm ht hs HB,λZ F σ H env P R K hf kk=>k Z F σ H env _ _ K hf λxs e1 vs F1 H1 p _ s1 K1 r1=>?_⟩
 split at p
 .cases r1 with
  |cons r1 r2=>
   cases r2 with
   |cons r2 r3=>
    cases r3
    cases r1 with
    |tup g1 g2=>
     cases r2 with
     |tup g3 g4=>exact⟨_,_,rfl,⟨_,aw K1.sF g1⟩,⟨_,aw K1.sF g3⟩,kk _ e1 _ F1 H1 p s1 K1 (xa g1 g2 g3 g4)⟩
 .exact p.elim
def Jc(s:Str):List PV:=s.cps.toList.map λc=>.str ⟨#[c]⟩
def Mn(a:WE):WA:=λenv P=>a env λx e=>match x with
 |.str s=>P (Jc s) e
 |_=>False
def AG(g:WG)(b:WS)(P:Wd):List PV->En->Prop
 |[],env=>P.nx env
 |x::xs,env=>g x env λe=>b {P with nx:=AG g b P xs,ct:=AG g b P xs,bk:=P.nx} e
def A0(it:WA)(g:WG)(b:WS):WS:=λP env=>it env λxs e=>AG g b P xs e
theorem bD{it:Expr}{g:WG}(hp:PassesOwn (model X.prog X.w) X.A X.env X.xe)(hc:X.calm=true)(hi:G3 ob X tg it fa)(hg:Nd ob X tg g)(hb:Bx ob X Ky u)
  (hs:∀x,aa0 it X.env x=pure x:=by intro _;rfl):BR ob X (.For tg it Ky [] pos) (A0 fa g u):=by
 obtain⟨wi,GB,k⟩:=hi.ex
 obtain⟨Nm,Sx,kg⟩:=hg.ex
 obtain⟨tb,Ms,kb⟩:=hb.ex
 refine⟨_,qp hp hc GB Sx Ms hs,λZ F σ H env P D K hf L=>k Z F σ H env _ _ K hf λxs e1 J F1 H1 p s1 K1 I1=>?_⟩
 have L1:=L.mono s1
 refine⟨λi m σ' H'=>m=xs.length - i/\∃F' eQ,dO F1 F'/\x3 (md ob X) Z F' σ' H' eQ/\AG g u P (xs.drop i) eQ,⟨_,rfl,F1,e1,am,K1,p⟩,?_⟩
 rintro i m σ' H' ⟨rfl,F',eQ,s,K',KU⟩
 by_cases y6:i<xs.length
 .rw[adf y6]at KU
  obtain⟨h1,h2⟩:=I1.go Z i σ' eQ F' H' xs[i] s K' (by simp[y6])
  refine .inr ⟨h1,λσ2 H2=>∃F2 e2,dO F1 F2/\x3 (md ob X) Z F2 σ2 H2 e2/\AG g u P (xs.drop (i+1)) e2,λσ2 H2 q=>⟨xs.length - (i+1),by omega,rfl,q⟩,λv H2 y=>?_⟩
  obtain⟨F2,s2,K2,r2,_,_⟩:=h2 v H2 y
  refine kg Z F2 σ' H2 eQ v xs[i] _ _ K2 r2 KU λe3 σ3 F3 H3 p3 s3 K3=>?_
  have sF:=ah s (ah s2 s3)
  exact kb Z F3 σ3 H3 e3 _ _ K3 p3 ⟨λe4 σ4 F4 H4 q s4 K4=>⟨F4,e4,ah sF s4,K4,q⟩,(L1.mono sF).rt,(L1.mono sF).nx,λe4 σ4 F4 H4 q s4 K4=>⟨F4,e4,ah sF s4,K4,q⟩,(L1.mono sF).rf,(L1.mono sF).ro⟩
 .rw[adK (by omega)]at KU
  exact .inl ⟨I1.stop Z i σ' eQ F' H' s K' (by omega),L1.nx eQ σ' F' H' KU s K'⟩
def lend(s:Sl):Sl:=if s.k=1 then ⟨3,s.v⟩else s
def C9(js:List (Option Nat))(env:En):En:=js.map λo=>o.bind λj=>((env[j]?).getD none).map lend
def AI(s s':Sl):Option Sl:=if s'.k=3 then (if s.k=1\/s.k=3 then some ⟨s.k,s'.v⟩else none)else if s'.k=2 then (if s.k=2 then some s' else none)else some s'
def yZ(js:List (Option Nat))(env benv:En):En:=env.mapIdx λj o=>match js.findIdx? (λq=>q==some j)with
 |none=>o
 |some i=>match o,benv[i]? with
  |some s,some (some s')=>AI s s'
  |_,_=>none
def Dw(js:List (Option Nat)):Bool:=decide (js.filterMap id).Nodup
theorem iX:∀{js:List (Option Nat)},(js.filterMap id).Nodup->∀(i i':Nat) (j:Nat),js[i]?=some (some j)->js[i']?=some (some j)->i=i'
 |[],_,i,i',j,h,_=>by simp at h
 |none::js,hn,i,i',j,h,h'=>by
  cases i with
  |zero=>simp at h
  |succ i=>
   cases i' with
   |zero=>simp at h'
   |succ i'=>
    simp at h h' hn
    exact congrArg (·+1) (iX (js:=js) (by simpa using hn) i i' j h h')
 |some k::js,hn,i,i',j,h,h'=>by
  simp only[abZ,id]at hn
  obtain⟨hk,hn⟩:=List.nodup_cons.mp hn
  have mem:∀m,js[m]?=some (some k)->False:=λm hm=>hk (List.mem_filterMap.mpr ⟨some k,aaN hm,rfl⟩)
  cases i with
  |zero=>
   simp at h;subst h
   cases i' with
   |zero=>rfl
   |succ i'=>exact(mem i' (by simpa using h')).elim
  |succ i=>
   cases i' with
   |zero=>simp at h';subst h';exact(mem i (by simpa using h)).elim
   |succ i'=>exact congrArg (·+1) (iX hn i i' j (by simpa using h) (by simpa using h'))
variable{F' H':Hp}{env:En}
theorem Ck.wr{v:V}{s:Sl}{fp:List Addr}(h:Ck M Z F H v s fp):∀c∈fp,c∈Z.S\/Z.H₀ c=none:=by
 rcases h with ⟨_,rfl,_⟩|⟨_,a,_,rfl,h0,_⟩|⟨_,a,_,h,_⟩|⟨_,a,_,rfl,h0,_⟩
 .intro c hc;simp at hc
 .intro c hc;simp at hc;subst hc;exact .inr h0
 .exact h
 .intro c hc;simp at hc;subst hc;exact .inl h0
def Bc(js:List (Option Nat))(env:En)(fp:Nat->List Addr)(i:Nat):List Addr:=match js[i]? with
 |some (some j)=>match env[j]? with
  |some (some _)=>fp j
  |_=>[]
 |_=>[]
def DH(js:List (Option Nat))(env:En)(fp:Nat->List Addr)(H:Hp):List Addr:=((aaS js.length).flatMap (Bc js env fp)).filter λb=>(H b).isSome
variable{js:List (Option Nat)}{fp:Nat->List Addr}
theorem qO{a:Addr}(h:a∈Bc js env fp i)(hH:H a≠none):a∈DH js env fp H:=by
 refine List.mem_filter.mpr ⟨List.mem_flatMap.mpr ⟨i,List.mem_range.mpr ?_,h⟩,by obtain⟨o,ho⟩:=bP hH;rw[ho];rfl⟩
 rcases aa4 i js.length with q|q
 .exact q
 .unfold Bc at h;rw[aaq q]at h;simp at h
theorem dr{a:Addr}(h:a∈DH js env fp H):∃(i j:Nat) (s:Sl),js[i]?=some (some j)/\env[j]?=some (some s)/\a∈fp j:=by
 obtain⟨i,_,h⟩:=List.mem_flatMap.mp (List.mem_filter.mp h).1
 unfold Bc at h
 split at h
 .rename_i j ej
  split at h
  .rename_i s es
   exact⟨i,j,s,ej,es,h⟩
  .simp at h
 .simp at h
theorem tP{s':Sl}(h:(C9 js env)[i]?=some (some s')):∃j s,js[i]?=some (some j)/\env[j]?=some (some s)/\s'=lend s:=by
 unfold C9 at h
 rw[aah]at h
 cases ej:js[i]? with
 |none=>rw[ej]at h;cases h
 |some o=>
  cases o with
  |none=>rw[ej]at h;cases h
  |some j=>
   rw[ej]at h
   have h:((env[j]?).getD none).map lend=some s':=aao h
   cases es:env[j]? with
   |none=>rw[es]at h;cases h
   |some o=>
    cases o with
    |none=>rw[es]at h;cases h
    |some s=>rw[es]at h;exact⟨j,s,rfl,es,(aao h).symm⟩
variable{j:Nat}
theorem mY{v:V}(h:js[i]?=some (some j))(hv:σ[j]?=some (some v)):(yD js σ)[i]?=some (some v):=by
 unfold yD
 rw[aah,h]
 show some ((σ[j]?).getD none)=_
 rw[hv];rfl
def Zb(js:List (Option Nat))(env:En)(fp:Nat->List Addr)(F H:Hp):Zn:={H₀:=H,F₀:=F,S:=DH js env fp H,sS:=λb hb e=>by have:=(List.mem_filter.mp hb).2;rw[e]at this;cases this}
theorem m5(hj:Dw js=true)(K:x3 M Z F σ H env)(L:Slots M Z F σ H env fp):x3 M (Zb js env fp F H) F (yD js σ) H (C9 js env):=by
 have hn:(js.filterMap id).Nodup:=of_decide_eq_true hj
 refine⟨K.sF,λb o h _=>h,λb h=>h,am,λa h=>.inl h,by simp[C9,yD],Bc js env fp,λi s' h=>?_,λi a h=>?_,λi i' a S0 h h'=>?_,λi a s e=>by cases e⟩
 .obtain⟨j,s,ej,es,rfl⟩:=tP h
  obtain⟨v,hv,ok⟩:=L.at' j s es
  have ef:Bc js env fp i=fp j:=by unfold Bc;rw[ej];dsimp only;rw[es]
  refine⟨v,mY ej hv,?_⟩
  have JD:∀c∈fp j,c∈(Zb js env fp F H).S:=λc hc=>qO (i:=i) (by rw[ef];exact hc) (L.al j c hc).1
  rw[ef]
  rcases ok with ⟨k,e,r⟩|⟨k,a,e,e2,h0,r⟩|⟨k,a,e,h0,r⟩|⟨k,a,e,e2,h0,r⟩
  .have:lend s=s:=by unfold lend;rw[if_neg (by rw[k];decide)]
   rw[this];exact .inl ⟨k,e,r⟩
  .have:lend s=⟨3,s.v⟩:=by unfold lend;rw[if_pos k]
   rw[this];exact .inr (.inr (.inr ⟨rfl,a,e,e2,JD a (by rw[e2];simp),r⟩))
  .have:lend s=s:=by unfold lend;rw[if_neg (by rcases k with k|k<;>(rw[k];decide))]
   rw[this];exact .inr (.inr (.inl ⟨k,a,e,λc hc=>.inl (JD c hc),r⟩))
  .have:lend s=s:=by unfold lend;rw[if_neg (by rw[k];decide)]
   rw[this];exact .inr (.inr (.inr ⟨k,a,e,e2,JD a (by rw[e2];simp),r⟩))
 .unfold Bc at h
  split at h
  .split at h
   .exact L.al _ a h
   .simp at h
  .simp at h
 .unfold Bc at h h'
  split at h
  .rename_i j ej
   split at h'
   .rename_i j' TH
    split at h
    .split at h'
     .have:j≠j':=λe=>by subst e;exact S0 (iX hn i i' j ej TH)
      exact L.dj j j' a this h h'
     .simp at h'
    .simp at h
   .simp at h'
  .simp at h
theorem ly{σb:L2.St}{benv:En}(hj:Dw js=true)(K:x3 M Z F σ H env)(L:Slots M Z F σ H env fp)(Kb:x3 M (Zb js env fp F H) F' σb H' benv)
  (hσ:∀(k j:Nat),js[k]?=some (some j)->σb[k]?=(yD js σ)[k]?) :
  ∃FF,Slots M Z F' σ H' (yZ js env benv) FF/\x3 M Z F' σ H' (yZ js env benv)/\∀i a,a∈FF i->(∃i',a∈fp i')\/H a=none:=by
 have hn:(js.filterMap id).Nodup:=of_decide_eq_true hj
 obtain⟨fb,Lb⟩:=Kb.sl
 have JD:∀c∈DH js env fp H,(c∈Z.S\/Z.H₀ c=none)/\∃i',c∈fp i':=λc hc=>by
  obtain⟨i,j,s,e1,e2,e3⟩:=dr hc
  obtain⟨v,_,ok⟩:=L.at' j s e2
  exact⟨ok.wr c e3,j,e3⟩
 have J9:∀j i,js.findIdx? (λq=>q==some j)=some i->js[i]?=some (some j):=λj i h=>by
  rw[List.findIdx?_eq_some_iff_getElem]at h
  obtain⟨hi,he,_⟩:=h
  rw[aaa hi,eq_of_beq he]
 have MU:∀j,(yZ js env benv)[j]?=(env[j]?).map λo=>(match js.findIdx? (λq=>q==some j)with
   |none=>o
   |some i=>match o,benv[i]? with
    |some s,some (some s')=>AI s s'
    |_,_=>none):=λj=>by
  unfold yZ
  rw[List.getElem?_mapIdx]
 have RH:∀i s',benv[i]?=some (some s')->∀c∈fb i,(c∈Z.S\/Z.H₀ c=none)/\((∃i',c∈fp i')\/H c=none):=λi s' e c hc=>by
  obtain⟨v,_,ok⟩:=Lb.at' i s' e
  rcases ok.wr c hc with h|h
  .exact⟨(JD c h).1,.inl (JD c h).2⟩
  .exact⟨.inr (K.h0 h),.inr h⟩
 let FF:Nat->List Addr:=λj=>match js.findIdx? (λq=>q==some j)with
  |none=>fp j
  |some i=>match env[j]?,benv[i]? with
   |some (some s),some (some s')=>if (AI s s').isSome=true then fb i else []
   |_,_=>[]
 have keep:∀c o,H c=some o->c∉DH js env fp H->H' c=some o:=λc o h1 h2=>Kb.sG c o h1 h2
 have S:Slots M Z F' σ H' (yZ js env benv) FF:=by
  refine⟨λj t e=>?_,λj a h=>?_,λj j2 a KS h h2=>?_,λj a t e1 e e3=>?_⟩
  case refine_4=>
   rw[MU]at e
   cases ej:env[j]? with
   |none=>rw[ej]at e;cases e
   |some o=>
    rw[ej]at e
    have e:=aao e
    cases ei:js.findIdx? (λq=>q==some j)with
    |none=>
     rw[ei]at e
     dsimp only at e
     subst e
     exact L.oa j a t e1 ej e3
    |some i=>
     rw[ei]at e
     dsimp only at e
     cases o with
     |none=>cases e
     |some s=>
      cases eb:benv[i]? with
      |none=>rw[eb]at e;cases e
      |some w=>
       cases w with
       |none=>rw[eb]at e;cases e
       |some s'=>
        rw[eb]at e
        dsimp only at e
        unfold AI at e
        split at e
        .split at e
         .rename_i h1 h2
          cases e
          rcases h2 with q|q
          .rw[q]at e3;cases e3
          .rw[q]at e3;cases e3
         .cases e
        .split at e
         .split at e
          .rename_i h1
           exact L.oa j a s e1 ej h1
          .cases e
         .rename_i h1
          cases e
          exact absurd e3 h1
  .rw[MU]at e
   cases ej:env[j]? with
   |none=>rw[ej]at e;cases e
   |some o=>
    rw[ej]at e
    have e:=aao e
    show ∃v,σ[j]?=some (some v)/\Ck M Z F' H' v t (match js.findIdx? (λq=>q==some j)with
     |none=>fp j
     |some i=>match env[j]?,benv[i]? with
      |some (some s),some (some s')=>if (AI s s').isSome=true then fb i else []
      |_,_=>[])
    cases ei:js.findIdx? (λq=>q==some j)with
    |none=>
     rw[ei]at e
     dsimp only at e
     subst e
     obtain⟨v,hv,ok⟩:=L.at' j t ej
     refine⟨v,hv,ok.mono Kb.gr λc hc=>?_⟩
     have Hh:=L.al j c hc
     obtain⟨o,ho⟩:=bP Hh.1
     rw[ho]
     refine keep c o ho λhS=>?_
     obtain⟨i,j',s,e1,e2,e3⟩:=dr hS
     have:j≠j':=λz=>by
      subst z
      rw[afh]at ei
      have:=ei (some j) (aaN e1)
      simp at this
     exact L.dj j j' c this hc e3
    |some i=>
     rw[ei]at e
     dsimp only at e ⊢
     have RE:=J9 j i ei
     cases o with
     |none=>cases e
     |some s=>
      rw[ej]
      cases eb:benv[i]? with
      |none=>rw[eb]at e;cases e
      |some w=>
       cases w with
       |none=>rw[eb]at e;cases e
       |some s'=>
        rw[eb]at e
        dsimp only at e ⊢
        rw[e,if_pos (aem)]
        obtain⟨v0,CJ,OO⟩:=L.at' j s ej
        obtain⟨v,hv,ok⟩:=Lb.at' i s' eb
        rw[hσ i j RE,mY RE CJ]at hv
        cases hv
        refine⟨v0,CJ,?_⟩
        unfold AI at e
        rcases ok with ⟨k,e1,r⟩|⟨k,a,e1,e2,h0,r⟩|⟨k,a,e1,h0,r⟩|⟨k,a,e1,e2,h0,r⟩
        .rw[if_neg (by rw[k];decide),if_neg (by rw[k];decide)]at e
         cases e
         exact .inl ⟨k,e1,r⟩
        .rw[if_neg (by rw[k];decide),if_neg (by rw[k];decide)]at e
         cases e
         exact .inr (.inl ⟨k,a,e1,e2,K.h0 h0,r⟩)
        .rw[if_neg (by rcases k with k|k<;>(rw[k];decide))]at e
         have e:s'=t:=by
          split at e
          .split at e
           .exact aao e
           .cases e
          .exact aao e
         subst e
         refine .inr (.inr (.inl ⟨k,a,e1,λc hc=>(RH i _ eb c hc).1,r⟩))
        .rw[if_pos k]at e
         split at e
         .rename_i hk
          cases e
          rcases OO with ⟨k0,_⟩|⟨k0,a0,f1,f2,f3,_⟩|⟨k0,_⟩|⟨k0,a0,f1,f2,f3,_⟩
          .rw[k0]at hk;rcases hk with z|z<;>cases z
          .rw[e1]at f1;cases f1
           exact .inr (.inl ⟨k0,a,e1,e2,f3,r⟩)
          .rcases k0 with k0|k0<;>(rw[k0]at hk;rcases hk with z|z<;>cases z)
          .rw[e1]at f1;cases f1
           exact .inr (.inr (.inr ⟨k0,a,e1,e2,f3,r⟩))
         .cases e
  .have h:a∈(match js.findIdx? (λq=>q==some j)with
     |none=>fp j
     |some i=>match env[j]?,benv[i]? with
      |some (some s),some (some s')=>if (AI s s').isSome=true then fb i else []
      |_,_=>[]):=h
   split at h
   .rename_i ei
    have h0:=L.al j a h
    obtain⟨o,ho⟩:=bP h0.1
    constructor
    .intro z
     have:=Kb.pr a (by show H a≠none;exact h0.1)
     exact this z
    .cases ef:F' a with
     |none=>rfl
     |some o=>
      rcases Kb.nw a (by rw[ef];simp)with q|q
      .exact absurd h0.2 q
      .exact absurd q h0.1
   .split at h
    .split at h
     .exact Lb.al _ a h
     .simp at h
    .simp at h
  .have h:a∈(match js.findIdx? (λq=>q==some j)with
     |none=>fp j
     |some i=>match env[j]?,benv[i]? with
      |some (some s),some (some s')=>if (AI s s').isSome=true then fb i else []
      |_,_=>[]):=h
   have h2:a∈(match js.findIdx? (λq=>q==some j2)with
     |none=>fp j2
     |some i=>match env[j2]?,benv[i]? with
      |some (some s),some (some s')=>if (AI s s').isSome=true then fb i else []
      |_,_=>[]):=h2
   have Ma:∀{j1 i:Nat} {s':Sl},js.findIdx? (λq=>q==some j1)=none->benv[i]?=some (some s')->a∈fp j1->a∈fb i->False:=λ{j1 i s'} e1 e2 m1 m2=>by
    obtain⟨v,_,ok⟩:=Lb.at' i s' e2
    rcases ok.wr a m2 with q|q
    .obtain⟨i',j',s,q1,q2,q3⟩:=dr q
     have:j1≠j':=λz=>by
      subst z
      rw[afh]at e1
      have:=e1 (some j1) (aaN q1)
      simp at this
     exact L.dj j1 j' a this m1 q3
    .exact(L.al j1 a m1).1 q
   split at h
   .rename_i ei
    split at h2
    .exact L.dj j j2 a KS h h2
    .split at h2
     .rename_i eb
      split at h2
      .exact Ma ei eb h h2
      .simp at h2
     .simp at h2
   .rename_i i ei
    split at h
    .rename_i eb
     split at h
     .split at h2
      .rename_i La
       exact Ma La eb h2 h
      .rename_i i2 La
       split at h2
       .split at h2
        .have:i≠i2:=λz=>by
          subst z
          have q1:=J9 j i ei
          have q2:=J9 j2 i La
          rw[q1]at q2
          cases q2
          exact KS rfl
         exact Lb.dj i i2 a this h h2
        .simp at h2
       .simp at h2
     .simp at h
    .simp at h
 refine⟨FF,S,⟨Kb.sF,λb o h1 h2=>keep b o (K.sG b o h1 h2) λhS=>?_,λb h=>Kb.pr b (K.pr b h),ah K.gr Kb.gr,λa h=>?_,by unfold yZ;rw[List.length_mapIdx];exact K.len,FF,S⟩,λj a h=>?_⟩
 .rcases(JD b hS).1 with q|q
  .exact h2 q
  .rw[q]at h1;cases h1
 .rcases Kb.nw a h with q|q
  .exact K.nw a q
  .exact .inr (K.h0 q)
 .have h:a∈(match js.findIdx? (λq=>q==some j)with
    |none=>fp j
    |some i=>match env[j]?,benv[i]? with
     |some (some s),some (some s')=>if (AI s s').isSome=true then fb i else []
     |_,_=>[]):=h
  split at h
  .exact .inl ⟨j,h⟩
  .split at h
   .rename_i eb
    split at h
    .exact(RH _ _ eb a h).2
    .simp at h
   .simp at h
def G6(M:Md)(f:WE):TE:=λσ H Q=>∃(Z:Zn) (F:Hp) (env:En) (P:PV->En->Prop),x3 M Z F σ H env/\f env P/\∀x eQ v F' H',P x eQ->dO F F'->x3 M Z F' σ H' eQ->Rep M.K F' v x->Q v H'
def Jn(M:Md)(f:WT):TT:=λσ H Q=>∃(Z:Zn) (F:Hp) (env:En) (P:Bool->En->Prop),x3 M Z F σ H env/\f env P/\∀b eQ F' H',P b eQ->dO F F'->x3 M Z F' σ H' eQ->Q b H'
theorem yA.pe(h:yA ob X e f):PE X e (G6 (md ob X) f):=by
 obtain⟨t,ht,k⟩:=h.ex
 rintro pins s σ H Q I ⟨Z,F,env,P,K,hf,kk⟩
 exact ht pins s σ H Q I (k Z F σ H env P Q K hf kk)
structure Lf(ob:zl)(X:Cx)(ifs:List Expr)(f:WT):Prop where
 ex:PF X ifs (Jn (md ob X) f)
def E8:WT:=λenv P=>P true env
theorem eR:Lf ob X [] E8:=⟨by
 rintro pins s σ H Q I ⟨Z,F,env,P,K,hf,kk⟩
 exact qv pins s σ H Q I (kk true env F H hf am K)⟩
theorem jC(h:ED ob X c t):Lf ob X [c] t:=⟨by
 obtain⟨w,hw,k⟩:=h.ex
 rintro pins s σ H Q I ⟨Z,F,env,P,K,hf,kk⟩
 exact qu hw pins s σ H Q I (k Z F σ H env P Q K hf kk)⟩
inductive IH where
 |nm (i:Nat)|tp (l:List Nat)
def Cr:List Nat->FH
 |[]=>J3
 |i::l=>DB (zD i) (Cr l)
def DV(K:aag):IH->TG
 |.nm i=>zD i
 |.tp l=>J1 K l.length (Cr l)
def Ea:List Nat->List PV->En->En
 |i::l,x::xs,env=>Ea l xs (env.set i (some ⟨0,x⟩))
 |_,_,env=>env
def DU:IH->WG
 |.nm i=>λx env P=>P (env.set i (some ⟨0,x⟩))
 |.tp l=>λx env P=>match x with
  |.tup xs=>xs.length=l.length/\P (Ea l xs env)
  |_=>False
def AK(js:List (Option Nat)):IH->Bool
 |.nm i=>decide (js[i]?=some none)
 |.tp l=>l.all λi=>decide (js[i]?=some none)
theorem rh:∀{l:List Nat},(l.all λi=>decide (js[i]?=some none))=true->Nc js (Cr l)
 |[],_=>xj
 |i::l,h=>by
  rw[List.all_cons,aa2]at h
  refine vn (gP (of_decide_eq_true h.1)) (rh h.2) gQ ?_
  have mono:∀(l:List Nat),∀x σ H (Q Q':L2.St->Hp->Prop),(∀a b,Q a b->Q' a b)->Cr l x σ H Q->Cr l x σ H Q':=by
   intro l
   induction l with
   |nil=>exact λx σ H Q Q' h q=>⟨q.1,h _ _ q.2⟩
   |cons i l ih=>exact ku gQ ih
  exact mono l
theorem cq{T:IH}(h:AK js T=true):AJ js (DV K T):=by
 cases T with
 |nm i=>exact gP (of_decide_eq_true h)
 |tp l=>exact xi (rh h)
theorem ug{l:List Nat}:∀{σ:L2.St} {env:En} {vs:List V} {xs:List PV} {Q:L2.St->Hp->Prop},x3 M Z F σ H env->oF M.K F vs xs->xs.length=l.length->(∀σ',x3 M Z F σ' H (Ea l xs env)->Q σ' H)->Cr l vs σ H Q:=by
 induction l with
 |nil=>
  intro σ env vs xs Q K r hl k
  cases r with
  |nil=>exact⟨rfl,k σ K⟩
  |cons _ _=>simp at hl
 |cons i l ih=>
  intro σ env vs xs Q K r hl k
  cases r with
  |nil=>simp at hl
  |cons r1 r2=>exact⟨_,_,rfl,ih (K.put r1) r2 (by simpa using hl) k⟩
theorem qg{T:IH}{v:V}{x:PV}{P:En->Prop}{Q:L2.St->Hp->Prop}(K:x3 M Z F σ H env)(r:Rep M.K F v x)(hf:DU T x env P)(k:∀eQ σ',P eQ->x3 M Z F σ' H eQ->Q σ' H):DV M.K T v σ H Q:=by
 cases T with
 |nm i=>exact k _ _ hf (K.put r)
 |tp l=>
  cases r with
  |tup h1 h2=>
   have hf:_/\_:=hf
   exact⟨_,_,rfl,aw K.sF h1,by rw[h2.len];exact hf.1,ug K h2 hf.1 λσ' K'=>k _ σ' hf.2 K'⟩
  |_=>exact(show False from hf).elim
def Aq(g:WG)(c:WT)(f:WE)(js:List (Option Nat))(P:PV->En->Prop):List PV->En->List PV->Prop
 |[],env,acc=>P (.lst acc) env
 |x::xs,env,acc=>g x (C9 js env) λb1=>c b1 λok b2=>if ok=true then f b2 λy b3=>acc.length<=100000/\Aq g c f js P xs (yZ js env b3) (acc++[y])else Aq g c f js P xs (yZ js env b2) acc
def HQ(fi:WA)(T:IH)(c:WT)(f:WE)(js:List (Option Nat)):WE:=λenv P=>fi env λxs e=>Aq (DU T) c f js P xs e []
variable{elt iter kx vx:Expr}{ifs:List Expr}{scope:Scope}{fi:WA}{T:IH}{c:WT}{fk:WE}{N:List Str}
theorem x3.AZ{l:Addr}{o:HO}(K:x3 M Z F σ H env)(L:Slots M Z F σ H env fp)(hF:F l=none)(h0:Z.H₀ l=none)(hl:∀i,l∉fp i):x3 M Z F σ (upd H l o) env/\Slots M Z F σ (upd H l o) env fp:=by
 have S:Slots M Z F σ (upd H l o) env fp:=by
  refine⟨λi s e=>?_,λi a h=>?_,L.dj,L.oa⟩
  .obtain⟨v,h1,h2⟩:=L.at' i s e
   exact⟨v,h1,h2.mono am λc hc=>af λz:c=l=>hl i (by rw[<- z];exact hc)⟩
  .have:=L.al i a h
   refine⟨?_,this.2⟩
   rw[af (λz:a=l=>hl i (by rw[<- z];exact h))];exact this.1
 refine⟨⟨λa u e=>?_,λb u h1 h2=>?_,λb h=>?_,K.gr,K.nw,K.len,fp,S⟩,S⟩
 .rw[af (av e hF)];exact K.sF a u e
 .rw[af (av h1 h0)];exact K.sG b u h1 h2
 .by_cases q:b=l
  .subst q;rw[ai];simp
  .rw[af q];exact K.pr b h
theorem oh{P:PV->En->Prop}{Q:VK}{xs:List PV}{J:It}(hj:Dw js=true)(hT:AK js T=true)(K:x3 (md ob X) Z F σ H env)(I1:DN (md ob X) J F xs)(hf:Aq (DU T) c f js P xs env [])
  (kk:∀x eQ v F' H',P x eQ->dO F F'->(∀xs,x≠.set xs)->x3 (md ob X) Z F' (σ++[some v]) H' (eQ++[some ⟨1,x⟩])->Q v H') (l:Addr) (hl:H l=none) :
  ∃W:Nat->Nat->List V->Hp->Prop,(∃m,W 0 m [] (upd H l (.lst [])))/\∀i m ys H2,W i m ys H2 ->
  (J.stop i H2/\Q (.ref l) H2)\/(J.go i H2/\∀x H3,J.yld i H2 x H3->DV X.K T x (yD js σ) H3 λσ4 H4=>Jn (md ob X) c σ4 H4 λb H5=>
   if b=true then G6 (md ob X) f σ4 H5 λy H6=>H6 l=some (.lst ys)/\ys.length<sizeLine/\∃m',m'<m/\W (i+1) m' (ys++[y]) (upd H6 l (.lst (ys++[y])))else ∃m',m'<m/\W (i+1) m' ys H5):=by
 refine⟨λi m ys H'=>m=xs.length - i/\H' l=some (.lst ys)/\∃F' eQ BS fp,dO F F'/\x3 (md ob X) Z F' σ H' eQ/\Slots (md ob X) Z F' σ H' eQ fp/\F' l=none/\(∀i,l∉fp i)/\oF X.K F' ys BS/\Aq (DU T) c f js P (xs.drop i) eQ BS,?_,?_⟩
 .obtain⟨fp,L⟩:=K.sl
  have hF:F l=none:=dO.none_of K.sF hl
  have hn:∀i,l∉fp i:=λi h=>(L.al i l h).1 hl
  obtain⟨K1,L1⟩:=K.AZ (o:=.lst []) L hF (K.h0 hl) hn
  exact⟨_,rfl,ai,F,env,[],fp,am,K1,L1,hF,hn,.nil,hf⟩
 rintro i m ys H2 ⟨rfl,Fj,F',eQ,BS,fp,s,K',L',MK,hn,ry,hg⟩
 have h0:Z.H₀ l=none:=K.h0 hl
 by_cases y6:i<xs.length
 .rw[adf y6]at hg
  obtain⟨h1,h2⟩:=I1.go Z i σ eQ F' H2 xs[i] s K' (by simp[y6])
  refine .inr ⟨h1,λv H3 y=>?_⟩
  obtain⟨F2,s2,K2,r2,sH,nw⟩:=h2 v H3 y
  have M9:Slots (md ob X) Z F2 σ H3 eQ fp:=L'.move s2 (λ_ c o _ e=>sH c o e) nw
  have P8:F2 l=none:=by
   cases e:F2 l with
   |none=>rfl
   |some o=>
    rcases nw l (by rw[e];simp)with q|q
    .exact absurd MK q
    .rw[Fj]at q;cases q
  have HG:H3 l=some (.lst ys):=sH _ _ Fj
  have Kb:=m5 hj K2 M9
  have hσ4:∀{σ4:L2.St},(∀(k j:Nat),js[k]?=some (some j)->σ4[k]?=(yD js σ)[k]?)->True:=λ_=>trivial
  have Nm:=cq (K:=X.K) hT v (yD js σ) H3 _ (qg (M:=md ob X) (Q:=λσ4 H4=>H4=H3/\∃b1,x3 (md ob X) (Zb js eQ fp F2 H3) F2 σ4 H3 b1/\c b1 λok b2=>if ok=true then f b2 λy b3=>BS.length<=100000/\Aq (DU T) c f js P (xs.drop (i+1)) (yZ js eQ b3) (BS++[y])else Aq (DU T) c f js P (xs.drop (i+1)) (yZ js eQ b2) BS) Kb r2 hg λe4 σ4 p4 K4=>⟨rfl,e4,K4,p4⟩)
  have mono:∀(Q1 Q2:L2.St->Hp->Prop),(∀a b,Q1 a b->Q2 a b)->DV X.K T v (yD js σ) H3 Q1->DV X.K T v (yD js σ) H3 Q2:=by
   have Gr:∀(l:List Nat),∀x σ H (Q Q':L2.St->Hp->Prop),(∀a b,Q a b->Q' a b)->Cr l x σ H Q->Cr l x σ H Q':=by
    intro l
    induction l with
    |nil=>exact λx σ H Q Q' h q=>⟨q.1,h _ _ q.2⟩
    |cons i l ih=>exact ku gQ ih
   intro Q1 Q2 hq q
   cases T with
   |nm i=>exact hq _ _ q
   |tp l=>
    obtain⟨a,xs,e1,e2,e3,e4⟩:=q
    exact⟨a,xs,e1,e2,e3,Gr l _ _ _ _ _ hq e4⟩
  refine mono _ _ ?_ Nm
  rintro σ4 H4 ⟨⟨rfl,b1,K4,p4⟩,hlen,yT⟩
  refine⟨_,F2,b1,_,K4,p4,λb b2 F5 H5 p5 s5 K5=>?_⟩
  have again:∀{F6 H6:Hp} {b3:En} {ys':List V} {D1:List PV},dO F2 F6->x3 (md ob X) (Zb js eQ fp F2 H4) F6 σ4 H6 b3->Aq (DU T) c f js P (xs.drop (i+1)) (yZ js eQ b3) D1->oF X.K F6 ys' D1 ->
    H6 l=some (.lst ys)/\(∃m',m'<xs.length - i/\m'=xs.length - (i+1)/\(upd H6 l (.lst ys')) l=some (.lst ys')/\∃F' eQ BS fp,dO F F'/\x3 (md ob X) Z F' σ (upd H6 l (.lst ys')) eQ/\Slots (md ob X) Z F' σ (upd H6 l (.lst ys')) eQ fp/\F' l=none/\(∀i,l∉fp i)/\oF X.K F' ys' BS/\Aq (DU T) c f js P (xs.drop (i+1)) eQ BS):=λ{F6 H6 b3 ys' D1} s6 K6 p6 r6=>by
   obtain⟨FF,L6,Qy,Cb⟩:=ly hj K2 M9 K6 yT
   have JQ:H6 l=some (.lst ys):=K6.sG l _ HG λz=>by
    obtain⟨_,j,_,_,_,hm⟩:=dr z
    exact hn j hm
   have MH:F6 l=none:=by
    cases e:F6 l with
    |none=>rfl
    |some o=>
     rcases K6.nw l (by rw[e];simp)with q|q
     .exact absurd P8 q
     .exact absurd q (by show H4 l≠none;rw[HG];simp)
   have HD:∀i,l∉FF i:=λi h=>by
    rcases Cb i l h with ⟨i',q⟩|q
    .exact hn i' q
    .rw[HG]at q;cases q
   obtain⟨K7,L7⟩:=Qy.AZ (o:=.lst ys') L6 MH h0 HD
   exact⟨JQ,_,by omega,rfl,ai,F6,_,_,FF,ah s (ah s2 s6),K7,L7,MH,HD,r6,p6⟩
  cases b with
  |false=>
   refine B9 ?_
   obtain⟨Px,m',h1,h2,h3,F',eQ,BS,fp,q1,q2,q3,q4⟩:=again (ys':=ys) s5 K5 p5 ((ry.mono s2).mono s5)
   have e:upd H5 l (.lst ys)=H5:=by
    funext a
    by_cases z:a=l
    .subst z;rw[ai,Px]
    .rw[af z]
   rw[e]at h3 q2 q3
   exact⟨m',h1,h2,h3,F',eQ,BS,fp,q1,q2,q3,q4⟩
  |true=>
   refine Ct ⟨_,F5,b2,_,K5,p5,λy b3 v6 F6 H6 p6 s6 K6 r6=>?_⟩
   obtain⟨JQ,q⟩:=again (ys':=ys++[v6]) (ah s5 s6) K6 p6.2 ((((ry.mono s2).mono s5).mono s6).app (.cons r6 .nil))
   refine⟨JQ,?_,q⟩
   have:=p6.1
   rw[ry.len,aax];omega
 .rw[adK (by omega)]at hg
  refine .inl ⟨I1.stop Z i σ eQ F' H2 s K' (by omega),kk _ eQ _ F' H2 hg s (λ_=>by simp) ?_⟩
  refine K'.slots (by simp[K'.len]) (L'.push (l:=[l]) (by simp) K'.len (.inr (.inl ⟨rfl,l,rfl,rfl,h0,ys,Fj,ry⟩)) (λa ha=>?_) λj a ha=>?_)
  .simp at ha;subst ha
   exact⟨by rw[Fj];simp,MK⟩
  .simp at ha;subst ha
   exact hn j
theorem jA(hi:G3 ob X tg iter fi)(hg:∀C s₀ H₀ ex pn,PG (rW X scope N C s₀ H₀ ex pn) tg (DV X.K T))(ht:∀C s₀ H₀ ex pn,Lf ob (rW X scope N C s₀ H₀ ex pn) ifs c)(he:∀C s₀ H₀ ex pn,yA ob (rW X scope N C s₀ H₀ ex pn) elt f)
  (hj:Dw js=true:=by rfl) (hT:AK js T=true:=by rfl)
  (hc:X.calm=true:=by rfl) (hx:X.xe=(λ_ _=>False):=by rfl) (Bf:Bh X.env scope=true:=by rfl) (yT:zE X.N scope N js=true:=by rfl) (yt:scope.kind=.function:=by rfl) (hs:∀x,aa0 iter X.env x=pure x:=by intro _;rfl) :
  E5 ob X (.ListComp elt [⟨tg,iter,ifs,0⟩] scope pos) (HQ fi T c f js):=by
 obtain⟨wi,GB,k⟩:=hi.ex
 refine⟨_,tY (wi:=wi) (g:=DV X.K T) (tc:=Jn (md ob X) c) (te:=G6 (md ob X) f) (js:=js) GB hg (λC s₀ H₀ ex pn=>(ht C s₀ H₀ ex pn).ex) (λC s₀ H₀ ex pn=>(he C s₀ H₀ ex pn).pe) (cq hT) hc hx Bf yT yt hs,λZ F σ H env P Q K hf kk=>?_⟩
 refine k Z F σ H env _ _ K hf λxs e1 J F1 H1 p s1 K1 I1 l hl=>?_
 exact oh hj hT K1 I1 p (λx e2 v F2 H2 p2 s2 G9 K2=>kk x e2 v F2 H2 p2 (ah s1 s2) G9 K2) l hl
def Bu(g:WG)(c:WT)(fk f:WE)(js:List (Option Nat))(P:PV->En->Prop):List PV->En->List (Key×PV)->Prop
 |[],env,acc=>P (.yw acc) env
 |x::xs,env,acc=>g x (C9 js env) λb1=>c b1 λok b2=>if ok=true then fk b2 λkk b3=>f b3 λy b4=>acc.length<=100000/\opt (A7 kk) λkey=>Bu g c fk f js P xs (yZ js env b4) (AL acc key y)else Bu g c fk f js P xs (yZ js env b2) acc
def HR(fi:WA)(T:IH)(c:WT)(fk f:WE)(js:List (Option Nat)):WE:=λenv P=>fi env λxs e=>Bu (DU T) c fk f js P xs e []
theorem oM{P:PV->En->Prop}{Q:VK}{xs:List PV}{J:It}(hj:Dw js=true)(hT:AK js T=true)(K:x3 (md ob X) Z F σ H env)(I1:DN (md ob X) J F xs)(hf:Bu (DU T) c fk f js P xs env [])
  (kk:∀x eQ v F' H',P x eQ->dO F F'->(∀xs,x≠.set xs)->x3 (md ob X) Z F' (σ++[some v]) H' (eQ++[some ⟨1,x⟩])->Q v H') (l:Addr) (hl:H l=none) :
  ∃W:Nat->Nat->List (Key×V)->Hp->Prop,(∃m,W 0 m [] (upd H l (.dK [])))/\∀i m ys H2,W i m ys H2 ->
  (J.stop i H2/\Q (.ref l) H2)\/(J.go i H2/\∀x H3,J.yld i H2 x H3->DV X.K T x (yD js σ) H3 λσ4 H4=>Jn (md ob X) c σ4 H4 λb H5=>
   if b=true then G6 (md ob X) fk σ4 H5 λkk H6=>G6 (md ob X) f σ4 H6 λy H7=>∃key,kk=kV key/\H7 l=some (.dK ys)/\ys.length<sizeLine/\∃m',m'<m/\W (i+1) m' (putK ys key y) (upd H7 l (.dK (putK ys key y)))else ∃m',m'<m/\W (i+1) m' ys H5):=by
 refine⟨λi m ys H'=>m=xs.length - i/\H' l=some (.dK ys)/\∃F' eQ BS fp,dO F F'/\x3 (md ob X) Z F' σ H' eQ/\Slots (md ob X) Z F' σ H' eQ fp/\F' l=none/\(∀i,l∉fp i)/\nE X.K F' ys BS/\Bu (DU T) c fk f js P (xs.drop i) eQ BS,?_,?_⟩
 .obtain⟨fp,L⟩:=K.sl
  have hF:F l=none:=dO.none_of K.sF hl
  have hn:∀i,l∉fp i:=λi h=>(L.al i l h).1 hl
  obtain⟨K1,L1⟩:=K.AZ (o:=.dK []) L hF (K.h0 hl) hn
  exact⟨_,rfl,ai,F,env,[],fp,am,K1,L1,hF,hn,.nil,hf⟩
 rintro i m ys H2 ⟨rfl,Fj,F',eQ,BS,fp,s,K',L',MK,hn,ry,hg⟩
 have h0:Z.H₀ l=none:=K.h0 hl
 by_cases y6:i<xs.length
 .rw[adf y6]at hg
  obtain⟨h1,h2⟩:=I1.go Z i σ eQ F' H2 xs[i] s K' (by simp[y6])
  refine .inr ⟨h1,λv H3 y=>?_⟩
  obtain⟨F2,s2,K2,r2,sH,nw⟩:=h2 v H3 y
  have M9:Slots (md ob X) Z F2 σ H3 eQ fp:=L'.move s2 (λ_ c o _ e=>sH c o e) nw
  have P8:F2 l=none:=by
   cases e:F2 l with
   |none=>rfl
   |some o=>
    rcases nw l (by rw[e];simp)with q|q
    .exact absurd MK q
    .rw[Fj]at q;cases q
  have HG:H3 l=some (.dK ys):=sH _ _ Fj
  have Kb:=m5 hj K2 M9
  have hσ4:∀{σ4:L2.St},(∀(k j:Nat),js[k]?=some (some j)->σ4[k]?=(yD js σ)[k]?)->True:=λ_=>trivial
  have Nm:=cq (K:=X.K) hT v (yD js σ) H3 _ (qg (M:=md ob X) (Q:=λσ4 H4=>H4=H3/\∃b1,x3 (md ob X) (Zb js eQ fp F2 H3) F2 σ4 H3 b1/\c b1 λok b2=>if ok=true then fk b2 λkk b3=>f b3 λy b4=>BS.length<=100000/\opt (A7 kk) λkey=>Bu (DU T) c fk f js P (xs.drop (i+1)) (yZ js eQ b4) (AL BS key y)else Bu (DU T) c fk f js P (xs.drop (i+1)) (yZ js eQ b2) BS) Kb r2 hg λe4 σ4 p4 K4=>⟨rfl,e4,K4,p4⟩)
  have mono:∀(Q1 Q2:L2.St->Hp->Prop),(∀a b,Q1 a b->Q2 a b)->DV X.K T v (yD js σ) H3 Q1->DV X.K T v (yD js σ) H3 Q2:=by
   have Gr:∀(l:List Nat),∀x σ H (Q Q':L2.St->Hp->Prop),(∀a b,Q a b->Q' a b)->Cr l x σ H Q->Cr l x σ H Q':=by
    intro l
    induction l with
    |nil=>exact λx σ H Q Q' h q=>⟨q.1,h _ _ q.2⟩
    |cons i l ih=>exact ku gQ ih
   intro Q1 Q2 hq q
   cases T with
   |nm i=>exact hq _ _ q
   |tp l=>
    obtain⟨a,xs,e1,e2,e3,e4⟩:=q
    exact⟨a,xs,e1,e2,e3,Gr l _ _ _ _ _ hq e4⟩
  refine mono _ _ ?_ Nm
  rintro σ4 H4 ⟨⟨rfl,b1,K4,p4⟩,hlen,yT⟩
  refine⟨_,F2,b1,_,K4,p4,λb b2 F5 H5 p5 s5 K5=>?_⟩
  have again:∀{F6 H6:Hp} {b3:En} {ys':List (Key×V)} {D1:List (Key×PV)},dO F2 F6->x3 (md ob X) (Zb js eQ fp F2 H4) F6 σ4 H6 b3->Bu (DU T) c fk f js P (xs.drop (i+1)) (yZ js eQ b3) D1->nE X.K F6 ys' D1 ->
    H6 l=some (.dK ys)/\(∃m',m'<xs.length - i/\m'=xs.length - (i+1)/\(upd H6 l (.dK ys')) l=some (.dK ys')/\∃F' eQ BS fp,dO F F'/\x3 (md ob X) Z F' σ (upd H6 l (.dK ys')) eQ/\Slots (md ob X) Z F' σ (upd H6 l (.dK ys')) eQ fp/\F' l=none/\(∀i,l∉fp i)/\nE X.K F' ys' BS/\Bu (DU T) c fk f js P (xs.drop (i+1)) eQ BS):=λ{F6 H6 b3 ys' D1} s6 K6 p6 r6=>by
   obtain⟨FF,L6,Qy,Cb⟩:=ly hj K2 M9 K6 yT
   have JQ:H6 l=some (.dK ys):=K6.sG l _ HG λz=>by
    obtain⟨_,j,_,_,_,hm⟩:=dr z
    exact hn j hm
   have MH:F6 l=none:=by
    cases e:F6 l with
    |none=>rfl
    |some o=>
     rcases K6.nw l (by rw[e];simp)with q|q
     .exact absurd P8 q
     .exact absurd q (by show H4 l≠none;rw[HG];simp)
   have HD:∀i,l∉FF i:=λi h=>by
    rcases Cb i l h with ⟨i',q⟩|q
    .exact hn i' q
    .rw[HG]at q;cases q
   obtain⟨K7,L7⟩:=Qy.AZ (o:=.dK ys') L6 MH h0 HD
   exact⟨JQ,_,by omega,rfl,ai,F6,_,_,FF,ah s (ah s2 s6),K7,L7,MH,HD,r6,p6⟩
  cases b with
  |false=>
   refine B9 ?_
   obtain⟨Px,m',h1,h2,h3,F',eQ,BS,fp,q1,q2,q3,q4⟩:=again (ys':=ys) s5 K5 p5 ((ry.mono s2).mono s5)
   have e:upd H5 l (.dK ys)=H5:=by
    funext a
    by_cases z:a=l
    .subst z;rw[ai,Px]
    .rw[af z]
   rw[e]at h3 q2 q3
   exact⟨m',h1,h2,h3,F',eQ,BS,fp,q1,q2,q3,q4⟩
  |true=>
   refine Ct ⟨_,F5,b2,_,K5,p5,λkx b3 v6 F6 H6 p6 s6 K6 r6=>⟨_,F6,b3,_,K6,p6,λy b4 v7 F7 H7 p7 s7 K7 r7=>?_⟩⟩
   obtain⟨p7,key,Ej,p8⟩:=p7
   have QT:=ah s5 (ah s6 s7)
   obtain⟨JQ,q⟩:=again (ys':=putK ys key v7) QT K7 p8 (((ry.mono s2).mono QT).put r7)
   refine⟨key,eF Ej r6,JQ,?_,q⟩
   rw[ry.len,aax];omega
 .rw[adK (by omega)]at hg
  refine .inl ⟨I1.stop Z i σ eQ F' H2 s K' (by omega),kk _ eQ _ F' H2 hg s (λ_=>by simp) ?_⟩
  refine K'.slots (by simp[K'.len]) (L'.push (l:=[l]) (by simp) K'.len (.inr (.inl ⟨rfl,l,rfl,rfl,h0,ys,Fj,ry⟩)) (λa ha=>?_) λj a ha=>?_)
  .simp at ha;subst ha
   exact⟨by rw[Fj];simp,MK⟩
  .simp at ha;subst ha
   exact hn j
theorem t9(hi:G3 ob X tg iter fi)(hg:∀C s₀ H₀ ex pn,PG (rW X scope N C s₀ H₀ ex pn) tg (DV X.K T))(ht:∀C s₀ H₀ ex pn,Lf ob (rW X scope N C s₀ H₀ ex pn) ifs c)(hk:∀C s₀ H₀ ex pn,yA ob (rW X scope N C s₀ H₀ ex pn) kx fk)(he:∀C s₀ H₀ ex pn,yA ob (rW X scope N C s₀ H₀ ex pn) vx f)
  (hj:Dw js=true:=by rfl) (hT:AK js T=true:=by rfl)
  (hc:X.calm=true:=by rfl) (hx:X.xe=(λ_ _=>False):=by rfl) (Bf:Bh X.env scope=true:=by rfl) (yT:zE X.N scope N js=true:=by rfl) (yt:scope.kind=.function:=by rfl) (hs:∀x,aa0 iter X.env x=pure x:=by intro _;rfl) :
  E5 ob X (.DictComp kx vx [⟨tg,iter,ifs,0⟩] scope pos) (HR fi T c fk f js):=by
 obtain⟨wi,GB,k⟩:=hi.ex
 refine⟨_,xL (wi:=wi) (g:=DV X.K T) (tc:=Jn (md ob X) c) (tk:=G6 (md ob X) fk) (te:=G6 (md ob X) f) (js:=js) GB hg (λC s₀ H₀ ex pn=>(ht C s₀ H₀ ex pn).ex) (λC s₀ H₀ ex pn=>(hk C s₀ H₀ ex pn).pe) (λC s₀ H₀ ex pn=>(he C s₀ H₀ ex pn).pe) (cq hT) hc hx Bf yT yt hs,λZ F σ H env P Q K hf kk=>?_⟩
 refine k Z F σ H env _ _ K hf λxs e1 J F1 H1 p s1 K1 I1 l hl=>?_
 exact oM hj hT K1 I1 p (λx e2 v F2 H2 p2 s2 G9 K2=>kk x e2 v F2 H2 p2 (ah s1 s2) G9 K2) l hl
variable{za:Pos}
theorem t8(i:Nat){y:Str}(hN:X.N.Nodup)(hy:X.N[i]?=some y)(hl:X.env.scope.names.lookup y=some .local)(hi:G3 ob X tg iter fi)(hg:∀C s₀ H₀ ex pn,PG (rW X scope N C s₀ H₀ ex pn) tg (DV X.K T))(ht:∀C s₀ H₀ ex pn,Lf ob (rW X scope N C s₀ H₀ ex pn) ifs c)(hk:∀C s₀ H₀ ex pn,yA ob (rW X scope N C s₀ H₀ ex pn) kx fk)(he:∀C s₀ H₀ ex pn,yA ob (rW X scope N C s₀ H₀ ex pn) vx f)
  (hj:Dw js=true:=by rfl) (hT:AK js T=true:=by rfl)
  (GD:ab9 (.DictComp kx vx [⟨tg,iter,ifs,0⟩] scope pos) (some (.Name y py)) za.line X.env=pure true:=by rfl)
  (hc:X.calm=true:=by rfl) (hx:X.xe=(λ_ _=>False):=by rfl) (Bf:Bh X.env scope=true:=by rfl) (yT:zE X.N scope N js=true:=by rfl) (yt:scope.kind=.function:=by rfl) (hs:∀x,aa0 iter X.env x=pure x:=by intro _;rfl) :
  BR ob X (.Assign [.Name y py] (.DictComp kx vx [⟨tg,iter,ifs,0⟩] scope pos) za) (zU i (HR fi T c fk f js)):=by
 obtain⟨wi,GB,k⟩:=hi.ex
 refine⟨_,tX (i:=i) (wi:=wi) (g:=DV X.K T) (tc:=Jn (md ob X) c) (tk:=G6 (md ob X) fk) (te:=G6 (md ob X) f) (js:=js) hN hy hl GB hg (λC s₀ H₀ ex pn=>(ht C s₀ H₀ ex pn).ex) (λC s₀ H₀ ex pn=>(hk C s₀ H₀ ex pn).pe) (λC s₀ H₀ ex pn=>(he C s₀ H₀ ex pn).pe) (cq hT) GD hc hx Bf yT yt hs,λZ F σ H env P D K hf L=>?_⟩
 refine k Z F σ H env _ _ K hf λxs e1 J F1 H1 p s1 K1 I1 l hl=>?_
 exact oM (P:=λx e=>P.nx (e.set i (some ⟨1,x⟩))) (Q:=λv H'=>D.nx (σ.set i (some v)) H') hj hT K1 I1 p (λx e2 v F2 H2 p2 s2 G9 K2=>L.nx _ _ F2 H2 p2 (ah s1 s2) K2.take) l hl
abbrev LM:=List PV->List PV->Option (PV×List PV)
def FG(m:LM)(i:Nat)(fa:WA):WE:=λenv P=>(match env[i]? with|some (some ⟨1,.lst _⟩)=>True|some (some ⟨3,.lst _⟩)=>True|_=>False)/\fa env λxs e=>match e[i]? with
 |some (some ⟨1,.lst ys⟩)=>opt (m ys xs) λr=>P r.1 (e.set i (some ⟨1,.lst r.2⟩))
 |some (some ⟨3,.lst ys⟩)=>opt (m ys xs) λr=>P r.1 (e.set i (some ⟨3,.lst r.2⟩))
 |_=>False
def M7(K:aag)(r:V->List V->Hp->VK->Prop)(m:LM):Prop :=
 ∀(F H:Hp) (l:Addr) (ys vs:List V) (ps xs:List PV) (z:PV) (KD:List PV) (Q:VK),dO F H->H l=some (.lst ys)->oF K F ys ps->oF K F vs xs->m ps xs=some (z,KD) ->
  (∀v ys',Rep K F v z->oF K F ys' KD->Q v (upd H l (.lst ys')))->r (.ref l) vs H Q
variable{c:Expr}{apos yP:Pos}{name:Str}{r:V->List V->Hp->VK->Prop}{m:LM}
theorem qQ{t:TA}(hq:M7 X.K r m)(k:∀(Z:Zn) (F:Hp) (σ:L2.St) (H:Hp) (env:En) (P:List PV->En->Prop) (Q:List V->Hp->Prop),x3 (md ob X) Z F σ H env->fa env P->(∀xs eQ vs F' H',P xs eQ->xs.length=es.length->dO F F'->x3 (md ob X) Z F' σ H' eQ->oF X.K F' vs xs->Q vs H')->t σ H Q):
  ∀(Z:Zn) (F:Hp) (σ:L2.St) (H:Hp) (env:En) (P:PV->En->Prop) (Q:VK),x3 (md ob X) Z F σ H env->FG m i fa env P->(∀x eQ v F' H',P x eQ->dO F F'->x3 (md ob X) Z F' σ H' eQ->Rep X.K F' v x->Q v H')->QN X.K "list" r (yK i) t σ H Q:=by
 intro Z F σ H env P Q K hf kk
 obtain⟨h0,hf⟩:=hf
 obtain⟨a,hσ,Kx,ha⟩:∃a,σ[i]?=some (some (.ref a))/\∃vs,H a=some (.lst vs):=by
  split at h0
  .rename_i e
   obtain⟨a,h1,vs,h2,_⟩:=K.ownAt (.inl rfl) e
   exact⟨a,h1,vs,h2⟩
  .rename_i e
   obtain⟨a,h1,vs,h2,_⟩:=K.ownAt (.inr rfl) e
   exact⟨a,h1,vs,h2⟩
  .exact h0.elim
 refine⟨_,hσ,.inl ⟨rfl,Kx,.inl (.inl ha)⟩,?_⟩
 refine k Z F σ H env _ _ K hf λxs e1 vs F1 H1 p _ s1 K1 r1=>?_
 have fin:∀(kd:Nat) (ys:List PV),kd=1\/kd=3->e1[i]?=some (some ⟨kd,.lst ys⟩)->opt (m ys xs) (λr=>P r.1 (e1.set i (some ⟨kd,.lst r.2⟩)))->r (.ref a) vs H1 Q:=λkd ys hk ei ⟨⟨z,ys'⟩,hm,p⟩=>by
  obtain⟨a',h1,ws,h2,h3⟩:=K1.ownAt hk ei
  rw[hσ]at h1;cases h1
  refine hq F1 H1 a ws vs ys xs z ys' Q K1.sF h2 h3 r1 hm λv us rv ru=>?_
  exact kk z _ v F1 _ p s1 (K1.write (o:=.lst us) hk ei hσ ⟨us,ai,ru⟩) rv
 split at p
 .rename_i ei;exact fin _ _ (.inl rfl) ei p
 .rename_i ei;exact fin _ _ (.inr rfl) ei p
 .exact p.elim
theorem fB(i:Nat)(slot:Slot "list" name Iu)(Fh:typeOf (.builtin Iu)=pure (.type "method_descriptor"))(hm:N3 X Iu r)(hq:M7 X.K r m)(ho:PE X (.Name x p) (yK i))(ha:DP ob X (e::es) fa)
  (zx:acw (.Name x p) name X.env (eval (.Name x p) X.env)=eval (.Name x p) X.env:=by rfl)
  (Ek:((backTo yP (aai (e::es) X.env)).all (λx=>!x.1) && (aeR yP (adz [] X.env)).all (λx=>x.1.isSome)
   && decide ((e::es).length+([]:List adX).length+(if ([]:List adX).isEmpty then 0 else 1)<30))=true:=by rfl)
  (zw:(apos.endLine==yP.line)=true:=by rfl) (hs:aai (e::es) X.env=(false,eval e X.env)::aai es X.env:=by rfl) (AQ:(backTo yP (aai es X.env)).any (·.1)=false:=by rfl) :
  yA ob X (.Call (.Attribute (.Name x p) name apos) (e::es) [] yP) (FG m i fa):=by
 obtain⟨t,ht,k⟩:=ha.ex
 exact⟨_,ph acH slot Fh hm ho ht zx Ek zw hs AQ,qQ hq k⟩
theorem xr(i:Nat)(slot:Slot "list" name Iu)(Fh:typeOf (.builtin Iu)=pure (.type "method_descriptor"))(hm:N3 X Iu r)(hq:M7 X.K r m)(ho:PE X (.Name x p) (yK i))
  (zx:acw (.Name x p) name X.env (eval (.Name x p) X.env)=eval (.Name x p) X.env:=by rfl) (zw:(apos.endLine==yP.line)=true:=by rfl):yA ob X (.Call (.Attribute (.Name x p) name apos) [] [] yP) (FG m i iD):=by
 refine⟨_,wB acH slot Fh hm ho zx zw,λZ F σ H env P Q K hf kk=>?_⟩
 obtain⟨v,h1,h2,h3⟩:=qQ (es:=[]) (i:=i) (t:=FR) hq (λZ F σ H env P Q K hf k=>k [] env [] F H hf rfl am K .nil) Z F σ H env P Q K hf kk
 exact⟨v,h1,h2,h3⟩
def br:LM:=λys xs=>match xs with
 |[x]=>if ys.length<=100000 then some (.lT,ys++[x])else none
 |_=>none
theorem bB:M7 X.K nU br:=by
 intro F H l ys vs ps xs z KD Q sF hl ry rx hm k
 unfold br at hm
 split at hm
 .split at hm
  .cases hm
   cases rx with
   |cons r1 r2=>
    cases r2
    refine⟨l,ys,_,rfl,rfl,hl,?_,k _ _ .lT (ry.app (.cons r1 .nil))⟩
    rw[ry.len,aax];omega
  .cases hm
 .cases hm
def Hx:LM:=λys xs=>match xs with
 |[]=>(ys[ys.length - 1]?).map λy=>(y,ys.dropLast)
 |_=>none
theorem oF.dl{vs:List V}{xs:List PV}(h:oF K F vs xs):oF K F vs.dropLast xs.dropLast:=by
 rw[List.dropLast_eq_take,List.dropLast_eq_take,h.len]
 exact h.take _
theorem wO:M7 X.K LB Hx:=by
 intro F H l ys vs ps xs z KD Q sF hl ry rx hm k
 unfold Hx at hm
 split at hm
 .rw[aap]at hm
  obtain⟨y,hy,e⟩:=hm
  cases e
  cases rx
  obtain⟨v,hv,rv⟩:=ry.get hy
  exact⟨l,ys,v,rfl,rfl,hl,by rw[ry.len];exact hv,k _ _ rv ry.dl⟩
 .cases hm
def BX:PV->PV->PV->Option PV
 |.lst xs,.int i,v=>(G8 xs.length i).map λj=>.lst (xs.set j v)
 |.yw kvs,y,v=>if kvs.length<=100000 then (A7 y).map λk=>.yw (AL kvs k v)else none
 |_,_,_=>none
def FZ(i:Nat)(fv fk:WE):WS:=λP env=>fv env λv e1=>(e1[i]?).join.isSome=true/\fk e1 λy e2=>match e2[i]? with
 |some (some ⟨1,x⟩)=>opt (BX x y v) λz=>P.nx (e2.set i (some ⟨1,z⟩))
 |some (some ⟨3,x⟩)=>opt (BX x y v) λz=>P.nx (e2.set i (some ⟨3,z⟩))
 |_=>False
variable{ke:Expr}
def Ih:G0:=λo i v H Q=>∃a H',o=.ref a/\Kt H a i v H'/\Q H'
theorem se(hu:X.A.units+1<cLine):DL X Ih:=by
 intro pins s σ H o i v ov iv u Q I ro ri rv h
 obtain⟨a,H',rfl,g,q⟩:=h
 cases ro
 exact rM hu I g ri rv λs4 I4=>⟨H',I4,q⟩
theorem DL.or{t u:G0}(h:DL X t)(h':DL X u):DL X (λo i v H Q=>t o i v H Q\/u o i v H Q):=by
 intro pins s σ H o i v ov iv w Q I ro ri rv q
 rcases q with q|q
 .exact h pins s σ H o i v ov iv w Q I ro ri rv q
 .exact h' pins s σ H o i v ov iv w Q I ro ri rv q
theorem rp(i:Nat)(hu:X.A.units+1<cLine)(hv:yA ob X e f)(ho:PE X (.Name x p) (yK i))(hk:yA ob X ke fk)
  (hs:adw [.Subscript (.Name x p) ke pos] e za.line X.env=pure false:=by rfl) (hw:adx [.Subscript (.Name x p) ke pos] e X.env=pure none:=by rfl)
  (h1:(acm [.Subscript (.Name x p) ke pos] X.env).map (·.2)=[assign (.Subscript (.Name x p) ke pos) X.env]:=by rfl)
  (ha:∀v,assign (.Subscript (.Name x p) ke pos) X.env v=(do
   let ov <- acQ [v] (eval (.Name x p) X.env)
   let iv <- acQ [v,ov] (eval ke X.env)
   standAt pos
   acQ [v,ov,iv] (setItem ov iv v)
   release [v,ov,iv] []):=by intro _;rfl):BR ob X (.Assign [.Subscript (.Name x p) ke pos] e za) (FZ i f fk):=by
 obtain⟨t,ht,k⟩:=hv.ex
 obtain⟨t2,JG,k2⟩:=hk.ex
 refine⟨_,jl ht (lY ho JG (DL.or iC (se hu)) ha) hs hw h1,λZ F σ H env P D K hf L=>k Z F σ H env _ _ K hf λv e1 v' F1 H1 p s1 K1 r1=>?_⟩
 obtain⟨h0,p⟩:=p
 obtain⟨w,hw⟩:∃v,σ[i]?=some (some v):=by
  cases e:e1[i]? with
  |none=>rw[e]at h0;cases h0
  |some w=>
   cases w with
   |none=>rw[e]at h0;cases h0
   |some s=>
    obtain⟨fp,L⟩:=K1.sl
    obtain⟨v,hv,_⟩:=L.at' i s e
    exact⟨v,hv⟩
 refine⟨w,hw,k2 Z F1 σ H1 e1 _ _ K1 p λy e2 y' F2 H2 p2 s2 K2 r2=>?_⟩
 have fin:∀(kd:Nat) (x:PV),kd=1\/kd=3->e2[i]?=some (some ⟨kd,x⟩)->opt (BX x y v) (λz=>P.nx (e2.set i (some ⟨kd,z⟩)))->(EN w y' v' H2 λH3=>D.nx σ H3)\/Ih w y' v' H2 λH3=>D.nx σ H3:=λkd x hk ei ⟨z,hz,p⟩=>by
  obtain⟨a,h1,hx⟩:=K2.ownAt hk ei
  rw[hw]at h1;cases h1
  have QW:=r1.mono s2
  unfold BX at hz
  split at hz
  .rw[aap]at hz
   obtain⟨j,hj,rfl⟩:=hz
   obtain⟨vs,h2,h3⟩:=hx
   cases r2
   exact .inl ⟨a,vs,_,j,rfl,rfl,h2,by rw[h3.len];exact hj,L.nx _ _ F2 _ p (ah s1 s2) (K2.write (o:=.lst (vs.set j v')) hk ei hw ⟨_,ai,h3.OB j QW⟩)⟩
  .split at hz
   .rw[aap]at hz
    obtain⟨j,hj,rfl⟩:=hz
    obtain⟨vs,h2,h3⟩:=hx
    have hy:=eF hj r2
    subst hy
    exact .inr ⟨a,_,rfl,Sk h2 (by rw[h3.len,aax];omega),L.nx _ _ F2 _ p (ah s1 s2) (K2.write (o:=.dK (putK vs j v')) hk ei hw ⟨_,ai,h3.put QW⟩)⟩
   .cases hz
  .cases hz
 split at p2
 .rename_i ei;exact fin _ _ (.inl rfl) ei p2
 .rename_i ei;exact fin _ _ (.inr rfl) ei p2
 .exact p2.elim
abbrev Fd:=List PV->(PV->Prop)->Prop
def CU(M:Md)(n:Nat)(D:Fd):Sp:=λvs H Q _=>∃(F:Hp) (xs:List PV) (P:PV->Prop),dO F H/\oF M.K F vs xs/\xs.length=n/\D xs P /\
 ∀r v F' H',P r->dO H H'->dO F F'->dO F' H'->(∀a,F' a≠none->F a≠none\/H a=none)->Rep M.K F' v r->Q v H'
def yE(n:Nat)(xs:List PV):En:=xs.map (λx=>some ⟨0,x⟩)++aaC (n - xs.length) none
def Kh(P:PV->Prop):Wd:={nx:=λ_=>P .lT,rt:=λx _=>P x}
def run(n:Nat)(u:WS):Fd:=λxs P=>u (Kh P) (yE n xs)
abbrev BO:=PV->List PV->(PV->PV->Prop)->Prop
def G5(M:Md)(n:Nat)(D:BO):Sp:=λvs H Q _=>∃(F:Hp) (a:Addr) (l:List Addr) (c:PV) (ws:List V) (xs:List PV) (P:PV->PV->Prop),vs=.ref a::ws/\dO F H/\oF M.K F ws xs/\xs.length+1=n /\
 M.ob.P F H a l c/\(∀b∈l,H b≠none/\F b=none)/\D c xs P /\
 ∀r c' v F' H' l',P r c'->(∀b o,H b=some o->b∉l->H' b=some o)->(∀b,H b≠none->H' b≠none)->dO F F'->dO F' H'->(∀a,F' a≠none->F a≠none\/H a=none)->M.ob.P F' H' a l' c'->(∀b∈l',H' b≠none/\F' b=none)->(∀b∈l',b∈l\/H b=none)->Rep M.K F' v r->Q v H'
def LQ(P:PV->Prop)(e:En):Prop:=match e[(0:Nat)]? with
 |some (some ⟨2,c⟩)=>P c
 |_=>False
def HP(P:PV->PV->Prop):Wd:={nx:=λe=>LQ (P .lT) e,rt:=λx e=>LQ (P x) e}
def Fb(n:Nat)(u:WS):BO:=λc xs P=>u (HP P) (some ⟨2,c⟩::yE (n - 1) xs)
theorem fV{vs:List V}(h:vs.length<=N.length):(start N vs).length=N.length:=by
 unfold L2.start
 rw[aaQ,aae,ab7];omega
theorem fq{xs:List PV}(h:xs.length<=n):(yE n xs).length=n:=by
 unfold yE
 rw[aaQ,aae,ab7];omega
theorem ft{xs:List PV}{s:Sl}(h:(yE n xs)[i]?=some (some s)):∃x,xs[i]?=some x/\s=⟨0,x⟩:=by
 unfold yE at h
 rcases aa4 i xs.length with q|q
 .rw[aav (by simpa using q),aah,aaa q]at h
  exact⟨xs[i],by simp[q],(aao (aao h)).symm⟩
 .rw[ab3 (by simpa using q),List.getElem?_replicate]at h
  split at h<;>cases h
theorem cA{vs:List V}{v:V}(h:vs[i]?=some v):(start N vs)[i]?=some (some v):=by
 unfold L2.start
 have q:i<vs.length:=by
  rcases aa4 i vs.length with q|q
  .exact q
  .rw[aaq q]at h;cases h
 rw[aav (by simpa using q),aah,h];rfl
theorem fW{vs:List V}{xs:List PV}(sF:dO F H)(r:oF M.K F vs xs)(hl:xs.length<=N.length):x3 M ⟨H,F,[],λ_=>none,λ_ h=>by simp at h⟩ F (start N vs) H (yE N.length xs):=by
 have Fk:vs.length<=N.length:=by rw[r.len];exact hl
 refine⟨sF,λb o h _=>h,λb h=>h,am,λa h=>.inl h,by rw[fq hl,fV Fk],λ_=>[],λi s h=>?_,λi a h=>by simp at h,λi j a _ h=>by simp at h,λi a s h=>by cases h⟩
 obtain⟨x,hx,rfl⟩:=ft h
 obtain⟨v,hv,rv⟩:=r.get hx
 exact⟨v,cA hv,.inl ⟨rfl,rfl,rv⟩⟩
variable{l:List Addr}
theorem o8{xs:List PV}{a:Addr}{c:PV}(sF:dO F H)(r:oF M.K F ws xs)(hl:xs.length+1<=N.length)(ho:M.ob.P F H a l c)(hb:∀b∈l,H b≠none/\F b=none):
  x3 M ⟨H,F,l,λi=>if i=0 then some a else none,λb h=>(hb b h).1⟩ F (start N (.ref a::ws)) H (some ⟨2,c⟩::yE (N.length - 1) xs):=by
 have Fk:ws.length+1<=N.length:=by rw[r.len];exact hl
 refine⟨sF,λb o h _=>h,λb h=>h,am,λa h=>.inl h,?_,λi=>if i=0 then l else [],λi s h=>?_,λi b h=>?_,λi j b AR h z=>?_,λi b s h _ _=>?_⟩
 .rw[aaR,fq (by omega),fV (by simpa using Fk)];omega
 .cases i with
  |zero=>
   have h:s=⟨2,c⟩:=by simpa using h.symm
   subst h
   exact⟨.ref a,cA rfl,.inr (.inr (.inl ⟨.inl rfl,a,rfl,λc hc=>.inl hc,ho⟩))⟩
  |succ i=>
   have h:(yE (N.length - 1) xs)[i]?=some (some s):=by simpa using h
   obtain⟨x,hx,rfl⟩:=ft h
   obtain⟨v,hv,rv⟩:=r.get hx
   exact⟨v,cA (by simpa using hv),.inl ⟨rfl,rfl,rv⟩⟩
 .split at h
  .exact hb b h
  .simp at h
 .split at h
  .split at z
   .rename_i h1 h2;exact AR (h1.trans h2.symm)
   .simp at z
  .simp at h
 .dsimp only at h
  split at h
  .rename_i e;subst e;cases h;exact cA rfl
  .cases h
variable{P:aaE}{w:World}{mg:Str->Option Value}{base:Heap}
variable{qual:Str}{fd:abz}{ps:List Str}
theorem bq{f:Addr}{k:Nat}(F:EC K x qual st f fd)(S:az N ps (aq st))(hn:ps.length<=N.length)
  (hb:∀(yx:Value) (A:Around) (outer:List Env) (s:Shared) (H:Hp) (E:XK),yj k (A.deeper (envOfC qual (aq st) s.heap.objs.size f yx))->Bx ob (BM yQ P w K mg base N qual (aq st) f yx A outer s H E).Gk (bc st) u) :
  yd P w K mg base yQ (k+1) f fd ps (CU ⟨P,w,K,ob⟩ ps.length (run N.length u)):=by
 refine F.ok S (λvs H Q E h=>?_) (λyx A outer s H vs Q E hr h=>?_)
 .obtain⟨F,xs,P,_,r,hl,_⟩:=h
  rw[r.len];exact hl
 .obtain⟨F,xs,P',sF,r,hl,hD,kk⟩:=h
  obtain⟨t,ht,kt⟩:=(hb yx A outer s H E hr).ex
  refine⟨t,ht,kt ⟨H,F,[],λ_=>none,λ_ h=>by simp at h⟩ F (start N vs) H (yE N.length xs) (Kh P') _ (fW (M:=⟨P,w,K,ob⟩) sF r (by omega)) hD ⟨λenv σ F' H' p s1 K1=>?_,λx env v σ F' H' p s1 K1 rv=>?_,λ_ _ _ _ p=>p.elim,λ_ _ _ _ p=>p.elim,λ_ _ _ _ _ _ p=>p.elim,λ_ _ _ _ _ _ _ p=>p.elim⟩⟩
  .exact kk .lT .lT F' H' p (λb o h=>K1.sG b o h (by simp)) s1 K1.sF K1.nw .lT
  .exact kk x v F' H' p (λb o h=>K1.sG b o h (by simp)) s1 K1.sF K1.nw rv
theorem jv{f:Addr}{k:Nat}(F:EC K x qual st f fd)(S:az N ps (aq st))(hn:ps.length<=N.length)
  (hb:∀(yx:Value) (A:Around) (outer:List Env) (s:Shared) (H:Hp) (E:XK),yj k (A.deeper (envOfC qual (aq st) s.heap.objs.size f yx))->Bx ob (BM yQ P w K mg base N qual (aq st) f yx A outer s H E).Gk (bc st) u) :
  yd P w K mg base yQ (k+1) f fd ps (G5 ⟨P,w,K,ob⟩ ps.length (Fb N.length u)):=by
 refine F.ok S (λvs H Q E h=>?_) (λyx A outer s H vs Q E hr h=>?_)
 .obtain⟨F,a,l,c,ws,xs,P,rfl,_,r,hl,_⟩:=h
  rw[aaR,r.len];exact hl
 .obtain⟨F,a,l,c,ws,xs,P',rfl,sF,r,hl,ho,Fo,hD,kk⟩:=h
  obtain⟨t,ht,kt⟩:=(hb yx A outer s H E hr).ex
  have fin:∀(x:PV) (env:En) (v:V) (σ:L2.St) (F' H':Hp),LQ (P' x) env->dO F F'->x3 ⟨P,w,K,ob⟩ ⟨H,F,l,λi=>if i=0 then some a else none,λb h=>(Fo b h).1⟩ F' σ H' env->Rep K F' v x->Q v H':=λx env v σ F' H' p s1 K1 rv=>by
   unfold LQ at p
   split at p
   .rename_i c' e
    obtain⟨fp,L⟩:=K1.sl
    obtain⟨v0,CJ,ok⟩:=L.at' 0 _ e
    have hσ:=L.oa 0 a _ rfl e rfl
    rw[hσ]at CJ;cases CJ
    rcases ok with ⟨k0,_⟩|⟨k0,_⟩|⟨_,a',e',h1,h2⟩|⟨k0,_⟩
    .cases k0
    .cases k0
    .cases e'
     exact kk x _ v F' H' (fp 0) p (λb o h1 h2=>K1.sG b o h1 h2) (λb h=>K1.pr b h) s1 K1.sF K1.nw h2 (λb hb=>L.al 0 b hb) (λb hb=>h1 b hb) rv
    .cases k0
   .exact p.elim
  refine⟨t,ht,kt ⟨H,F,l,λi=>if i=0 then some a else none,λb h=>(Fo b h).1⟩ F (start N (.ref a::ws)) H (some ⟨2,c⟩::yE (N.length - 1) xs) (HP P') _ (o8 (M:=⟨P,w,K,ob⟩) sF r (by omega) ho Fo) hD ⟨λenv σ F' H' p s1 K1=>?_,λx env v σ F' H' p s1 K1 rv=>?_,λ_ _ _ _ p=>p.elim,λ_ _ _ _ p=>p.elim,λ_ _ _ _ _ _ p=>p.elim,λ_ _ _ _ _ _ _ p=>p.elim⟩⟩
  .exact fin .lT env .lT σ F' H' p s1 K1 .lT
  .exact fin x env v σ F' H' p s1 K1 rv
def yu(D:Fd)(fa:WA):WE:=λenv P=>fa env λxs e=>D xs λr=>P r e
def yh(D:BO)(i:Nat)(fa:WA):WE:=λenv P=>(env[i]?).join.isSome=true/\fa env λxs e=>match e[i]? with
 |some (some ⟨2,c⟩)=>D c xs λr c'=>P r (e.set i (some ⟨2,c'⟩))
 |some (some ⟨4,c⟩)=>D c xs λr c'=>P r (e.set i (some ⟨4,c'⟩))
 |_=>False
variable{k:Nat}{Ad:Addr}{D:Fd}{DO:BO}{p1:Pos}
theorem oG(F:yd X.prog X.w X.K X.mg X.base yQ k Ad fd ps (CU (md ob X) n D))(hr:yj k X.A)(hm:X.mg x=some (.ref Ad))(hk:abw X.K (.ref Ad)=true)(hb:Binds X.K fd ps [])(ha:DP ob X (e::es) fa)(hn:es.length+1=n:=by rfl)(hg:Gl X x:=by rfl)
  (A9:(x==("__debug__" : Str))=false:=by decide) (he:aai (e::es) X.env=(false,eval e X.env)::aai es X.env:=by rfl) (Ag:(backTo pos (aai es X.env)).any (·.1)=false:=by rfl) :
  yA ob X (.Call (.Name x p) (e::es) [] pos) (yu D fa):=by
 obtain⟨t,ht,kt⟩:=ha.ex
 refine⟨_,cU (E:=E0) F hr hg hm hk hb .nil CC ht A9 he Ag,λZ F σ H env P Q K hf kk=>kt Z F σ H env _ _ K hf λxs e1 vs F1 H1 p hl s1 K1 r1=>?_⟩
 rw[abb]
 refine⟨F1,xs,λr=>P r e1,K1.sF,r1,by rw[hl];exact hn,p,λr v F' H' pr sH sF Gc nw rv=>?_⟩
 exact kk r e1 v F' H' pr (ah s1 sF) (K1.move sF Gc sH nw) rv
theorem x3.Hw{kd:Nat}{a:Addr}{c c':PV}{l':List Addr}(hk:kd=2\/kd=4)(K:x3 M Z F σ H env)(L:Slots M Z F σ H env fp)(hi:env[i]?=some (some ⟨kd,c⟩))(hv:σ[i]?=some (some (.ref a)))
  (kp:∀b o,H b=some o->b∉fp i->H' b=some o) (pr:∀b,H b≠none->H' b≠none) (sF:dO F F') (Gc:dO F' H') (nw:∀a,F' a≠none->F a≠none\/H a=none) (ho:M.ob.P F' H' a l' c') (hl:∀b∈l',H' b≠none/\F' b=none) (hn:∀b∈l',b∈fp i\/H b=none) :
  x3 M Z F' σ H' (env.set i (some ⟨kd,c'⟩))/\Slots M Z F' σ H' (env.set i (some ⟨kd,c'⟩)) (λj=>if j=i then l' else fp j):=by
 obtain⟨v0,CJ,OO⟩:=L.at' i _ hi
 have wr:=OO.wr
 have RO:∀b∈l',b∈Z.S\/Z.H₀ b=none:=λb hb=>by
  rcases hn b hb with q|q
  .exact wr b q
  .exact .inr (K.h0 q)
 have y6:i<env.length:=by
  rcases aa4 i env.length with q|q
  .exact q
  .rw[aaq q]at hi;cases hi
 suffices S:Slots M Z F' σ H' (env.set i (some ⟨kd,c'⟩)) (λj=>if j=i then l' else fp j)from ⟨⟨Gc,λb o h1 h2=>kp b o (K.sG b o h1 h2) λz=>(wr b z).elim h2 λq=>(by rw[q]at h1;cases h1),λb h=>pr b (K.pr b h),ah K.gr sF,λa h=>(nw a h).elim (K.nw a) λq=>.inr (K.h0 q),by simp[K.len],_,S⟩,S⟩
 refine⟨λj s e=>?_,λj b h=>?_,λj j2 b KS h z=>?_,λj b s e1 e2 e3=>?_⟩
 .by_cases q:j=i
  .subst q
   rw[abC]at e
   simp only[if_true,y6]at e
   cases e
   exact⟨_,hv,by rw[if_pos rfl];exact .inr (.inr (.inl ⟨hk,a,rfl,RO,ho⟩))⟩
  .rw[aaD (abO q)]at e
   obtain⟨v,h1,h2⟩:=L.at' j s e
   have h3:=h2.mono (H':=H') sF λc hc=>by
    obtain⟨o,ho⟩:=bP (L.al j c hc).1
    rw[ho]
    exact kp c o ho (L.dj j i c q hc)
   exact⟨v,h1,by rw[if_neg q];exact h3⟩
 .by_cases q:j=i
  .rw[if_pos q]at h;exact hl b h
  .rw[if_neg q]at h
   have:=L.al j b h
   refine⟨pr b this.1,?_⟩
   cases e:F' b with
   |none=>rfl
   |some o=>
    rcases nw b (by rw[e];simp)with y|y
    .exact absurd this.2 y
    .exact absurd y this.1
 .have Ma:∀j,j≠i->b∈l'->b∈fp j->False:=λj hj m1 m2=>by
   rcases hn b m1 with y|y
   .exact L.dj j i b hj m2 y
   .exact(L.al j b m2).1 y
  by_cases q:j=i
  .rw[if_pos q]at h
   rw[if_neg (λy=>KS (q.trans y.symm))]at z
   exact Ma j2 (λy=>KS (q.trans y.symm)) h z
  .rw[if_neg q]at h
   by_cases q2:j2=i
   .rw[if_pos q2]at z;exact Ma j q z h
   .rw[if_neg q2]at z;exact L.dj j j2 b KS h z
 .by_cases q:j=i
  .subst q
   rw[abC]at e2
   simp only[if_true,y6]at e2
   cases e2
   exact L.oa j b _ e1 hi e3
  .rw[aaD (abO q)]at e2
   exact L.oa j b s e1 e2 e3
theorem tK(i:Nat){y:Str}(F:yd X.prog X.w X.K X.mg X.base yQ k Ad fd ps (G5 (md ob X) n DO))(hr:yj k X.A)(hm:X.mg x=some (.ref Ad))(hk:abw X.K (.ref Ad)=true)(hb:Binds X.K fd ps [])(ho:PE X (.Name y p1) (yK i))(ha:DP ob X es fa)(hn:es.length+1=n:=by rfl)(hg:Gl X x:=by rfl)
  (A9:(x==("__debug__" : Str))=false:=by decide) (he:aai (.Name y p1::es) X.env=(false,eval (.Name y p1) X.env)::aai es X.env:=by rfl) (Ag:(backTo pos (aai es X.env)).any (·.1)=false:=by rfl) :
  yA ob X (.Call (.Name x p) (.Name y p1::es) [] pos) (yh DO i fa):=by
 obtain⟨t,ht,kt⟩:=ha.ex
 refine⟨_,cU (E:=E0) F hr hg hm hk hb .nil CC (aM ho ht he) A9 he Ag,λZ F σ H env P Q K hf kk=>?_⟩
 obtain⟨h0,hf⟩:=hf
 obtain⟨w,hw⟩:∃v,σ[i]?=some (some v):=by
  cases e:env[i]? with
  |none=>rw[e]at h0;cases h0
  |some w=>
   cases w with
   |none=>rw[e]at h0;cases h0
   |some s=>
    obtain⟨fp,L⟩:=K.sl
    obtain⟨v,hv,_⟩:=L.at' i s e
    exact⟨v,hv⟩
 refine⟨w,hw,kt Z F σ H env _ _ K hf λxs e1 vs F1 H1 p hl s1 K1 r1=>?_⟩
 show G5 (md ob X) n DO ((w::vs)++[]) H1 Q E0
 rw[abb]
 have fin:∀(kd:Nat) (c:PV),kd=2\/kd=4->e1[i]?=some (some ⟨kd,c⟩)->DO c xs (λr c'=>P r (e1.set i (some ⟨kd,c'⟩)))->G5 (md ob X) n DO (w::vs) H1 Q E0:=λkd c HH ei p=>by
  obtain⟨fp,L⟩:=K1.sl
  obtain⟨v0,CJ,ok⟩:=L.at' i _ ei
  rw[hw]at CJ;cases CJ
  rcases ok with ⟨k0,_⟩|⟨k0,_⟩|⟨_,a,rfl,_,ho⟩|⟨k0,_⟩
  .rcases HH with rfl|rfl<;>cases k0
  .rcases HH with rfl|rfl<;>cases k0
  .refine⟨F1,a,fp i,c,vs,xs,_,rfl,K1.sF,r1,by rw[hl];exact hn,ho,λb hb=>L.al i b hb,p,λr c' v F' H' l' pr kp pre sF Gc nw Di Fk HE rv=>?_⟩
   exact kk r _ v F' H' pr (ah s1 sF) (K1.Hw HH L ei hw kp pre sF Gc nw Di Fk HE).1 rv
  .rcases HH with rfl|rfl<;>cases k0
 split at p
 .rename_i ei;exact fin _ _ (.inl rfl) ei p
 .rename_i ei;exact fin _ _ (.inr rfl) ei p
 .exact p.elim
theorem aX{D':Fd}(F:yd P w K mg base yQ k Ad fd ps (CU ⟨P,w,K,ob⟩ n D))(h:∀xs P,D' xs P->D xs P):yd P w K mg base yQ k Ad fd ps (CU ⟨P,w,K,ob⟩ n D') :=
 F.imp λvs H Q E ⟨F,xs,P,a,b,c,d,e⟩=>⟨F,xs,P,a,b,c,h _ _ d,e⟩
theorem gR{D D':BO}(F:yd P w K mg base yQ k Ad fd ps (G5 ⟨P,w,K,ob⟩ n D))(h:∀c xs P,D' c xs P->D c xs P):yd P w K mg base yQ k Ad fd ps (G5 ⟨P,w,K,ob⟩ n D') :=
 F.imp λvs H Q E q=>by
  obtain⟨F,a,l,c,ws,xs,P,a1,a2,a3,a4,a5,a6,a7,a8⟩:=q
  exact⟨F,a,l,c,ws,xs,P,a1,a2,a3,a4,a5,a6,h _ _ _ a7,a8⟩
theorem KL(r:yj k A):A.units+1<cLine:=by have:=r.un;omega
theorem zI(r:yj k A):A.units<cLine:=by have:=r.un;omega
theorem AB(r:yj k A):A.units+60<cLine:=by have:=r.un;omega
theorem Ca(r:yj k A):A.units+62<cLine:=by have:=r.un;omega
def IS:PV->Option String
 |.lT=>some "NoneType"
 |.bl _=>some "bool"
 |.int _=>some "int"
 |.str _=>some "str"
 |.tup _=>some "tuple"
 |.lst _=>some "list"
 |.yw _=>some "dict"
 |_=>none
def Fg(T c:String):Bool:=T==c || (T == "bool" && c == "int")
def Gw(c:String)(x:PV):Option PV:=(IS x).map λT=>.bl (Fg T c)
def Cw(c:String)(a:WE):WE:=RF (Gw c) a
theorem wS{x:PV}{T:String}(h:IS x=some T)(c:String)(hc:c = "str" \/ c = "tuple" \/ c = "int" \/ c = "bool" \/ c = "list" \/ c = "dict"):ad6 K (.type T) (.type c)=some (Fg T c):=by
 cases x<;>cases h<;>rcases hc with rfl|rfl|rfl|rfl|rfl|rfl<;>rfl
def Ij(K:aag)(cl:String):List V->Hp->VK->Prop:=λxs H Q=>LJ K xs H Q\/∃p vs,xs=[.ref p,.ty cl]/\zg K H p vs/\ad6 K (.type "tuple") (.type cl)=some (Fg "tuple" cl)/\Q (.bl (Fg "tuple" cl)) H
theorem xE{cl:String}:yq X (.builtin "isinstance") (Ij X.K cl):=by
 refine yq.or tQ ?_
 intro pins s σ H xs us Q I r h
 obtain⟨p,vs,rfl,hp,hk,q⟩:=h
 cases r with
 |cons r1 r2=>
  cases r2 with
  |cons r2 r3=>
   cases r3
   cases r2
   cases r1
   obtain⟨gE,_,⟨o,h1,h2,_⟩,_⟩:=I.tuple hp
   exact abr PySem.W.kitx_tuple I.CI ⟨o,h1,h2⟩ hk (λz=>nomatch z) λtk=>⟨.bl _,H,I.tok tk,rfl,q⟩
theorem cE(cl:String){T:Str}(hc:cl = "str" \/ cl = "tuple" \/ cl = "int" \/ cl = "bool" \/ cl = "list" \/ cl = "dict")(hm:X.mg "isinstance" = none)(hT:X.mg T=none)(hb:acg T=some (.type cl))(ha:Co ob X a f)(hg:Gl X "isinstance" :=by rfl)(S6:Gl X T:=by rfl)(hn:T ≠ "__name__" :=by decide)(A9:(T==("__debug__" : Str))=false:=by decide)
  (he:aai [a,.Name T p1] X.env=(false,eval a X.env)::aai [.Name T p1] X.env:=by rfl) (PN:aai [.Name T p1] X.env=(false,eval (.Name T p1) X.env)::aai [] X.env:=by rfl) (Ag:(backTo pos (aai [.Name T p1] X.env)).any (·.1)=false:=by rfl) :
  yA ob X (.Call (.Name "isinstance" p) [a,.Name T p1] [] pos) (Cw cl f):=by
 obtain⟨t,ht,k⟩:=ha.ex
 refine⟨_,bT (xE (cl:=cl)) hg hm boot_isinstance (aM ht (aM (uD (v:=.ty cl) S6 hT hb rfl hn A9) aW PN) he) (by decide) (by decide) he Ag,λZ F σ H env P Q K hf kk=>k Z F σ H env _ _ K hf λx e1 v F1 H1 p s1 K1 r1=>?_⟩
 obtain⟨z,hz,p⟩:=p
 unfold Gw at hz
 rw[aap]at hz
 obtain⟨T',NT,rfl⟩:=hz
 have fin:∀w,Rep X.K F1 w (.bl (Fg T' cl))->Q w H1:=λw r=>kk _ e1 _ F1 H1 p s1 K1 r
 have q:=fin _ (.bl _)
 have kt:=wS (K:=X.K) NT cl hc
 show Ij X.K cl [v,.ty cl] H1 Q
 cases x<;>cases NT
 .rw[r1.lT];exact .inl ⟨_,_,_,_,rfl,.lT,kt,q⟩
 .rw[r1.bl];exact .inl ⟨_,_,_,_,rfl,.bl _,kt,q⟩
 .rw[r1.int];exact .inl ⟨_,_,_,_,rfl,.int _,kt,q⟩
 .rw[r1.str];exact .inl ⟨_,_,_,_,rfl,.str _,kt,q⟩
 .obtain⟨q',vs,rfl,h1,h2⟩:=r1.tup K1.sF
  exact .inr ⟨q',vs,rfl,h1,kt,q⟩
 .obtain⟨q',vs,rfl,h1,h2⟩:=r1.lst K1.sF
  exact .inl ⟨_,_,_,_,rfl,.lst h1,kt,q⟩
 .obtain⟨q',vs,rfl,h1,h2⟩:=r1.yw K1.sF
  exact .inl ⟨_,_,_,_,rfl,.dK h1,kt,q⟩
def Kj(o o':PV->PV->Option PV)(fa fb fc:WE):WE:=λenv P=>fa env λx e1=>fb e1 λy e2=>opt (o x y) λz=>opt (Cy z) λk=>if k=true then fc e2 λw e3=>opt (o' y w) λz'=>P z' e3 else P (.bl false) e2
variable{c:WT}
theorem x3.Li{v:V}{x:PV}(K:x3 M Z F (σ++[some v]) H (env++[some ⟨1,x⟩]))(hx:∀xs,x≠.set xs):∃F',dO F F'/\x3 M Z F' (σ.set i (some v)) H (env.set i (some ⟨0,x⟩)):=by
 obtain⟨F',s,K',r⟩:=K.EY hx
 exact⟨F',s,K'.put r⟩
theorem xm(i:Nat){y:Str}(hN:X.N.Nodup)(hy:X.N[i]?=some y)(hk:X.env.scope.names.lookup y=some .local)(hi:G3 ob X tg iter fi)(hg:∀C s₀ H₀ ex pn,PG (rW X scope N C s₀ H₀ ex pn) tg (DV X.K T))(ht:∀C s₀ H₀ ex pn,Lf ob (rW X scope N C s₀ H₀ ex pn) ifs c)(he:∀C s₀ H₀ ex pn,yA ob (rW X scope N C s₀ H₀ ex pn) elt f)
  (hj:Dw js=true:=by rfl) (hT:AK js T=true:=by rfl)
  (GD:ab9 (.ListComp elt [⟨tg,iter,ifs,0⟩] scope pos) (some (.Name y py)) za.line X.env=pure true:=by rfl)
  (hc:X.calm=true:=by rfl) (hx:X.xe=(λ_ _=>False):=by rfl) (Bf:Bh X.env scope=true:=by rfl) (yT:zE X.N scope N js=true:=by rfl) (yt:scope.kind=.function:=by rfl) (hs:∀x,aa0 iter X.env x=pure x:=by intro _;rfl) :
  BR ob X (.Assign [.Name y py] (.ListComp elt [⟨tg,iter,ifs,0⟩] scope pos) za) (yz i (HQ fi T c f js)):=by
 obtain⟨wi,GB,k⟩:=hi.ex
 refine⟨_,xK (i:=i) (wi:=wi) (g:=DV X.K T) (tc:=Jn (md ob X) c) (te:=G6 (md ob X) f) (js:=js) hN hy hk GB hg (λC s₀ H₀ ex pn=>(ht C s₀ H₀ ex pn).ex) (λC s₀ H₀ ex pn=>(he C s₀ H₀ ex pn).pe) (cq hT) GD hc hx Bf yT yt hs,λZ F σ H env P D K hf L=>?_⟩
 refine k Z F σ H env _ _ K hf λxs e1 J F1 H1 p s1 K1 I1 l hl=>?_
 refine oh (P:=λx e=>P.nx (e.set i (some ⟨0,x⟩))) (Q:=λv H'=>D.nx (σ.set i (some v)) H') hj hT K1 I1 p (λx e2 v F2 H2 p2 s2 G9 K2=>?_) l hl
 obtain⟨F3,s3,K3⟩:=K2.Li (i:=i) G9
 exact L.nx _ _ F3 H2 p2 (ah s1 (ah s2 s3)) K3
def FY(a:WE):WS:=λP env=>a env P.rf
variable{c:Expr}
theorem vC(h:E5 ob X e f):BR ob X (.Return (some e) pos) (FY f):=by
 obtain⟨t,ht,k⟩:=h.ex
 exact⟨_,eh ht,λZ F σ H env P D K hf L=>k Z F σ H env _ _ K hf λx e1 v F1 H1 p s1 hx K1=>L.rf x e1 v σ F1 H1 p s1 hx K1⟩
def Kz(M:Md)(n:Nat)(D:Fd):Sp:=λvs H Q _=>∃(F:Hp) (xs:List PV) (P:PV->Prop),dO F H/\oF M.K F vs xs/\xs.length=n/\D xs P /\
 ∀r a F' H',P r->dO H H'->dO F F'->dO F' H'->(∀a,F' a≠none->F a≠none\/H a=none)->(∀xs,r≠.set xs)->zF M F' H' a r->F' a=none->H a=none->Q (.ref a) H'
def Kg(P:PV->Prop):Wd:={nx:=λ_=>False,rt:=λ_ _=>False,rf:=λx _=>P x}
def Hu(n:Nat)(u:WS):Fd:=λxs P=>u (Kg P) (yE n xs)
theorem sW{v:V}{x:PV}(K:x3 M Z F (σ++[some v]) H (env++[some ⟨1,x⟩])):∃a fp,v=.ref a/\zF M F H a x/\F a=none/\Z.H₀ a=none/\Slots M Z F σ H env fp/\∀i,i<env.length->a∉fp i:=by
 have hn:env.length=σ.length:=by have:=K.len;simpa using this
 obtain⟨fp,L⟩:=K.sl
 rcases L.last hn with ⟨e,_⟩|⟨_,a,rfl,hf,h0,hw⟩|⟨e,_⟩|⟨e,_⟩
 .cases e
 .have ha:=L.al env.length a (by rw[hf];simp)
  exact⟨a,fp,rfl,hw,ha.2,h0,L.drop hn,λi hi z=>L.dj env.length i a (by omega) (by rw[hf];simp) z⟩
 .rcases e with e|e<;>cases e
 .cases e
theorem xk{f:Addr}(F:EC K x qual st f fd)(S:az N ps (aq st))(hn:ps.length<=N.length)
  (hb:∀(yx:Value) (A:Around) (outer:List Env) (s:Shared) (H:Hp) (E:XK),yj k (A.deeper (envOfC qual (aq st) s.heap.objs.size f yx))->Bx ob (BM yQ P w K mg base N qual (aq st) f yx A outer s H E).Gk (bc st) u) :
  yd P w K mg base yQ (k+1) f fd ps (Kz ⟨P,w,K,ob⟩ ps.length (Hu N.length u)):=by
 refine F.ok S (λvs H Q E h=>?_) (λyx A outer s H vs Q E hr h=>?_)
 .obtain⟨F,xs,P,_,r,hl,_⟩:=h
  rw[r.len];exact hl
 .obtain⟨F,xs,P',sF,r,hl,hD,kk⟩:=h
  obtain⟨t,ht,kt⟩:=(hb yx A outer s H E hr).ex
  refine⟨t,ht,kt ⟨H,F,[],λ_=>none,λ_ h=>by simp at h⟩ F (start N vs) H (yE N.length xs) (Kg P') _ (fW (M:=⟨P,w,K,ob⟩) sF r (by omega)) hD ⟨λ_ _ _ _ p=>p.elim,λ_ _ _ _ _ _ p=>p.elim,λ_ _ _ _ p=>p.elim,λ_ _ _ _ p=>p.elim,λx env v σ F' H' p s1 hx K1=>?_,λ_ _ _ _ _ _ _ p=>p.elim⟩⟩
  obtain⟨a,fp,rfl,h1,h2,h3,_⟩:=sW K1
  exact kk x a F' H' p (λb o h=>K1.sG b o h (by simp)) s1 K1.sF K1.nw hx h1 h2 h3
theorem mO(F:yd X.prog X.w X.K X.mg X.base yQ k Ad fd ps (Kz (md ob X) n D))(hr:yj k X.A)(hm:X.mg x=some (.ref Ad))(hk:abw X.K (.ref Ad)=true)(hb:Binds X.K fd ps [])(ha:DP ob X (e::es) fa)(hn:es.length+1=n:=by rfl)(hg:Gl X x:=by rfl)
  (A9:(x==("__debug__" : Str))=false:=by decide) (he:aai (e::es) X.env=(false,eval e X.env)::aai es X.env:=by rfl) (Ag:(backTo pos (aai es X.env)).any (·.1)=false:=by rfl) :
  E5 ob X (.Call (.Name x p) (e::es) [] pos) (yu D fa):=by
 obtain⟨t,ht,kt⟩:=ha.ex
 refine⟨_,cU (E:=E0) F hr hg hm hk hb .nil CC ht A9 he Ag,λZ F σ H env P Q K hf kk=>kt Z F σ H env _ _ K hf λxs e1 vs F1 H1 p hl s1 K1 r1=>?_⟩
 rw[abb]
 refine⟨F1,xs,λr=>P r e1,K1.sF,r1,by rw[hl];exact hn,p,λr a F' H' pr sH sF Gc nw hx ho hF ha=>?_⟩
 refine kk r e1 _ F' H' pr (ah s1 sF) hx ?_
 have K2:=K1.move sF Gc sH nw
 obtain⟨fp,L⟩:=K1.sl
 have L2:Slots (md ob X) Z F' σ H' e1 fp:=L.move sF (λ_ c o _ e=>sH c o e) nw
 refine K2.slots (by simp[K2.len]) (L2.push (l:=[a]) (by simp) K2.len (.inr (.inl ⟨rfl,a,rfl,rfl,K1.h0 ha,ho⟩)) (λb hb=>?_) λj b hb hj=>?_)
 .simp at hb;subst hb
  refine⟨?_,hF⟩
  cases r<;>try exact ho.elim
  .obtain⟨vs,h,_⟩:=ho;rw[h];simp
  .obtain⟨vs,h,_⟩:=ho;rw[h];simp
  .rw[show H' _=_ from ho];simp
 .simp at hb;subst hb
  exact(L.al j b hj).1 ha
end Q
namespace L2
open PySem PySem.Spec PyProof.Rows PySem.W
def zo(P:Addr)(ps:Array Value):HO:=.ext λh=>h.get? P=some (tabObj ps)
def zA(c:Addr)(lq:Str):HO:=.ext λh=>h.CodeRec (.ref c) lq
variable{P:aaE}{w:World}{H:Hp}{h:Heap}{a:Addr}
theorem lM{ps:Array Value}(e:h.get? a=some (tabObj ps)):yk P w H h a (zo a ps):=⟨e,⟨_,e⟩,λh1 h2 x k=>k _ x⟩
end L2
namespace Pre
open PySem L2
structure Dg(H:Hp)(a b:Addr):Prop where
 st:∃(ns:List Int) (z:Int),H a=some (.lst [.ref b,.int z])/\H b=some (.lst (ns.map V.int))/\(∀n∈ns,0<=n)/\0<=z/\z<2305843009213693951
def DT(a b:Addr)(H H':Hp):Prop:=∀c o,H c=some o->c≠a->c≠b->H' c=some o
theorem DT.refl(a b:Addr)(H:Hp):DT a b H H:=λ_ _ h _ _=>h
variable{H:Hp}{a b:Addr}
theorem Dg.ne(s:Dg H a b):a≠b:=by
 obtain⟨ns,z,h1,h2,_⟩:=s.st
 refine pD h1 h2 λe=>?_
 injection e with e
 cases ns with
 |nil=>cases e
 |cons n r=>injection e with e _;cases e
variable{o:HO}
theorem Dg.grow{p:Addr}(s:Dg H a b)(hp:H p=none):Dg (upd H p o) a b:=by
 obtain⟨ns,z,h1,h2,h3⟩:=s.st
 exact⟨ns,z,by rw[af (av h1 hp)];exact h1,by rw[af (av h2 hp)];exact h2,h3⟩
variable{H':Hp}
theorem DT.grow{p:Addr}(x:DT a b H H')(hp:H' p=none):DT a b H (upd H' p o):=λc u h h1 h2=>by
 have q:=x c u h h1 h2
 rw[af (av q hp)];exact q
theorem DT.Je(x:DT a b H H'):DT a b H (upd H' a o):=λc u h h1 h2=>by rw[af h1];exact x c u h h1 h2
theorem DT.Hs(x:DT a b H H'):DT a b H (upd H' b o):=λc u h h1 h2=>by rw[af h2];exact x c u h h1 h2
theorem Dg.Hs{ns:List Int}(s:Dg H a b)(hn:∀n∈ns,0<=n):Dg (upd H b (.lst (ns.map V.int))) a b:=by
 have hne:=s.ne
 obtain⟨_,z,h1,h2,_,h3⟩:=s.st
 exact⟨ns,z,by rw[af hne];exact h1,ai,hn,h3⟩
theorem Dg.Je{z:Int}(s:Dg H a b)(h0:0<=z)(h1:z<2305843009213693951):Dg (upd H a (.lst [.ref b,.int z])) a b:=by
 have hne:=s.ne
 obtain⟨ns,_,_,h2,h3,_⟩:=s.st
 exact⟨ns,z,ai,by rw[af hne.symm];exact h2,h3,h0,h1⟩
def stK(b:Addr)(left seed many:Int):List (Key×V):=[(.inr (aaF "cells"),.ref b),(.inr (aaF "left"),.int left),(.inr (aaF "seed"),.int seed),(.inr (aaF "many"),.int many)]
structure Ux(H:Hp)(a b:Addr)(f:Nat):Prop where
 st:∃(ns:List Int) (left seed many:Int),H a=some (.dK (stK b left seed many))/\H b=some (.lst (ns.map V.int))/\0<=left/\0<=seed/\seed<2305843009213693951/\0<=many/\many+f<=1152921504606846976
def gG(K:aag):Sp:=λvs H Q _=>∃(s:Addr) (ns:List Int),vs=[.ref s]/\zp K H s (ns.map V.int)/\ns.length<=63/\∀(a b:Addr) (H':Hp),H a=none->H b=none->Dg H' a b->dO H H'->Q (.ref a) H'
def FT:Sp:=λvs H Q _=>∃(a b:Addr) (m:Int),vs=[.ref a,.int m]/\Dg H a b/\0<m/\m<1073741824/\∀(r:Int) (H':Hp),0<=r->r<m->Dg H' a b->DT a b H H'->Q (.int r) H'
end Pre
namespace Q
open PySem L2 PyProof.Rows
def IJ(K:aag)(F H:Hp)(a:Addr)(l:List Addr)(x:PV):Prop:=∃ks:List (Key×Addr×List PV),x=.yw (ks.map λt=>(t.1,.lst t.2.2))/\l=a::ks.map (·.2.1)/\H a=some (.dK (ks.map λt=>(t.1,.ref t.2.1))) /\
 (ks.map (·.2.1)).Nodup/\∀t∈ks,∃vs,H t.2.1=some (.lst vs)/\oF K F vs t.2.2
def yY(lq:Str)(ln co:Nat)(P:Addr):PV:=.tup [.str lq,.int ln,.int co,.int (P:Nat)]
def TabAt(H:Hp)(a:Addr)(l:List Addr)(x:PV):Prop:=∃(lq:Str) (ln co:Nat) (ps:Array Value),x=yY lq ln co a/\H a=some (zo a ps)/\PySem.TriplesOk ps.toList /\
 ((l=[a]/\acz ⟨ln,co,0,0⟩ ps.toList=none)\/∃c',c'≠a/\l=[a,c']/\acz ⟨ln,co,0,0⟩ ps.toList=some (.ref c')/\H c'=some (zA c' lq))
def Ko(H:Hp)(a:Addr)(l:List Addr)(x:PV):Prop:=∃(x1 x2:PV) (T2:Addr) (l1 l2:List Addr),x=.tup [x1,x2]/\l=l1++l2/\TabAt H a l1 x1/\TabAt H T2 l2 x2/\∀b∈l1,b∉l2
variable{H H':Hp}{a:Addr}{l:List Addr}{x:PV}
theorem TabAt.mono(h:TabAt H a l x)(e:∀b∈l,H' b=H b):TabAt H' a l x:=by
 obtain⟨lq,ln,co,ps,rfl,h1,h2,h3⟩:=h
 refine⟨lq,ln,co,ps,rfl,?_,h2,?_⟩
 .rcases h3 with ⟨rfl,_⟩|⟨c',_,rfl,_⟩
  .exact(e a (by simp)).trans h1
  .exact(e a (by simp)).trans h1
 .rcases h3 with ⟨rfl,h4⟩|⟨c',h4,rfl,h5,h6⟩
  .exact .inl ⟨rfl,h4⟩
  .exact .inr ⟨c',h4,rfl,h5,(e c' (by simp)).trans h6⟩
def MZ(H:Hp)(a:Addr)(l:List Addr)(x:PV):Prop:=(x=.lT/\∃b,l=[a,b]/\Pre.Dg H a b)\/∃(f:Nat) (b:Addr),x=.int f/\l=[a,b]/\Pre.Ux H a b f
def zW(K:aag):zl where
 P:=λF H a l x=>MZ H a l x\/IJ K F H a l x\/TabAt H a l x\/Ko H a l x
 mono:=λF F' H H' a l x h s e=>by
  rcases h with (⟨h0,b,rfl,ns,z,h1,h2,h3⟩|⟨f,b,h0,rfl,ns,q1,q2,q3,h1,h2,h3⟩)|⟨ks,rfl,rfl,h1,h2,h3⟩|ht|⟨x1,x2,T2,l1,l2,rfl,rfl,h1,h2,h3⟩
  .exact .inl (.inl ⟨h0,b,rfl,ns,z,(e a (by simp)).trans h1,(e b (by simp)).trans h2,h3⟩)
  .exact .inl (.inr ⟨f,b,h0,rfl,ns,q1,q2,q3,(e a (by simp)).trans h1,(e b (by simp)).trans h2,h3⟩)
  .refine .inr (.inl ⟨ks,rfl,rfl,(e a (by simp)).trans h1,h2,λt ht=>?_⟩)
   obtain⟨vs,q1,q2⟩:=h3 t ht
   exact⟨vs,(e _ (aar _ (abv (f:=λt=>t.2.1) ht))).trans q1,q2.mono s⟩
  .exact .inr (.inr (.inl (ht.mono e)))
  .exact .inr (.inr (.inr ⟨x1,x2,T2,l1,l2,rfl,rfl,h1.mono λb hb=>e b (abo _ hb),h2.mono λb hb=>e b (aat _ hb),h3⟩))
def aE:BO:=λc xs P=>c=.lT/\∃m:Int,xs=[.int m]/\0<m/\m<1073741824/\∀r:Int,0<=r->r<m->P (.int r) .lT
variable{b:Addr}
theorem nL(s:Pre.Dg H a b):H a≠none/\H b≠none:=by
 obtain⟨ns,z,h1,h2,_⟩:=s.st
 exact⟨by rw[h1];simp,by rw[h2];simp⟩
variable{P:aaE}{w:World}{K:aag}{mg:Str->Option Value}{base:Heap}{k:Nat}{Ad:Addr}{fd:abz}{ps:List Str}
theorem sN(F:yd P w K mg base yQ k Ad fd ps Pre.FT):yd P w K mg base yQ k Ad fd ps (G5 ⟨P,w,K,zW K⟩ 2 aE):=by
 refine F.imp λvs H Q E h=>?_
 obtain⟨F,a,l,c,ws,xs,P',rfl,sF,r,hl,ho,hb,⟨rfl,m,rfl,m0,m1,hP⟩,kk⟩:=h
 obtain⟨b,rfl,S⟩:∃b,l=[a,b]/\Pre.Dg H a b:=by
  rcases ho with (⟨_,h⟩|⟨_,_,h,_⟩)|⟨ks,h,_⟩|⟨_,_,_,_,h,_⟩|⟨_,_,_,_,_,h,_⟩
  .exact h
  .cases h
  .cases h
  .cases h
  .cases h
 cases r with
 |cons r1 r2=>
  cases r2
  cases r1
  refine⟨a,b,m,rfl,S,m0,m1,λr H' r0 r1 S' hB=>?_⟩
  have two:=nL S'
  have keep:∀c o,H c=some o->c∉[a,b]->H' c=some o:=λc o h hn=>by
   simp at hn
   exact hB c o h hn.1 hn.2
  refine kk (.int r) .lT (.int r) F H' [a,b] (hP r r0 r1) keep (λc h=>?_) am (λc o h=>?_) (λc h=>.inl h) (.inl (.inl ⟨rfl,b,rfl,S'⟩)) (λc hc=>?_) (λc hc=>.inl hc) (.int r)
  .by_cases q:c∈[a,b]
   .simp at q
    rcases q with rfl|rfl
    .exact two.1
    .exact two.2
   .obtain⟨o,ho⟩:=bP h
    rw[keep c o ho q];simp
  .refine keep c o (sF c o h) λq=>?_
   have:=(hb c q).2
   rw[h]at this;cases this
  .refine⟨?_,(hb c hc).2⟩
   simp at hc
   rcases hc with rfl|rfl
   .exact two.1
   .exact two.2
def zH(i j:Nat):WS:=λP env=>match env[j]? with
 |some (some ⟨0,x⟩)=>(∃ns:List Int,(x=.Ap ns\/x=.lst (ns.map .int))/\ns.length<=63)/\P.nx (env.set i (some ⟨4,.lT⟩))
 |_=>False
variable{F:Hp}{ns:List Int}{vs:List V}
theorem lS(h:oF K F vs (ns.map PV.int)):vs=ns.map V.int:=by
 induction ns generalizing vs with
 |nil=>cases h;rfl
 |cons n ns ih=>cases h with
  |cons a r=>cases a;exact congrArg (List.cons _) (ih r)
variable{X:Cx}{x y:Str}{p p1 pos pos':Pos}
theorem tF(i j:Nat)(hN:X.N.Nodup)(hi:X.N[i]?=some y)(hx:Loc X.env.scope y)(F:yd X.prog X.w X.K X.mg X.base yQ k Ad fd ps (Pre.gG X.K))(hr:yj k X.A)(hm:X.mg "_law_begin" = some (.ref Ad))(hk:abw X.K (.ref Ad)=true)(hb:Binds X.K fd ps [])(ho:PE X (.Name x p1) (yK j))
  (hg:Gl X "_law_begin" :=by rfl) (he:aai [.Name x p1] X.env=(false,eval (.Name x p1) X.env)::aai [] X.env:=by rfl) (Ag:(backTo pos (aai [] X.env)).any (·.1)=false:=by rfl)
  {za:Pos} (hs:ab9 (.Call (.Name "_law_begin" p) [.Name x p1] [] pos) (some (.Name y pos')) za.line X.env=pure false:=by rfl) (hf:X.fn y=true\/X.env.scope.names.lookup y=some .local:=by first|exact .inl rfl|exact .inr rfl|assumption) :
  BR (zW X.K) X (.Assign [.Name y pos'] (.Call (.Name "_law_begin" p) [.Name x p1] [] pos) za) (zH i j):=by
 refine⟨_,ee hN hi hx (cU (E:=E0) F hr hg hm hk hb .nil CC (aM ho aW he) (by decide) he Ag) hs hf,λZ F σ H env P D K hf L=>?_⟩
 unfold zH at hf
 split at hf
 .rename_i v ej
  obtain⟨⟨ns,hv,hn⟩,hp⟩:=hf
  obtain⟨w,hw,r⟩:=K.val ej
  obtain⟨s,rfl,hs⟩:∃s,w=.ref s/\zp X.K H s (ns.map V.int):=by
   rcases hv with rfl|rfl
   .cases r with
    |Ap h=>exact⟨_,rfl,cQ K.sF h.sq⟩
   .cases r with
    |lst h1 h2=>
     have:=lS h2
     subst this
     exact⟨_,rfl,.inl (.inl (K.sF _ _ h1))⟩
  refine⟨_,hw,s,ns,rfl,hs,hn,λa b H' ha hb S sH=>?_⟩
  have Tq:F a=none:=dO.none_of K.sF ha
  have Tp:F b=none:=dO.none_of K.sF hb
  have K1:x3 (md (zW X.K) X) Z F σ H' env:=K.move am (ah K.sF sH) sH λ_ h=>.inl h
  obtain⟨fp,L0⟩:=K.sl
  have L1:Slots (md (zW X.K) X) Z F σ H' env fp:=L0.move am (λ_ c o _ e=>sH c o e) λ_ h=>.inl h
  have two:=nL S
  refine L.nx _ _ F H' hp am ?_
  rcases aa4 i env.length with y6|FE
  case inr=>
   rw[abl FE,abl (by have:=K.len;omega)]
   exact K1
  refine K1.slots (by simp[K.len]) (L1.put (l:=[a,b]) (by simp) (by have:=K.len;omega) (.inr (.inr (.inl ⟨.inr rfl,a,rfl,λc hc=>.inr ?_,   .inl (.inl ⟨rfl,b,rfl,S⟩)⟩))) (λc hc=>?_) λj c _ hc hj=>?_)
  .simp at hc
   rcases hc with rfl|rfl
   .exact K.h0 ha
   .exact K.h0 hb
  .simp at hc
   rcases hc with rfl|rfl
   .exact⟨two.1,Tq⟩
   .exact⟨two.2,Tp⟩
  .have:=(L0.al j c hj).1
   simp at hc
   rcases hc with rfl|rfl
   .exact this ha
   .exact this hb
 .exact hf.elim
variable{M:Md}{Z:Zn}{σ:L2.St}{env:En}{p:Addr}{o:HO}
theorem vR:∀b∈Z.S,upd Z.H₀ p o b≠none:=λb hb=>by
 by_cases e:b=p
 .subst e;rw[ai];simp
 .rw[af e];exact Z.sS b hb
def Zn.add(Z:Zn)(p:Addr)(o:HO):Zn:={Z with H₀:=upd Z.H₀ p o,sS:=vR}
theorem x3.guard(K:x3 M Z F σ H env)(hp:H p=none):x3 M (Z.add p o) F σ (upd H p o) env:=by
 have hF:F p=none:=dO.none_of K.sF hp
 have h0:Z.H₀ p=none:=K.h0 hp
 have hS:p∉Z.S:=λh=>Z.sS p h h0
 obtain⟨fp,L⟩:=K.sl
 have hn:∀i,p∉fp i:=λi h=>(L.al i p h).1 hp
 obtain⟨K1,L1⟩:=K.AZ (o:=o) L hF h0 hn
 have ne:∀{c:Addr},Z.H₀ c=none->c≠p->(Z.add p o).H₀ c=none:=λ{c} h q=>by show upd Z.H₀ p o c=none;rw[af q];exact h
 refine⟨K1.sF,λb u h1 h2=>?_,λb h=>?_,K1.gr,λa h=>?_,K1.len,fp,λi s e=>?_,L1.al,L1.dj,L1.oa⟩
 .by_cases q:b=p
  .subst q
   have h1:upd Z.H₀ b o b=some u:=h1
   rw[ai]at h1 ⊢;exact h1
  .have h1:upd Z.H₀ p o b=some u:=h1
   rw[af q]at h1
   exact K1.sG b u h1 h2
 .by_cases q:b=p
  .subst q;rw[ai];simp
  .have h:upd Z.H₀ p o b≠none:=h
   rw[af q]at h
   exact K1.pr b h
 .rcases K1.nw a h with q|q
  .exact .inl q
  .refine .inr (ne q λz=>?_)
   subst z;exact h hF
 .obtain⟨v,hv,ok⟩:=L1.at' i s e
  refine⟨v,hv,?_⟩
  rcases ok with k|⟨k,a,e1,e2,h1,h2⟩|⟨k,a,e1,h1,h2⟩|k
  .exact .inl k
  .exact .inr (.inl ⟨k,a,e1,e2,ne h1 λz=>hn i (by rw[e2,z];simp),h2⟩)
  .exact .inr (.inr (.inl ⟨k,a,e1,λc hc=>(h1 c hc).elim .inl λq=>.inr (ne q λz=>hn i (by rw[<- z];exact hc)),h2⟩))
  .exact .inr (.inr (.inr k))
theorem x3.EH(K:x3 M (Z.add p o) F σ H env)(h0:Z.H₀ p=none)(KY:Z.F₀ p=none):x3 M Z F σ H env/\H p=some o/\F p=none/\∃fp,Slots M Z F σ H env fp/\∀i s,env[i]?=some (some s)->p∉fp i:=by
 have hS:p∉Z.S:=λh=>Z.sS p h h0
 have SH:(Z.add p o).H₀ p=some o:=ai
 have back:∀{c:Addr},(Z.add p o).H₀ c=none->Z.H₀ c=none/\c≠p:=λ{c} h=>by
  have h:upd Z.H₀ p o c=none:=h
  by_cases q:c=p
  .subst q;rw[ai]at h;cases h
  .rw[af q]at h;exact⟨h,q⟩
 have hF:F p=none:=by
  cases e:F p with
  |none=>rfl
  |some u=>
   rcases K.nw p (by rw[e];simp)with q|q
   .exact absurd KY q
   .exact absurd rfl (back q).2
 obtain⟨fp,L⟩:=K.sl
 have S:Slots M Z F σ H env fp:=by
  refine⟨λi s e=>?_,L.al,L.dj,L.oa⟩
  obtain⟨v,hv,ok⟩:=L.at' i s e
  refine⟨v,hv,?_⟩
  rcases ok with k|⟨k,a,e1,e2,h1,h2⟩|⟨k,a,e1,h1,h2⟩|k
  .exact .inl k
  .exact .inr (.inl ⟨k,a,e1,e2,(back h1).1,h2⟩)
  .exact .inr (.inr (.inl ⟨k,a,e1,λc hc=>(h1 c hc).elim .inl λq=>.inr (back q).1,h2⟩))
  .exact .inr (.inr (.inr k))
 have up:∀{b:Addr} {u:HO},Z.H₀ b=some u->(Z.add p o).H₀ b=some u:=λ{b u} h=>by
  show upd Z.H₀ p o b=some u
  rw[af (av h h0)];exact h
 refine⟨⟨K.sF,λb u h1 h2=>K.sG b u (up h1) h2,λb h=>?_,K.gr,λa h=>?_,K.len,fp,S⟩,K.sG p o SH hS,hF,fp,S,λi s e hi=>?_⟩
 .obtain⟨u,hu⟩:=bP h
  exact K.pr b (by rw[up hu];simp)
 .rcases K.nw a h with q|q
  .exact .inl q
  .exact .inr (back q).1
 .obtain⟨v,hv,ok⟩:=L.at' i s e
  rcases ok.wr p hi with q|q
  .exact hS q
  .exact(back q).2 rfl
def tidy(env:En)(fp:Nat->List Addr)(i:Nat):List Addr:=match env[i]? with
 |some (some _)=>fp i
 |_=>[]
variable{fp:Nat->List Addr}
theorem Slots.tidy(L:Slots M Z F σ H env fp):Slots M Z F σ H env (Q.tidy env fp):=by
 have sub:∀i a,a∈Q.tidy env fp i->a∈fp i:=λi a h=>by
  unfold Q.tidy at h
  split at h
  .exact h
  .simp at h
 refine⟨λi s e=>?_,λi a h=>L.al i a (sub i a h),λi j a AR h z=>L.dj i j a AR (sub i a h) (sub j a z),L.oa⟩
 obtain⟨v,hv,ok⟩:=L.at' i s e
 exact⟨v,hv,by unfold Q.tidy;rw[e];exact ok⟩
theorem x3.FK{o':HO}{x:PV}(K:x3 M (Z.add p o) F σ H env)(h0:Z.H₀ p=none)(KY:Z.F₀ p=none)(hx:zF M F (upd H p o') p x):x3 M Z F (σ++[some (.ref p)]) (upd H p o') (env++[some ⟨1,x⟩]):=by
 obtain⟨K1,hp,hF,fp,L,hn⟩:=K.EH h0 KY
 have L1:=L.tidy
 have Rg:∀i,p∉Q.tidy env fp i:=λi h=>by
  unfold Q.tidy at h
  split at h
  .rename_i s e;exact hn i s e h
  .simp at h
 obtain⟨K2,L2⟩:=K1.AZ (o:=o') L1 hF h0 Rg
 refine K2.slots (by simp[K2.len]) (L2.push (l:=[p]) (by simp) K2.len (.inr (.inl ⟨rfl,p,rfl,rfl,h0,hx⟩)) (λa ha=>?_) λj a ha=>?_)
 .simp at ha;subst ha
  exact⟨by rw[ai];simp,hF⟩
 .simp at ha;subst ha
  exact Rg j
def BF:List (Key×PV)->List (Key×PV):=λkvs=>kvs.foldl (λacc kv=>AL acc kv.1 kv.2) []
def Qn:List (WE×WE)->List (Key×PV)->WE
 |[],acc=>λenv P=>P (.yw (BF acc)) env
 |(fk,fv)::r,acc=>λenv P=>fk env λy e1=>fv e1 λv e2=>opt (A7 y) λk=>Qn r (acc++[(k,v)]) e2 P
def IA(l:List (WE×WE)):WE:=Qn l []
inductive CA (ob:zl) (X:Cx):List (Option Expr)->List Expr->List (WE×WE)->Prop where
 |nil:CA ob X [] [] []
 |cons {k v:Expr} {ks:List (Option Expr)} {vs:List Expr} {fk fv:WE} {l:List (WE×WE)}:yA ob X k fk->yA ob X v fv->CA ob X ks vs l->CA ob X (some k::ks) (v::vs) ((fk,fv)::l)
theorem kY{more:List (Key×V)}{mx:List (Key×PV)}{acc:List (Key×V)}{ax:List (Key×PV)}(h:nE K F more mx)(h2:nE K F acc ax):nE K F (AN acc more) (mx.foldl (λacc kv=>AL acc kv.1 kv.2) ax):=by
 induction h using nE.ind generalizing acc ax with
 |nil=>exact h2
 |cons a _ ih=>exact ih (h2.put a)
variable{ob:zl}
variable{values:List Expr}
theorem CA.facts{keys:List (Option Expr)}{l:List (WE×WE)}(h:CA ob X keys values l):keys.all (·.isSome)=true/\keys.length=values.length:=by
 induction h with
 |nil=>exact⟨rfl,rfl⟩
 |cons _ _ _ ih=>exact⟨by simp[ih.1],by simp[ih.2]⟩
theorem CA.run{keys:List (Option Expr)}{l:List (WE×WE)}(h:CA ob X keys values l):∃EI,M3 X pos keys values EI/\∀(Z:Zn) (F:Hp) (σ:L2.St) (H:Hp) (env:En) (P:PV->En->Prop) (acc:List (Key×PV)) (va:List (Key×V)) (Q:List (V×V)->Hp->Prop),x3 (md ob X) Z F σ H env->nE X.K F va acc->Qn l acc env P ->
  (∀kvs vs eQ F' H',P (.yw (BF kvs)) eQ->dO F F'->x3 (md ob X) Z F' σ H' eQ->nE X.K F' (va++vs) kvs->vs.length=keys.length->Q (vs.map λkv=>(kV kv.1,kv.2)) H')->CS EI σ H Q:=by
 induction h with
 |nil=>exact⟨[],uy,λZ F σ H env P acc va Q K ra hf kk=>kk acc [] env F H hf am K (by rw[abb];exact ra) rfl⟩
 |cons hk hv _ ih=>
  obtain⟨tk,KN,kk⟩:=hk.ex
  obtain⟨tv,Pe,kv⟩:=hv.ex
  obtain⟨EI,Pf,kr⟩:=ih
  refine⟨_,sm KN Pe Pf,λZ F σ H env P acc va Q K ra hf fin=>?_⟩
  refine kk Z F σ H env _ _ K hf λy e1 y' F1 H1 p1 s1 K1 r1=>kv Z F1 σ H1 e1 _ _ K1 p1 λv e2 v' F2 H2 p2 s2 K2 r2=>?_
  obtain⟨k,hk,p2⟩:=p2
  have hy:=eF hk (r1.mono s2)
  subst hy
  refine kr Z F2 σ H2 e2 P _ (va++[(k,v')]) _ K2 ((ra.mono (ah s1 s2)).app (.cons r2 .nil)) p2 λkvs vs e3 F3 H3 p3 s3 K3 r3 hl=>?_
  exact fin kvs ((k,v')::vs) e3 F3 H3 p3 (ah s1 (ah s2 s3)) K3 (by simpa using r3) (by simp[hl])
theorem vE{keys:List (Option Expr)}{l:List (WE×WE)}(h:CA ob X keys values l)(h0:keys≠[]:=by simp)(Qc:keys.length<=15:=by decide):E5 ob X (.Dict keys values pos) (IA l):=by
 obtain⟨EI,Pf,kr⟩:=h.run (pos:=pos)
 obtain⟨ha,hl⟩:=h.facts
 refine⟨_,uB Pf ha hl h0 Qc,λZ F σ H env P Q K hf kk p hp=>?_⟩
 refine kr (Z.add p (.dK [])) F σ _ env P [] [] _ (K.guard hp) .nil hf λkvs vs e1 F1 H1 p1 s1 K1 r1 UO=>?_
 have h0:Z.H₀ p=none:=K.h0 hp
 have KY:Z.F₀ p=none:=dO.none_of K.gr (dO.none_of K.sF hp)
 have hS:=(K1.EH h0 KY).2.1
 refine⟨hS,vs,rfl,by omega,kk _ e1 _ F1 _ p1 s1 (λ_=>by simp) (K1.FK h0 KY ⟨_,ai,kY (by simpa using r1) .nil⟩)⟩
variable{e:Expr}{f:WE}{p apos yP za:Pos}
def B5(env:En):En:=env.map λo=>match o with
 |some ⟨0,x⟩=>some ⟨0,x⟩
 |_=>none
def Dm(F H:Hp):Zn:=⟨H,F,[],λ_=>none,λ_ h=>by simp at h⟩
variable{F':Hp}{eQ:En}
theorem x3.pure(K:x3 M Z F σ H env):x3 M (Dm F H) F σ H (B5 env):=by
 refine⟨K.sF,λb o h _=>h,λb h=>h,am,λa h=>.inl h,by simp[B5,K.len],λ_=>[],λi s e=>?_,λi a h=>by simp at h,λi j a _ h=>by simp at h,λi a s h=>by cases h⟩
 unfold B5 at e
 rw[aah]at e
 cases ei:env[i]? with
 |none=>rw[ei]at e;cases e
 |some o=>
  rw[ei]at e
  have e:=aao e
  dsimp only at e
  split at e
  .cases e
   obtain⟨v,hv,r⟩:=K.val ei
   exact⟨v,hv,.inl ⟨rfl,rfl,r⟩⟩
  .cases e
theorem x3.FJ(K:x3 M Z F σ H env)(K':x3 M (Dm F H) F' σ H' eQ):x3 M Z F' σ H' env/\dO H H'/\∀fp,Slots M Z F σ H env fp->Slots M Z F' σ H' env fp:=by
 have sH:dO H H':=λb o h=>K'.sG b o h (by simp[Dm])
 have nw:∀a,F' a≠none->F a≠none\/H a=none:=K'.nw
 exact⟨K.move K'.gr K'.sF sH nw,sH,λfp L=>L.move K'.gr (λ_ c o _ e=>sH c o e) nw⟩
def jW(i:Nat)(it:WA):WS:=λP env=>it env λxs e=>∃ks,xs.mapM A7=some ks/\ks.Nodup/\ks.length<=1000/\P.nx (e.set i (some ⟨4,.yw (ks.map λk=>(k,.lst []))⟩))
def ET(kvs:List (Key×PV))(k:Key):Option (List PV):=match zq kvs k with
 |some (.lst xs)=>some xs
 |_=>none
def CM(kvs:List (Key×PV))(k:Key)(xs:List PV):List (Key×PV):=kvs.map λkv=>if kv.1=k then (k,.lst xs)else kv
def d0(i:Nat)(fk fv:WE):WS:=λP env=>match env[i]? with
 |some (some ⟨4,.yw kvs⟩)=>(kvs.map (·.1)).Nodup/\fk (B5 env) λy _=>opt (A7 y) λk=>opt (ET kvs k) λxs=>fv (B5 env) λv _=>xs.length<=100000/\P.nx (env.set i (some ⟨4,.yw (CM kvs k (xs++[v]))⟩))
 |_=>False
def jV(i:Nat):WS:=λP env=>match env[i]? with
 |some (some ⟨4,x⟩)=>P.ro x i env
 |_=>False
variable{α:Type}
theorem mw{β:Type}{f:α->Option β}{l:List α}{m:List β}(h:l.mapM f=some m)(i:Nat)(b:β)(hb:m[i]?=some b):∃a,l[i]?=some a/\f a=some b:=by
 obtain⟨hl,h2⟩:=bo h
 have hi:i<l.length:=by
  rw[<- hl]
  rcases aa4 i m.length with q|q
  .exact q
  .rw[aaq q]at hb;cases hb
 obtain⟨b',e1,e2⟩:=h2 i l[i] (by simp[hi])
 rw[hb]at e1;cases e1
 exact⟨l[i],by simp[hi],e2⟩
variable{v:V}
theorem sj{kvs:List (Key×V)}{k:Key}(h:k∉kvs.map (·.1)):putK kvs k v=kvs++[(k,v)]:=by
 unfold putK
 rw[if_neg]
 intro z
 obtain⟨p,hp,e⟩:=List.any_eq_true.mp z
 exact h (List.mem_map.mpr ⟨p,hp,of_decide_eq_true e⟩)
variable{iter:Expr}{scope:Scope}{p2 p3:Pos}{fi:WA}{t:Str}
variable{py:Pos}
theorem rB(i:Nat)(hN:X.N.Nodup)(hy:X.N[i]?=some y)(hl:X.env.scope.names.lookup y=some .local)(hi:G3 (zW X.K) X (.Name t p1) iter fi)(hg:∀C s₀ H₀ ex pn,PG (rW X scope [t] C s₀ H₀ ex pn) (.Name t p1) (zD 0))(hk:∀C s₀ H₀ ex pn,PE (rW X scope [t] C s₀ H₀ ex pn) (.Name t p2) (yK 0))
  (GD:ab9 (.DictComp (.Name t p2) (.List [] p3) [⟨.Name t p1,iter,[],0⟩] scope pos) (some (.Name y py)) za.line X.env=pure true:=by rfl)
  (hc:X.calm=true:=by rfl) (hx:X.xe=(λ_ _=>False):=by rfl) (Bf:Bh X.env scope=true:=by rfl) (yT:zE X.N scope [t] [none]=true:=by rfl) (yt:scope.kind=.function:=by rfl) (hs:∀x,aa0 iter X.env x=pure x:=by intro _;rfl) :
  BR (zW X.K) X (.Assign [.Name y py] (.DictComp (.Name t p2) (.List [] p3) [⟨.Name t p1,iter,[],0⟩] scope pos) za) (jW i fi):=by
 obtain⟨wi,GB,k⟩:=hi.ex
 refine⟨_,tX (i:=i) (wi:=wi) (g:=zD 0) (tc:=IU) (tk:=yK 0) (te:=IY FR) (N:=[t]) (js:=[none]) hN hy hl GB hg (λC s₀ H₀ ex pn=>qv) hk (λC s₀ H₀ ex pn=>gc aW) gP GD hc hx Bf yT yt hs,λZ F σ H env P D K hf L=>?_⟩
 refine k Z F σ H env _ _ K hf λxs e1 J F1 H1 pp s1 K1 I1 l hl=>?_
 obtain⟨ks,NN,JL,hlen,pp⟩:=pp
 obtain⟨UP,_⟩:=bo NN
 obtain⟨fp,L1⟩:=K1.sl
 have MD:Z.H₀ l=none:=K1.h0 hl
 refine⟨λj m ys H'=>m=xs.length - j/\j<=xs.length/\∃(as:List Addr) (F':Hp),dO F1 F'/\as.length=j/\ys=((ks.take j).zip as).map (λt=>(t.1,V.ref t.2))/\H' l=some (.dK ys)/\as.Nodup/\(∀a∈as,H' a=some (.lst [])/\(Z.H₀ a=none/\∀i,a∉fp i)/\F' a=none/\a≠l) /\
   x3 (md (zW X.K) X) Z F' σ H' e1/\Slots (md (zW X.K) X) Z F' σ H' e1 fp/\F' l=none,?_,?_⟩
 .have hF:F1 l=none:=dO.none_of K1.sF hl
  have hn:∀i,l∉fp i:=λi h=>(L1.al i l h).1 hl
  obtain⟨K2,L2⟩:=K1.AZ (o:=.dK []) L1 hF MD hn
  exact⟨_,rfl,aaU _,[],F1,am,rfl,by simp,ai,by simp,λa h=>by simp at h,K2,L2,hF⟩
 rintro j m ys H' ⟨rfl,hj,as,F',sF,MG,rfl,KQ,hand,has,K',L',Rw⟩
 by_cases y6:j<xs.length
 .have Rj:j<ks.length:=by omega
  obtain⟨h1,h2⟩:=I1.go Z j σ e1 F' H' xs[j] sF K' (by simp[y6])
  refine .inr ⟨h1,λv H3 yv=>?_⟩
  obtain⟨F3,s3,K3,r3,sH,nw⟩:=h2 v H3 yv
  obtain⟨a0,ea,ek⟩:=mw NN j ks[j] (by simp[Rj])
  rw[aaa y6]at ea
  cases ea
  have hv:=eF ek r3
  subst hv
  have L3:Slots (md (zW X.K) X) Z F3 σ H3 e1 fp:=L'.move s3 (λ_ c o _ e=>sH c o e) nw
  unfold zD IU
  dsimp only
  rw[if_pos rfl]
  refine⟨_,rfl,aaU _,λq hq=>⟨ks[j],rfl,?_⟩⟩
  have MB:l≠q:=av (sH _ _ KQ) hq
  have HG:(upd H3 q (.lst [])) l=some (.dK (((ks.take j).zip as).map λt=>(t.1,V.ref t.2))):=by rw[af MB];exact sH _ _ KQ
  have Pa:(((ks.take j).zip as).map λt=>((t.1:Key),V.ref t.2)).length=j:=by simp[MG];omega
  have nF:∀{b:Addr},F' b=none->H' b≠none->F3 b=none:=λ{b} q1 q2=>by
   cases e:F3 b with
   |none=>rfl
   |some o=>
    rcases nw b (by rw[e];simp)with z|z
    .exact absurd q1 z
    .exact absurd z q2
  have MJ:F3 l=none:=nF Rw (by rw[KQ];simp)
  have MI:F3 q=none:=dO.none_of K3.sF hq
  have Rf:∀i,q∉fp i:=λi h=>(L3.al i q h).1 hq
  obtain⟨K4,L4⟩:=K3.AZ (o:=.lst []) L3 MI (K3.h0 hq) Rf
  have Pt:∀i,l∉fp i:=λi h=>(L1.al i l h).1 hl
  have Qk:putK (((ks.take j).zip as).map λt=>((t.1:Key),V.ref t.2)) ks[j] (.ref q)=((ks.take (j+1)).zip (as++[q])).map λt=>(t.1,V.ref t.2):=by
   rw[sj,abx,aaa Rj]
   .rw[List.zip_append (by simp[MG];omega)]
    simp
   .intro z
    rw[aaG]at z
    obtain⟨⟨kk,aa⟩,hm,e⟩:=List.mem_map.mp z
    have Pu:=(ac1 hm).1
    have e:kk=ks[j]:=e
    subst e
    obtain⟨n,hn,en⟩:=List.mem_take_iff_getElem.mp Pu
    have:=(abh JL).mp en
    omega
  obtain⟨K5,L5⟩:=K4.AZ (o:=.dK (putK (((ks.take j).zip as).map λt=>((t.1:Key),V.ref t.2)) ks[j] (.ref q))) L4 MJ MD Pt
  refine⟨HG,by rw[Pa,aax];omega,xs.length - (j+1),by omega,rfl,y6,as++[q],F3,ah sF s3,by simp[MG],Qk,ai,?_,λa ha=>?_,K5,L5,MJ⟩
  .rw[adq]
   refine⟨hand,by simp,λa ha b hb z=>?_⟩
   simp at hb;subst hb;subst z
   have:=sH _ _ (has a ha).1
   rw[hq]at this;cases this
  .rcases List.mem_append.mp ha with ha|ha
   .obtain⟨q1,q2,q3,q4⟩:=has a ha
    have:a≠q:=av (sH _ _ q1) hq
    exact⟨by rw[af q4,af this];exact sH _ _ q1,q2,nF q3 (by rw[q1];simp),q4⟩
   .simp at ha;subst ha
    exact⟨by rw[af MB.symm];exact ai,⟨K3.h0 hq,Rf⟩,MI,MB.symm⟩
 .have e:j=xs.length:=by omega
  subst e
  refine .inl ⟨I1.stop Z _ σ e1 F' H' sF K' (aam _),L.nx _ _ F' H' pp (ah s1 sF) ?_⟩
  have Pt:∀i,l∉fp i:=λi h=>(L1.al i l h).1 hl
  rcases aa4 i e1.length with SQ|FE
  case inr=>
   rw[abl FE,abl (by have:=K'.len;omega)]
   exact K'
  have ht:ks.take xs.length=ks:=adI (by omega)
  rw[ht]at KQ
  refine K'.slots (by simp[K'.len]) (L'.put (l:=l::as) (by simp) (by have:=K'.len;omega) (.inr (.inr (.inl ⟨.inr rfl,l,rfl,λc hc=>.inr ?_,.inr (.inl ⟨(ks.zip as).map λt=>(t.1,t.2,[]),?_,?_,?_,?_,?_⟩)⟩))) (λc hc=>?_) λj c _ hc=>?_)
  .rcases List.mem_cons.mp hc with rfl|hc
   .exact MD
   .exact(has c hc).2.1.1
  .rw[aaG]
   have:(ks.map λk=>((k:Key),PV.lst []))=(ks.zip as).map ((λt:Key×Addr×List PV=>(t.1,PV.lst t.2.2)) ∘ λt=>(t.1,t.2,[])):=by
    have e1:(λt:Key×Addr×List PV=>(t.1,PV.lst t.2.2)) ∘ (λt:Key×Addr=>(t.1,t.2,[]))=(λk=>((k:Key),PV.lst [])) ∘ Prod.fst:=rfl
    rw[e1,<- aaG,List.map_fst_zip (by omega)]
   rw[this]
  .rw[aaG]
   have e1:(λt:Key×Addr×List PV=>t.2.1) ∘ (λt:Key×Addr=>(t.1,t.2,[]))=Prod.snd:=rfl
   rw[e1,adC (by omega)]
  .rw[aaG];exact KQ
  .rw[aaG]
   have e1:(λt:Key×Addr×List PV=>t.2.1) ∘ (λt:Key×Addr=>(t.1,t.2,[]))=Prod.snd:=rfl
   rw[e1,adC (by omega)];exact hand
  .intro t ht
   obtain⟨⟨kk,aa⟩,hm,rfl⟩:=List.mem_map.mp ht
   exact⟨[],(has aa (ac1 hm).2).1,.nil⟩
  .rcases List.mem_cons.mp hc with rfl|hc
   .exact⟨by rw[KQ];simp,Rw⟩
   .exact⟨by rw[(has c hc).1];simp,(has c hc).2.2.1⟩
  .rcases List.mem_cons.mp hc with rfl|hc
   .exact Pt j
   .exact(has c hc).2.1.2 j
variable{px:Pos}
theorem rC(i:Nat){ke:Expr}{fk fv:WE}{ps:Pos}(hu:X.A.units+1<cLine)(ho:PE X (.Name x px) (yK i))(hk:yA (zW X.K) X ke fk)(hv:yA (zW X.K) X e fv)(Hc:HX ke:=by exact λ_ _=>rfl)
  (zx:acw (.Subscript (.Name x px) ke ps) "append" X.env (eval (.Subscript (.Name x px) ke ps) X.env)=eval (.Subscript (.Name x px) ke ps) X.env:=by rfl)
  (Ek:((backTo yP (aai [e] X.env)).all (λx=>!x.1) && (aeR yP (adz [] X.env)).all (λx=>x.1.isSome)
   && decide ([e].length+([]:List adX).length+(if ([]:List adX).isEmpty then 0 else 1)<30))=true:=by rfl)
  (zw:(apos.endLine==yP.line)=true:=by rfl) (Ha:aai [e] X.env=(false,eval e X.env)::aai [] X.env:=by rfl) (AQ:(backTo yP (aai [] X.env)).any (·.1)=false:=by rfl)
  (hs:ab9 (.Call (.Attribute (.Subscript (.Name x px) ke ps) "append" apos) [e] [] yP) none za.line X.env=pure false:=by rfl) :
  BR (zW X.K) X (.Expr (.Call (.Attribute (.Subscript (.Name x px) ke ps) "append" apos) [e] [] yP) za) (d0 i fk fv):=by
 obtain⟨tk,KN,kk⟩:=hk.ex
 obtain⟨tv,Pe,kv⟩:=hv.ex
 refine⟨_,jZ (ph acH abk abj bj (uC hu ho KN Hc) (aM Pe aW Ha) zx Ek zw Ha AQ) hs,λZ F σ H env P D K hf L=>?_⟩
 unfold d0 at hf
 split at hf
 case h_2=>exact hf.elim
 rename_i kvs ei
 obtain⟨JL,hf⟩:=hf
 obtain⟨fp,L0⟩:=K.sl
 obtain⟨w,hw,ok⟩:=L0.at' i _ ei
 obtain⟨a,rfl,hd⟩:∃a,w=.ref a/\IJ X.K F H a (fp i) (.yw kvs):=by
  rcases ok with ⟨k0,_⟩|⟨k0,_⟩|⟨_,a,e,_,h⟩|⟨k0,_⟩
  .cases k0
  .cases k0
  .rcases h with (⟨h,_⟩|⟨_,_,h,_⟩)|h|⟨_,_,_,_,h,_⟩|⟨_,_,_,_,_,h,_⟩
   .cases h
   .cases h
   .exact⟨a,e,h⟩
   .cases h
   .cases h
  .cases k0
 refine⟨_,hw,kk (Dm F H) F σ H (B5 env) _ _ K.pure hf λy e1 y' F1 H1 p1 s1 K1 r1=>?_⟩
 obtain⟨K2,Ly,To⟩:=K.FJ K1
 obtain⟨k,Ej,xs,NI,p1⟩:=p1
 have hy:=eF Ej r1
 subst hy
 obtain⟨ks,MQ,e2,e3,e4,e5⟩:=hd
 cases MQ
 have HF:∃t∈ks,t.1=k/\t.2.2=xs:=by
  unfold ET at NI
  split at NI
  .rename_i zs hz
   cases NI
   unfold zq at hz
   rw[aap]at hz
   obtain⟨kv,hf,hv⟩:=hz
   have hm:=afg hf
   have hp:=List.find?_some hf
   obtain⟨t,ht,rfl⟩:=List.mem_map.mp hm
   exact⟨t,ht,of_decide_eq_true hp,by injection hv⟩
  .cases NI
 obtain⟨t,ht,rfl,rfl⟩:=HF
 have NN:(ks.map (·.1)).Nodup:=by rw[aaG]at JL;exact JL
 have inj:∀t'∈ks,t'.1=t.1->t'=t:=λt' h' e=>by
  obtain⟨n,hn,rfl⟩:=List.mem_iff_getElem.mp ht
  obtain⟨n',HE,rfl⟩:=List.mem_iff_getElem.mp h'
  have:n'=n:=(abh (h₀:=by simpa using HE) (h₁:=by simpa using hn) NN).mp (by simpa using e)
  subst this;rfl
 have Ei:zG (ks.map λt=>(t.1,V.ref t.2.1)) t.1=some (.ref t.2.1):=by
  unfold zG
  rw[aap]
  cases hf:(ks.map λt=>(t.1,V.ref t.2.1)).find? λkv=>decide (kv.1=t.1)with
  |none=>
   have:=List.find?_eq_none.mp hf (t.1,V.ref t.2.1) (List.mem_map.mpr ⟨t,ht,rfl⟩)
   simp at this
  |some q=>
   have hm:=afg hf
   have hp:=List.find?_some hf
   obtain⟨t',JH,rfl⟩:=List.mem_map.mp hm
   have:=inj t' JH (of_decide_eq_true hp)
   subst this
   exact⟨_,rfl,rfl⟩
 obtain⟨Kx,CJ,QU⟩:=e5 t ht
 refine⟨a,.ref t.2.1,rfl,by rw[<- Ei];exact O4 (Ly _ _ e3),.inl ⟨rfl,Kx,.inl (.inl (Ly _ _ CJ))⟩,?_⟩
 refine kv (Dm F1 H1) F1 σ H1 (B5 env) _ _ K2.pure p1 λv UU v' F2 H2 p2 s2 K3 r2=>?_
 obtain⟨K4,OD,Tn⟩:=K2.FJ K3
 have L4:=Tn fp (To fp L0)
 have Sv:=OD _ _ (Ly _ _ CJ)
 have OE:=ah s1 s2
 refine⟨t.2.1,Kx,v',rfl,rfl,Sv,by rw[QU.len,aax];have:=p2.1;omega,L.nx _ _ F2 _ p2.2 OE ?_⟩
 have Dx:t.2.1∈fp i:=by rw[e2];exact aar _ (abv (f:=λt=>t.2.1) ht)
 have OV:t.2.1≠a:=pD CJ e3 (by intro z;cases z)
 refine(K4.Hw (.inr rfl) L4 ei hw (l':=fp i) (F':=F2) (H':=upd H2 t.2.1 (.lst (Kx++[v']))) (λb o h1 h2=>?_) (λb h=>?_) am (λb o h=>?_) (λb h=>.inl h) (.inr (.inl ⟨ks.map λt'=>if t'.1=t.1 then (t.1,t.2.1,t.2.2++[v])else t',?_,?_,?_,?_,?_⟩)) (λb hb=>?_) (λb hb=>.inl hb)).1
 .rw[af λz:b=t.2.1=>h2 (by rw[z];exact Dx)];exact h1
 .by_cases q:b=t.2.1
  .subst q;rw[ai];simp
  .rw[af q];exact h
 .have:b≠t.2.1:=av h (L4.al i _ Dx).2
  rw[af this];exact K4.sF b o h
 .unfold CM
  rw[aaG,aaG]
  congr 1
  apply aaH
  intro t' _
  show (if t'.1=t.1 then (t.1,PV.lst (t.2.2++[v]))else (t'.1,PV.lst t'.2.2))=((if t'.1=t.1 then (t.1,t.2.1,t.2.2++[v])else t').1,PV.lst (if t'.1=t.1 then (t.1,t.2.1,t.2.2++[v])else t').2.2)
  split<;>rfl
 .rw[e2,aaG]
  congr 1
  apply aaH
  intro t' h'
  show t'.2.1=(if t'.1=t.1 then (t.1,t.2.1,t.2.2++[v])else t').2.1
  split
  .rename_i q;rw[inj t' h' q]
  .rfl
 .rw[af OV.symm,OD _ _ (Ly _ _ e3),aaG]
  congr 2
  apply aaH
  intro t' h'
  show (t'.1,V.ref t'.2.1)=((if t'.1=t.1 then (t.1,t.2.1,t.2.2++[v])else t').1,V.ref (if t'.1=t.1 then (t.1,t.2.1,t.2.2++[v])else t').2.1)
  split
  .rename_i q;rw[inj t' h' q]
  .rfl
 .rw[aaG]
  have:(ks.map ((λt=>t.2.1) ∘ λt'=>if t'.1=t.1 then (t.1,t.2.1,t.2.2++[v])else t'))=ks.map λt=>t.2.1:=by
   apply aaH
   intro t' h'
   show (if t'.1=t.1 then (t.1,t.2.1,t.2.2++[v])else t').2.1=t'.2.1
   split
   .rename_i q;rw[inj t' h' q]
   .rfl
  rw[this];exact e4
 .intro q hq
  obtain⟨t',h',rfl⟩:=List.mem_map.mp hq
  by_cases e:t'.1=t.1
  .rw[if_pos e]
   exact⟨_,ai,(QU.mono OE).app (.cons r2 .nil)⟩
  .rw[if_neg e]
   obtain⟨Fz,q1,q2⟩:=e5 t' h'
   have hne:t'.2.1≠t.2.1:=λz=>by
    obtain⟨n,hn,rfl⟩:=List.mem_iff_getElem.mp ht
    obtain⟨n',HE,rfl⟩:=List.mem_iff_getElem.mp h'
    have:n'=n:=(abh (h₀:=by simpa using HE) (h₁:=by simpa using hn) e4).mp (by simpa using z)
    subst this;exact e rfl
   exact⟨Fz,by rw[af hne];exact OD _ _ (Ly _ _ q1),q2.mono OE⟩
 .have:=L4.al i b hb
  refine⟨?_,this.2⟩
  by_cases q:b=t.2.1
  .subst q;rw[ai];simp
  .rw[af q];exact this.1
theorem rA(i:Nat)(ho:PE X (.Name x px) (yK i)):BR ob X (.Return (some (.Name x px)) za) (jV i):=by
 refine⟨_,eh ho,λZ F σ H env P D K hf L=>?_⟩
 unfold jV at hf
 split at hf
 case h_2=>exact hf.elim
 rename_i y ei
 obtain⟨fp,L0⟩:=K.sl
 obtain⟨w,hw,ok⟩:=L0.at' i _ ei
 exact⟨_,hw,L.ro _ i env w σ F H hf am K ei hw⟩
def Iz(P:PV->Prop):Wd:={nx:=λ_=>P .lT,rt:=λx _=>P x,ro:=λx _ _=>(∃kvs,x=.yw kvs)/\P x}
def Ig(n:Nat)(u:WS):Fd:=λxs P=>u (Iz P) (yE n xs)
variable{qual:Str}{st:Stmt}{N:List Str}{u:WS}
theorem xl{f:Addr}(F:EC K x qual st f fd)(S:az N ps (aq st))(hn:ps.length<=N.length)
  (hb:∀(yx:Value) (A:Around) (outer:List Env) (s:Shared) (H:Hp) (E:XK),yj k (A.deeper (envOfC qual (aq st) s.heap.objs.size f yx))->Bx (zW K) (BM yQ P w K mg base N qual (aq st) f yx A outer s H E).Gk (bc st) u) :
  yd P w K mg base yQ (k+1) f fd ps (CU ⟨P,w,K,zW K⟩ ps.length (Ig N.length u)):=by
 refine F.ok S (λvs H Q E h=>?_) (λyx A outer s H vs Q E hr h=>?_)
 .obtain⟨F,xs,P,_,r,hl,_⟩:=h
  rw[r.len];exact hl
 .obtain⟨F,xs,P',sF,r,hl,hD,kk⟩:=h
  obtain⟨t,ht,kt⟩:=(hb yx A outer s H E hr).ex
  refine⟨t,ht,kt ⟨H,F,[],λ_=>none,λ_ h=>by simp at h⟩ F (start N vs) H (yE N.length xs) (Iz P') _ (fW (M:=⟨P,w,K,zW K⟩) sF r (by omega)) hD ⟨λenv σ F' H' p s1 K1=>?_,λx env v σ F' H' p s1 K1 rv=>?_,λ_ _ _ _ p=>p.elim,λ_ _ _ _ p=>p.elim,λ_ _ _ _ _ _ p=>p.elim,λx i env v σ F' H' p s1 K1 ei hv=>?_⟩⟩
  .exact kk .lT .lT F' H' p (λb o h=>K1.sG b o h (by simp)) s1 K1.sF K1.nw .lT
  .exact kk x v F' H' p (λb o h=>K1.sG b o h (by simp)) s1 K1.sF K1.nw rv
  .obtain⟨KJ,p⟩:=p
   obtain⟨fp,L⟩:=K1.sl
   obtain⟨v',GC,ok⟩:=L.at' i _ ei
   rw[hv]at GC;cases GC
   rcases ok with ⟨k0,_⟩|⟨k0,_⟩|⟨_,a,rfl,Su,h⟩|⟨k0,_⟩
   .cases k0
   .cases k0
   .obtain⟨UH,KJ⟩:=KJ
    rcases h with (⟨h,_⟩|⟨_,_,h,_⟩)|⟨ks,rfl,e2,e3,e4,e5⟩|⟨_,_,_,_,h,_⟩|⟨_,_,_,_,_,h,_⟩
    .rw[KJ]at h;cases h
    .rw[KJ]at h;cases h
    rotate_left
    .rw[KJ]at h;cases h
    .rw[KJ]at h;cases h
    .let F2:Hp:=λb=>if b∈fp i then H' b else F' b
     have QS:dO F' F2:=λb o hb=>by
      show (if b∈fp i then H' b else F' b)=some o
      split
      .exact K1.sF b o hb
      .exact hb
     have at2:∀b,b∈fp i->F2 b=H' b:=λb hb=>if_pos hb
     refine kk _ _ F2 H' p (λb o h=>K1.sG b o h (by simp)) (ah s1 QS) (λb o hb=>?_) (λb hb=>?_) ?_
     .have hb:(if b∈fp i then H' b else F' b)=some o:=hb
      split at hb
      .exact hb
      .exact K1.sF b o hb
     .have hb:(if b∈fp i then H' b else F' b)≠none:=hb
      split at hb
      .rename_i q
       rcases Su b q with z|z
       .simp at z
       .exact .inr z
      .exact K1.nw b hb
     .have ha:F2 a=some (.dK (ks.map λt=>(t.1,V.ref t.2.1))):=by rw[at2 a (by rw[e2];simp)];exact e3
      refine .yw ha ?_
      have go:∀(l:List (Key×Addr×List PV)),(∀t∈l,t∈ks)->nE K F2 (l.map λt=>(t.1,V.ref t.2.1)) (l.map λt=>(t.1,PV.lst t.2.2)):=by
       intro l
       induction l with
       |nil=>intro _;exact .nil
       |cons t l ih=>
        intro hs
        obtain⟨Fz,q1,q2⟩:=e5 t (hs t (by simp))
        refine .cons (.lst ?_ (q2.mono QS)) (ih λt' h'=>hs t' (aar _ h'))
        rw[at2 _ (by rw[e2];exact aar _ (abv (f:=λt=>t.2.1) (hs t (by simp))))]
        exact q1
      exact go ks λ_ h=>h
   .cases k0
def Ez(ss ts:List Str):Prop:=ts.Perm ss/\ts.Pairwise λa b=>¬ yL b a
def CY:Key->Option Str
 |.inr s=>some s
 |.inl _=>none
def AV(fa:WA):WE:=λenv P=>fa env λxs e=>match xs with
 |[.lst ys]=>∃ss,ys.mapM Dq=some ss/\ss.length<64/\∀ts,Ez ss ts->P (.lst (ts.map .str)) e
 |[.yw kvs]=>∃ss,(kvs.map (·.1)).mapM CY=some ss/\ss.length<64/\∀ts,Ez ss ts->P (.lst (ts.map .str)) e
 |_=>False
theorem f7:∀(ss:List Str),oF K F (ss.map V.str) (ss.map PV.str)
 |[]=>.nil
 |s::ss=>.cons (.str s) (f7 ss)
theorem jp:∀{ks:List Key} {ss:List Str},ks.mapM CY=some ss->ks=ss.map aan
 |[],ss,h=>by simp at h;subst h;rfl
 |k::ks,ss,h=>by
  rw[abt]at h
  cases ea:CY k with
  |none=>rw[ea]at h;cases h
  |some a=>
   rw[ea]at h
   cases el:ks.mapM CY with
   |none=>rw[el]at h;cases h
   |some bs=>
    rw[el]at h
    have h:some (a::bs)=some ss:=h
    cases h
    rw[jp el,aau]
    cases k<;>cases ea
    rfl
variable{a b c:Expr}{es:List Expr}{g h:WE}{fa:WA}
theorem iY(hc:X.calm=true)(hg:Gl X "sorted")(hm:X.mg "sorted" = none)(ha:EE ob X (e::es) fa)
  (he:aai (e::es) X.env=(false,eval e X.env)::aai es X.env:=by rfl) (Ag:(backTo pos (aai es X.env)).any (·.1)=false:=by rfl):E5 ob X (.Call (.Name "sorted" p) (e::es) [] pos) (AV fa):=by
 obtain⟨t,ht,k⟩:=ha.ex
 refine⟨_,bT (yq.or pQ (pS hc)) hg hm aed ht (by decide) (by decide) he Ag,λZ F σ H env P Q K hf kk=>k Z F σ H env _ _ K hf λxs e1 vs F1 H1 p s1 K1 r1=>?_⟩
 split at p
 .obtain⟨ss,hs,hl,p⟩:=p
  obtain⟨v,rfl,r⟩:=r1.one
  obtain⟨q,vs,rfl,h1,h2⟩:=r.lst K1.sF
  have:=dh jP hs h2
  subst this
  exact .inl ⟨q,ss,rfl,.inl (.inl h1),hl,λl ts hn hp hw=>kk _ e1 _ F1 _ (p ts ⟨hp,hw⟩) s1 (λ_=>by simp) (K1.own hn ⟨_,ai,f7 ts⟩)⟩
 .obtain⟨ss,hs,hl,p⟩:=p
  obtain⟨v,rfl,r⟩:=r1.one
  obtain⟨q,vs,rfl,h1,h2⟩:=r.yw K1.sF
  refine .inr ⟨q,vs,ss,rfl,h1,by rw[h2.keys];exact jp hs,hl,λl ts hn hp hw=>kk _ e1 _ F1 _ (p ts ⟨hp,hw⟩) s1 (λ_=>by simp) (K1.own hn ⟨_,ai,f7 ts⟩)⟩
 .exact p.elim
def B4:PV->Option (Key×PV)
 |.tup [.str s,v]=>some (.inr s,v)
 |_=>none
def C8:List PV->Option PV
 |[.lst xs]=>if xs.length<=1000 then (xs.mapM B4).map λkvs=>.yw (BF kvs)else none
 |_=>none
def Gh(K:aag):List V->Hp->VK->Prop:=λxs H Q=>∃(l:Addr) (ys:List V) (zu:List (Str×V)),xs=[.ref l]/\H l=some (.lst ys)/\ys.length=zu.length/\zu.length<=1000 /\
  (∀j (hj:j<zu.length),∃p,ys[j]?=some (.ref p)/\zg K H p [.str zu[j].1,zu[j].2])/\∀d,H d=none->Q (.ref d) (upd H d (.dK (zu.foldl (λkvs kv=>putK kvs (aan kv.1:Key) kv.2) [])))
theorem vK(hc:X.calm=true):yq X (.type "dict") (Gh X.K):=by
 intro pins s σ H xs us Q I r h
 obtain⟨l,ys,zu,rfl,hl,hlen,hsz,hp,q⟩:=h
 obtain⟨u,rfl,ru⟩:=r.one
 cases ru
 obtain⟨z,gE,n,rv,g⟩:=I.ye l _ hl
 have each:∀j,∃vv:Value,∀hj:j<zu.length,∃(p:Addr) (t:Tok),gE[j]?=some (.ref p)/\s.heap.IsTuple p #[.str zu[j].1 t,vv]/\RelV zu[j].2 vv:=λj=>by
  by_cases hj:j<zu.length
  .obtain⟨p,ey,hP⟩:=hp j hj
   obtain⟨v1,e1,r1⟩:=rv.get ey
   cases r1
   obtain⟨UC,FA,g2,_⟩:=I.tuple hP
   cases FA with
   |cons ra rr=>
    cases rr with
    |cons rb rr=>
     cases rr
     obtain⟨t,rfl⟩:=ra
     exact⟨_,λ_=>⟨p,t,e1,g2,rb⟩⟩
  .exact⟨.none,λh=>absurd h hj⟩
 obtain⟨vf,hv⟩:=Classical.skolem.mp each
 have SR:gE.length=zu.length:=by rw[<- hlen];exact rv.length.symm
 refine jJ (knd:=aF X.prog X.w) (items:=gE.toArray) (n:=n) (λj=>(aan ((zu[j]?.getD (Str.empty,V.lT)).1):Key)) vf (by simp;omega) (I.ok.hd hc) g (λj hj=>?_) λh' tk D kk=>?_
 .have Bn:j<zu.length:=by simp at hj;omega
  obtain⟨p,t,e1,g2,_⟩:=hv j Bn
  refine⟨p,.str zu[j].1 t,by simpa using e1,g2,?_⟩
  rw[aaa Bn,acB]
  exact ij _ _ _ _
 .have hk:=oq zu vf (λj hj=>(hv j hj).choose_spec.choose_spec.2.2) zu.length (aam _)
  rw[abm]at hk
  have ez:gE.toArray.size=zu.length:=by simp;exact SR
  rw[ez]at D
  refine⟨.ref s.heap.objs.size,_,I.laid (a:=s.heap.objs.size) (t':=tk) (o:=.dK (zu.foldl (λkvs kv=>putK kvs (aan kv.1:Key) kv.2) [])) kk (aam _) ⟨?_,beq_eq_false_iff_ne.mpr (abO (aaw I.Qs)),_,hk,D⟩,rfl,q _ (I.ye.fresh (aam _))⟩
  refine aaZ (tD zu []) ?_
  rw[aax,acd]
  omega
theorem lZ:∀{xs:List PV} {vs:List V} {kvs:List (Key×PV)},xs.mapM B4=some kvs->oF K F vs xs->∃zu:List (Str×V),zu.length=vs.length/\(∀j (hj:j<zu.length),∃p,vs[j]?=some (.ref p)/\zg K F p [.str zu[j].1,zu[j].2])/\nE K F (zu.map λq=>(aan q.1,q.2)) kvs
 |[],vs,kvs,h,r=>by simp at h;subst h;cases r;exact⟨[],rfl,λj hj=>by simp at hj,.nil⟩
 |x::xs,vs,kvs,h,r=>by
  rw[abt]at h
  cases ea:B4 x with
  |none=>rw[ea]at h;cases h
  |some a=>
   rw[ea]at h
   cases el:xs.mapM B4 with
   |none=>rw[el]at h;cases h
   |some bs=>
    rw[el]at h
    have h:some (a::bs)=some kvs:=h
    cases h
    cases r with
    |cons r1 r2=>
     obtain⟨zu,q1,q2,q3⟩:=lZ el r2
     unfold B4 at ea
     split at ea
     .cases ea
      cases r1 with
      |tup h1 h2=>
       cases h2 with
       |cons h2 h3=>
        cases h3 with
        |cons h3 h4=>
         cases h4
         cases h2
         refine⟨(_,_)::zu,by simp[q1],λj hj=>?_,.cons h3 q3⟩
         cases j with
         |zero=>exact⟨_,rfl,h1⟩
         |succ j=>simpa using q2 j (by simpa using hj)
     .cases ea
theorem fL:∀(zu:List (Str×V)) (acc:List (Key×V)),zu.foldl (λkvs kv=>putK kvs (aan kv.1:Key) kv.2) acc=AN acc (zu.map λq=>(aan q.1,q.2))
 |[],acc=>rfl
 |q::zu,acc=>by
  rw[acJ,fL zu]
  rfl
theorem vM:EF ob X (Gh X.K) C8:=by
 intro Z F σ H env vs xs z Q K rv hz k
 unfold C8 at hz
 split at hz
 .split at hz
  .rename_i hlen
   rw[aap]at hz
   obtain⟨kvs,hk,rfl⟩:=hz
   obtain⟨v,rfl,r⟩:=rv.one
   obtain⟨q,vs,rfl,h1,h2⟩:=r.lst K.sF
   obtain⟨zu,q1,q2,q3⟩:=lZ hk h2
   refine⟨q,vs,zu,rfl,h1,q1.symm,by rw[q1,h2.len];exact hlen,λj hj=>?_,λd hd=>?_⟩
   .obtain⟨p,e1,e2⟩:=q2 j hj
    exact⟨p,e1,aw K.sF e2⟩
   .refine k _ _ (λ_=>by simp) (K.own hd ⟨_,ai,?_⟩)
    rw[fL]
    exact kY q3 .nil
  .cases hz
 .cases hz
end Q
namespace L2
open PySem PySem.Spec PyProof.Rows
variable{prog:aaE}{w:World}{A:Around}{E:Value->Shared->Prop}{s:Shared}
structure Uw(h:Heap)(z u o i1 i2 t1 t2:Addr)(n:Nat):Prop where
 zz:IsZip h z u o .none
 uu:IsPair h u (.ref i1) (.ref i2)
 oo:∃a b,IsPair h o a b
 a1:h.IsListIter i1 t1 n
 a2:h.IsListIter i2 t2 n
variable{X:Cx}
end L2
namespace Q
open PySem L2
variable{ob:zl}{X:Cx}{a b:Expr}{fa:WA}{pos p:Pos}
def Sm(a:WA):WA:=λenv P=>a env λxs e=>match xs with
 |[.tup xs,.tup ys]=>P (Dl xs ys) e
 |[.lst xs,.lst ys]=>P (Dl xs ys) e
 |_=>False
variable{α:Type}
theorem cV{z:α}{P:α->Prop}:opt (some z) P=P z:=propext A5
theorem sI{P:α->Prop}:opt none P=False:=propext ⟨λ⟨_,e,_⟩=>(nomatch e),λh=>h.elim⟩
theorem ae{o:Option α}{z:α}{P:α->Prop}(h:o=some z)(k:P z):opt o P:=⟨z,h,k⟩
theorem gY(xs:List α)(n:Nat):Ci xs none (some (n:Int))=xs.take n:=by
 unfold Ci
 rw[HT.Dr,HT.EM,List.drop_zero,Nat.sub_zero]
 by_cases h:n<=xs.length
 .rw[Nat.min_eq_left h]
 .rw[Nat.min_eq_right (by omega),abm,adI (by omega)]
variable{g:WG}{c:WT}{f:WE}{js:List (Option Nat)}{P:PV->En->Prop}{env:En}
theorem cW(G:PV->Option PV):∀{xs acc:List PV},(∀x∈xs,∀R:Option PV->En->Prop,R (G x) env ->
   g x (C9 js env) λb1=>c b1 λok b2=>if ok=true then f b2 λy b3=>R (some y) (yZ js env b3)else R none (yZ js env b2))->acc.length+xs.length<=100000->P (.lst (acc++xs.filterMap G)) env->Aq g c f js P xs env acc
 |[],acc,_,_,k=>by simpa[Aq]using k
 |x::xs,acc,h,hl,k=>by
  have Fk:acc.length+xs.length+1<=100000:=by simpa[acX]using hl
  have hm:∀{a b:Prop},(a->b)->a->b:=λh=>h
  have:=h x (by simp) (λo e=>(match o with|some y=>acc.length<=100000/\Aq g c f js P xs e (acc++[y])|none=>Aq g c f js P xs e acc)) (by
   cases e:G x with
   |none=>
    refine cW G (λy hy=>h y (by simp[hy])) (by omega) ?_
    simpa[abZ,e]using k
   |some y=>
    refine⟨by omega,cW G (λy hy=>h y (by simp[hy])) (by simp;omega) ?_⟩
    simpa[abZ,e]using k)
  exact this
theorem iW(G:PV->PV):∀{xs acc:List PV},(∀x∈xs,∀R:PV->En->Prop,R (G x) env->g x (C9 js env) λb1=>f b1 λy b3=>R y (yZ js env b3))->acc.length+xs.length<=100000->P (.lst (acc++xs.map G)) env->Aq g E8 f js P xs env acc
 |[],acc,_,_,k=>by simpa[Aq]using k
 |x::xs,acc,h,hl,k=>by
  have Fk:acc.length+xs.length+1<=100000:=by simpa[acX]using hl
  simp only[Aq,E8,if_true]
  exact h x (by simp) (λy e=>acc.length<=100000/\Aq g E8 f js P xs e (acc++[y])) ⟨by omega,iW G (λy hy=>h y (by simp[hy])) (by simp;omega) (by simpa using k)⟩
theorem aV{b:WS}{P:Wd}(I:Nat->En->Prop):∀{xs:List PV} {i:Nat} {env:En},I i env->(∀(j:Nat) (x:PV) (e:En) (N:En->Prop),xs[j]?=some x->I (i+j) e->(∀e',I (i+j+1) e'->N e')->g x e λe1=>b {P with nx:=N,ct:=N,bk:=P.nx} e1)->(∀e,I (i+xs.length) e->P.nx e)->AG g b P xs env
 |[],i,env,h0,_,hd=>hd env (by simpa using h0)
 |x::xs,i,env,h0,hs,hd=>hs 0 x env (AG g b P xs) rfl h0 λe' h'=>aV I (i:=i+1) h' (λj y e N hj hI k=>hs (j+1) y e N (by simpa using hj) (by rwa [acX,aeH 1 j]at hI) λe' h=>k e' (by rwa [acX i 1 j,aeH 1 j])) λe h=>hd e (by rwa [aaR,aeH xs.length 1,<- acX])
theorem oW:∀(bs:List Bool),(bs.map PV.bl).mapM Cy=some bs
 |[]=>rfl
 |b::bs=>by
  rw[aau,abt,oW bs];rfl
theorem rS(bs:List Bool):DJ [.lst (bs.map .bl)]=some (.bl (bs.all id)):=by
 show ((bs.map PV.bl).mapM Cy).map _=_
 rw[oW];rfl
theorem ne_int(i j:Int):Eg (.int i) (.int j)=some (.bl (!decide (i=j))):=by
 show some (PV.bl (!decide (V.int i=V.int j)))=_
 congr 3
 simp
theorem ao{a b:WS}{P:Wd}(h:∀N:En->Prop,N=b P->a {P with nx:=N} env):oR a b P env:=h _ rfl
theorem bt{it:WA}{b:WS}{P:Wd}(h:∀(G:WG) (B:WS),G=g->B=b->it env λxs e=>AG G B P xs e):A0 it g b P env:=h _ _ rfl rfl
variable{s:Sl}
theorem wY:(some (some s):Option (Option Sl)).join.isSome=true:=rfl
variable{x:PV}
theorem Eh{zs:List PV}(h:zs.length<=100000):br zs [x]=some (.lT,zs++[x]):=if_pos h
variable{k:Nat}{Ad:Addr}{fd:abz}{ps:List Str}{x y:Str}{p1 pos':Pos}
theorem rD(i j:Nat)(hN:X.N.Nodup)(hi:X.N[i]?=some y)(hx:Loc X.env.scope y)(F:yd X.prog X.w X.K X.mg X.base yQ k Ad fd ps (Pre.gG X.K))(hr:yj k X.A)(hm:X.mg "_law_begin" = some (.ref Ad))(hk:abw X.K (.ref Ad)=true)(hb:Binds X.K fd ps [])(ho:PE X (.Name x p1) (yK j))
  (Fi:ob=zW X.K:=by rfl) (hg:Gl X "_law_begin" :=by rfl) (he:aai [.Name x p1] X.env=(false,eval (.Name x p1) X.env)::aai [] X.env:=by rfl) (Ag:(backTo pos (aai [] X.env)).any (·.1)=false:=by rfl)
  {za:Pos} (hs:ab9 (.Call (.Name "_law_begin" p) [.Name x p1] [] pos) (some (.Name y pos')) za.line X.env=pure false:=by rfl) (hf:X.fn y=true\/X.env.scope.names.lookup y=some .local:=by first|exact .inl rfl|exact .inr rfl|assumption) :
  BR ob X (.Assign [.Name y pos'] (.Call (.Name "_law_begin" p) [.Name x p1] [] pos) za) (zH i j):=by
 subst Fi
 exact tF i j hN hi hx F hr hm hk hb ho hg he Ag hs hf
end Q
set_option hygiene false in
local macro_rules|`(tactic| lia)=>`(tactic| simp only[Q.run,Q.Fb,Q.yE,Q.Kh,Q.HP,Q.LQ,Q.oR,Q.AX,Q.ym,Q.zh,Q.yz,Q.zU,Q.A3,Q.Gf,Q.Lk,Q.D7,Q.D5,Q.BU,Q.yl,Q.Cw,Q.RF,Q.x5,Q.Cg,Q.eC,Q.eV,Q.y8,Q.a1,Q.iD,Q.aS,Q.Kj,Q.Ex,Q.TK,Q.Ki,Q.zc,Q.Cv,Q.HQ,Q.Mn,Q.iS,Q.Sm,Q.Lc,Q.CG,Q.CF,Q.yu,Q.Gw,Q.IS,Q.Fg,Q.B8,Q.OY,Q.Gs,Q.HK,Q.FN,Q.Cy,Q.cV,Q.sI,aau,adT,aaC,List.cons_append,acb,aaR,acd,abP,ack,List.set_cons_zero,List.set_cons_succ,Option.map_some,if_true,Bool.not_true,aea,ab8,if_false,decide_true,decide_false,ite_true,ite_false,Q.DU,Q.gT,Q.gN,Q.yX,Q.BD,Q.Gy,Q.Hr,String.reduceBEq,Bool.false_and,Bool.or_false,Bool.false_or,Bool.true_or,Bool.and_true,Bool.true_and,Nat.reduceAdd,Nat.reduceSub,Q.yh,Q.wY,true_and,Q.FG,Q.LX,Q.KH,Q.Sn])
namespace Q
open PySem L2 PyProof.Rows
variable{ob:zl}{X:Cx}{iter:Expr}{scope:Scope}{pos p1 p2 p3:Pos}{fi:WA}{x t:Str}
variable{y:Str}{py za:Pos}
theorem pM(i:Nat)(hN:X.N.Nodup)(hy:X.N[i]?=some y)(hl:X.env.scope.names.lookup y=some .local)(hi:G3 ob X (.Name t p1) iter fi)(hg:∀C s₀ H₀ ex pn,PG (rW X scope [t] C s₀ H₀ ex pn) (.Name t p1) (zD 0))(hk:∀C s₀ H₀ ex pn,PE (rW X scope [t] C s₀ H₀ ex pn) (.Name t p2) (yK 0))
  (Fi:ob=zW X.K:=by rfl)
  (GD:ab9 (.DictComp (.Name t p2) (.List [] p3) [⟨.Name t p1,iter,[],0⟩] scope pos) (some (.Name y py)) za.line X.env=pure true:=by rfl)
  (hc:X.calm=true:=by rfl) (hx:X.xe=(λ_ _=>False):=by rfl) (Bf:Bh X.env scope=true:=by rfl) (yT:zE X.N scope [t] [none]=true:=by rfl) (yt:scope.kind=.function:=by rfl) (hs:∀x,aa0 iter X.env x=pure x:=by intro _;rfl) :
  BR ob X (.Assign [.Name y py] (.DictComp (.Name t p2) (.List [] p3) [⟨.Name t p1,iter,[],0⟩] scope pos) za) (jW i fi):=by
 subst Fi
 exact rB i hN hy hl hi hg hk GD hc hx Bf yT yt hs
variable{e:Expr}{px apos:Pos}
theorem jw(i:Nat){ke:Expr}{fk fv:WE}{ps yP:Pos}(hu:X.A.units+1<cLine)(ho:PE X (.Name x px) (yK i))(hk:yA ob X ke fk)(hv:yA ob X e fv)(Fi:ob=zW X.K:=by rfl)(Hc:HX ke:=by exact λ_ _=>rfl)
  (zx:acw (.Subscript (.Name x px) ke ps) "append" X.env (eval (.Subscript (.Name x px) ke ps) X.env)=eval (.Subscript (.Name x px) ke ps) X.env:=by rfl)
  (Ek:((backTo yP (aai [e] X.env)).all (λx=>!x.1) && (aeR yP (adz [] X.env)).all (λx=>x.1.isSome)
   && decide ([e].length+([]:List adX).length+(if ([]:List adX).isEmpty then 0 else 1)<30))=true:=by rfl)
  (zw:(apos.endLine==yP.line)=true:=by rfl) (Ha:aai [e] X.env=(false,eval e X.env)::aai [] X.env:=by rfl) (AQ:(backTo yP (aai [] X.env)).any (·.1)=false:=by rfl)
  (hs:ab9 (.Call (.Attribute (.Subscript (.Name x px) ke ps) "append" apos) [e] [] yP) none za.line X.env=pure false:=by rfl) :
  BR ob X (.Expr (.Call (.Attribute (.Subscript (.Name x px) ke ps) "append" apos) [e] [] yP) za) (d0 i fk fv):=by
 subst Fi
 exact rC i hu ho hk hv Hc zx Ek zw Ha AQ hs
variable{P:aaE}{w:World}{K:aag}{mg:Str->Option Value}{base:Heap}{k:Nat}{Ad:Addr}{fd:abz}{ps:List Str}
variable{n:Nat}
theorem vA{D D':Fd}(F:yd P w K mg base yQ k Ad fd ps (Kz ⟨P,w,K,ob⟩ n D))(h:∀xs P,D' xs P->D xs P):yd P w K mg base yQ k Ad fd ps (Kz ⟨P,w,K,ob⟩ n D') :=
 F.imp λvs H Q E ⟨F,xs,P,a,b,c,d,e⟩=>⟨F,xs,P,a,b,c,h _ _ d,e⟩
end Q
namespace Q
open PySem L2
variable{c:WT}{b:WS}{P:Wd}{k:Nat}{env:En}
theorem kT(I:Nat->En->Prop)(step:∀(k:Nat) (e:En) (N:En->Prop),I k e->(∀k' e',k'<k->I k' e'->N e')->c e λv e1=>if v=true then b {P with nx:=N,ct:=N,bk:=P.nx} e1 else P.nx e1)(h:I k env):Bi c b P env:=by
 refine⟨k+1,?_⟩
 have aux:∀n k env,k<n->I k env->D3 c b P n env:=by
  intro n
  induction n with
  |zero=>intro k env h _;omega
  |succ n ih=>intro k env hk hI;exact step k env (D3 c b P n) hI λk' e' h1 h2=>ih k' e' (by omega) h2
 exact aux _ k env (by omega) h
theorem aL{a:WS}(h:∀(A B:WS),A=a->B=b->c env λk e=>if k=true then A P e else B P e):AX c a b P env:=h _ _ rfl rfl
theorem kM(h:∀(C:WT) (B:WS),C=c->B=b->Bi C B P env):Bi c b P env:=h _ _ rfl rfl
variable{α:Type}
theorem bp{f:α->Str}{g:α->PV}:∀{l:List α} {a:α},(l.map f).Nodup->a∈l->zq (l.map λx=>((aan (f x):Key),g x)) (aan (f a))=some (g a)
 |b::l,a,nd,h=>by
  unfold zq
  rw[aau,abG]
  rw[aau,ac2]at nd
  rcases List.mem_cons.mp h with rfl|h
  .simp
  .have hne:f b≠f a:=λe=>nd.1 (by rw[e];exact abv h)
   have:decide ((aan (f b):Key)=aan (f a))=false:=by simp[hne]
   simp only[this]
   exact bp nd.2 h
theorem kO{f:α->Str}{g:α->PV}:∀{l:List α} {y:Str},y∉l.map f->zq (l.map λx=>((aan (f x):Key),g x)) (aan y)=none
 |[],_,_=>rfl
 |b::l,y,h=>by
  rw[aau,aaK,not_or]at h
  unfold zq
  rw[aau,abG]
  have:decide ((aan (f b):Key)=aan y)=false:=by simp;exact λe=>h.1 e.symm
  simp only[this]
  exact kO h.2
variable{y:Str}
theorem iL{f:α->Str}{g:α->PV}{l:List α}{v:PV}(h:y∉l.map f):AL (l.map λx=>((aan (f x):Key),g x)) (aan y) v=(l.map λx=>((aan (f x):Key),g x))++[(aan y,v)]:=by
 unfold AL
 rw[if_neg]
 rw[adW]
 intro z
 rw[acT]at z
 obtain⟨x,hx,e⟩:=z
 simp at e
 exact h (by rw[<- e];exact abv hx)
variable{ps:List Str}
theorem si{g:Str->PV}{v:PV}(h:y∈ps):AL (ps.map λx=>((aan x:Key),g x)) (aan y) v=ps.map λx=>((aan x:Key),if x=y then v else g x):=by
 unfold AL
 rw[if_pos]
 .rw[aaG]
  refine aaH λx hx=>?_
  show (if (aan x:Key)=aan y then ((aan x:Key),v)else (aan x,g x))=(aan x,if x=y then v else g x)
  by_cases e:x=y
  .simp[e]
  .simp[e]
 .rw[adW,acT]
  exact⟨y,h,by simp⟩
variable{ys:List Str}{x:Str}
theorem uZ:(ys.map PV.str).mapM (λy=>zb 60 y (.str x))=some (ys.map λy=>y==x):=by
 induction ys with
 |nil=>rfl
 |cons y ys ih=>
  rw[aau,abt,ih]
  rfl
theorem oD:GA (.str x) (.tup (ys.map .str))=some (decide (x∈ys)):=by
 show ((ys.map PV.str).mapM (λy=>zb 60 y (.str x))).map (λks=>ks.any id)=_
 rw[uZ]
 show some ((ys.map λy=>y==x).any id)=_
 congr 1
 rw[adW,aaL,acT]
 simp
theorem sZ:GA (.str x) (.lst (ys.map .str))=some (decide (x∈ys)):=oD
theorem bZ:A8 (.str x) (.tup (ys.map .str))=some (.bl (decide (x∈ys))):=by
 show (GA _ _).map _=_
 rw[oD];rfl
theorem pI:A8 (.str x) (.lst (ys.map .str))=some (.bl (decide (x∈ys))):=by
 show (GA _ _).map _=_
 rw[sZ];rfl
end Q
namespace L2
open PySem PySem.Spec PyProof.Rows
variable{X:Cx}
end L2
namespace Q
open PySem L2 PyProof.Rows
variable{ob:zl}{X:Cx}{a b c e:Expr}{es:List Expr}{f g h:WE}{fa:WA}{pos p p1:Pos}{x:Str}
def HL:PV->Option Str
 |.tup (.str s::_)=>some s
 |_=>none
def Et(fa:WA):WE:=λenv P=>fa env λxs e=>match xs with
 |[.lst ys]=>∃nm:List Str,ys.mapM HL=some nm/\nm.Nodup/\ys.length<64/\∀ix:List Nat,ix.length=ys.length->(∀i∈ix,i<ys.length)->(ix.map λi=>nm.getD i ⟨#[]⟩).Pairwise yL->P (.lst (ix.map λi=>ys.getD i .lT)) e
 |_=>False
variable{K:aag}{F H:Hp}{v:V}{y:PV}
theorem vz(sF:dO F H)(r:Rep K F v y)(h:HL y=some x):∃a t,v=.ref a/\zg K H a (.str x::t):=by
 unfold HL at h
 split at h
 .cases h
  cases r with
  |tup h1 h2=>cases h2 with
   |cons r1 r2=>cases r1;exact⟨_,_,rfl,aw sF h1⟩
 .cases h
variable{vs:List V}{ys:List PV}
theorem f8(r:oF K F vs ys):∀ix:List Nat,(∀i∈ix,i<ys.length)->oF K F (ix.map λi=>vs.getD i .lT) (ix.map λi=>ys.getD i .lT)
 |[],_=>.nil
 |i::ix,h=>by
  refine .cons ?_ (f8 r ix λj hj=>h j (aar _ hj))
  have hi:=h i aay
  obtain⟨v,hv,rv⟩:=r.get (aaa hi)
  show Rep K F (vs.getD i .lT) (ys.getD i .lT)
  rw[aac,aac,hv,aaa hi]
  exact rv
theorem tG(hg:Gl X "sorted")(hm:X.mg "sorted" = none)(ha:EE ob X (e::es) fa)
  (he:aai (e::es) X.env=(false,eval e X.env)::aai es X.env:=by rfl) (Ag:(backTo pos (aai es X.env)).any (·.1)=false:=by rfl):E5 ob X (.Call (.Name "sorted" p) (e::es) [] pos) (Et fa):=by
 obtain⟨t,ht,k⟩:=ha.ex
 refine⟨_,bT pR hg hm aed ht (by decide) (by decide) he Ag,λZ F σ H env P Q K hf kk=>k Z F σ H env _ _ K hf λxs e1 vs F1 H1 p s1 K1 r1=>?_⟩
 split at p
 .obtain⟨nm,hs,nd,hl,p⟩:=p
  obtain⟨v,rfl,r⟩:=r1.one
  obtain⟨q,vs,rfl,h1,h2⟩:=r.lst K1.sF
  have g1:=(bo hs).1
  have hlen:=h2.len
  refine⟨q,vs,nm,rfl,.inl (.inl h1),by omega,⟨by omega,λi v x hv hx=>?_,nd⟩,λl ix hn i1 i2 i3 i4=>?_⟩
  .obtain⟨y,hy,ry⟩:=h2.GK hv
   obtain⟨y',e1,e2⟩:=mw hs i x hx
   rw[hy]at e1;cases e1
   exact vz K1.sF ry e2
  .exact kk _ e1 _ F1 _ (p ix (by omega) (λi hi=>by have:=i3 i hi;omega) i4) s1 (λ_=>by simp) (K1.own hn ⟨_,ai,f8 h2 ix λi hi=>by have:=i3 i hi;omega⟩)
 .exact p.elim
end Q
namespace L2
open PySem PySem.Spec PyProof.Rows
variable{prog:aaE}{w:World}{A:Around}{E:Value->Shared->Prop}{s:Shared}
variable{X:Cx}
theorem vJ:yq X (.type "int") (λxs H Q=>∃b:Bool,xs=[.bl b]/\Q (.int (if b then 1 else 0)) H):=by
 intro pins s σ H xs us Q I r h
 obtain⟨b,rfl,q⟩:=h
 obtain⟨u,rfl,ru⟩:=r.one
 cases ru
 exact call_int_bool ⟨.int _,H,I.tok _,⟨_,rfl⟩,q⟩
end L2
namespace Q
open PySem L2 PyProof.Rows
def neT:PV->PV->Option PV
 |.tup xs,.tup ys=>(zb 60 (.tup xs) (.tup ys)).map λb=>.bl (!b)
 |_,_=>none
def LC(K:aag):R2:=λv u H Q=>∃F xs ys k,dO F H/\Rep K F v (.tup xs)/\Rep K F u (.tup ys)/\zb 60 (.tup xs) (.tup ys)=some k/\Q (.bl (!k)) H
def Gz:List PV->Option PV
 |[.bl b]=>some (.int (if b then 1 else 0))
 |_=>none
variable{ob:zl}{X:Cx}{a b c e:Expr}{es:List Expr}{f g h:WE}{fa:WA}{pos Jt p p1 p2:Pos}{x:Str}
theorem vL:BG ob X (λxs H Q=>∃b:Bool,xs=[.bl b]/\Q (.int (if b then 1 else 0)) H) Gz:=by
 intro Z F σ H env vs xs z Q K rv hz k
 unfold Gz at hz
 split at hz
 .cases hz
  obtain⟨v,rfl,r⟩:=rv.one
  rw[r.bl]
  exact⟨_,rfl,k _ F H am K (.int _)⟩
 .cases hz
theorem wG(hu:X.A.units+60<cLine):zf X (aa9 .NotEq) (LC X.K):=by
 intro pins s σ H x y v u Q I rx ry h
 obtain⟨F,xs,ys,k,sF,r1,r2,e,hq⟩:=h
 cases r1 with
 |tup h1 r1=>
 cases r2 with
 |tup h2 r2=>
 cases rx
 cases ry
 obtain⟨gE,rv,p,_⟩:=I.tuple (aw sF h1)
 obtain⟨zm,BA,p2,_⟩:=I.tuple (aw sF h2)
 have l1:gE.length=xs.length:=by rw[<- rv.length,r1.len]
 have l2:zm.length=ys.length:=by rw[<- BA.length,r2.len]
 have e':((xs.zip ys).mapM λp=>zb 59 p.1 p.2).map (λbs=>bs.all id && xs.length==ys.length)=some k:=e
 rw[aap]at e'
 obtain⟨bs,hb,ek⟩:=e'
 obtain⟨Fo,Fp⟩:=bo hb
 have t:=SeqAt.RcNeAt.tuples (A:=X.A) (e:=λj=>bs.getD j false) p p2 (by omega) (λj j1 j2=>by
  simp only[aaf]at j1 j2
  have jx:j<xs.length:=by omega
  have jy:j<ys.length:=by omega
  have hz:(xs.zip ys)[j]?=some (xs[j],ys[j]):=by rw[aa7];exact⟨by simp[jx],by simp[jy]⟩
  obtain⟨b,e1,e2⟩:=Fp j _ hz
  obtain⟨v1,q1,q2⟩:=r1.get (aaa jx)
  obtain⟨v2,q3,q4⟩:=r2.get (aaa jy)
  obtain⟨u1,q5,q6⟩:=rv.get q1
  obtain⟨u2,q7,q8⟩:=BA.get q3
  have g1:gE.toArray[j]=u1:=by simpa[aaa j1]using q5
  have g2:zm.toArray[j]=u2:=by simpa[aaa j2]using q7
  rw[g1,g2,show bs.getD j false=b by simp[aen,e1]]
  exact(Kf I sF (A:=X.A.in1) (d:=59) (by show X.A.units+1+59<cLine;omega) q2 q4 q6 q8 e2).2)
 have e3:((aaS (min gE.toArray.size zm.toArray.size)).all (λj=>bs.getD j false) && gE.toArray.size==zm.toArray.size)=k:=by
  have e4:min gE.toArray.size zm.toArray.size=bs.length:=by rw[Fo,adU,aaf,aaf,l1,l2]
  rw[e4,dA (λj hj=>by simp[aen,aaa hj]),aaf,aaf,l1,l2]
  exact ek
 rw[e3]at t
 exact t X.prog X.w X.xe _ ⟨.bl (!k),H,I,rfl,hq⟩
theorem uJ:Cz ob X (LC X.K) neT:=by
 refine bw (P:=λ_ _ _ _=>True) λF H v u x y z sF rx ry hz=>?_
 unfold neT at hz
 split at hz
 .rw[aap]at hz
  obtain⟨k,hk,rfl⟩:=hz
  exact⟨_,λ_=>.bl _,λQ q=>⟨F,_,_,k,sF,rx.FL,ry.FL,hk,q⟩⟩
 .cases hz
end Q
namespace L2
open PySem PySem.Spec PyProof.Rows PySem.W
def yC(h:Heap)(a:Addr)(k:Int×Str):Prop:=∃o n t u,h.get? a=some o/\o.cls=.type "tuple" /\ o.data=.seq #[.int k.1 t,.str k.2 u] n
variable{h h':Heap}{a:Addr}{k:Int×Str}
theorem yC.mono(x:yC h a k)(g:∀o,h.get? a=some o->h'.get? a=some o):yC h' a k:=by
 obtain⟨o,n,t,u,e,r⟩:=x
 exact⟨o,n,t,u,g o e,r⟩
def AE(ks:List (Int×Str))(i j:Nat):Bool:=decide ((ks.getD i (0,⟨#[]⟩)).1<(ks.getD j (0,⟨#[]⟩)).1\/((ks.getD i (0,⟨#[]⟩)).1=(ks.getD j (0,⟨#[]⟩)).1/\yL (ks.getD i (0,⟨#[]⟩)).2 (ks.getD j (0,⟨#[]⟩)).2))
variable{ks:List (Int×Str)}
theorem ki(nd:(ks.map (·.2)).Nodup):Srt.Ord (AE ks) ks.length:=by
 have inj:∀i j,i<ks.length->j<ks.length->(ks.getD i (0,⟨#[]⟩)).2=(ks.getD j (0,⟨#[]⟩)).2->i=j:=λi j hi hj e=>by
  have a:(ks.map (·.2))[i]'(by simpa using hi)=(ks.map (·.2))[j]'(by simpa using hj):=by
   rw[abL,abL]
   rw[aac,aac,aaa hi,aaa hj]at e
   exact e
  exact(abh nd).mp a
 refine⟨λi _=>?_,λi j k _ _ _ a b=>?_,λi j hi hj ne e=>?_⟩
 .unfold AE
  rw[decide_eq_false_iff_not]
  rintro(h|⟨_,h⟩)
  .omega
  .exact ad8 _ h
 .have a:=of_decide_eq_true a
  have b:=of_decide_eq_true b
  refine decide_eq_true ?_
  rcases a with a|⟨a1,a2⟩<;>rcases b with b|⟨b1,b2⟩
  .exact .inl (by omega)
  .exact .inl (by omega)
  .exact .inl (by omega)
  .exact .inr ⟨by omega,List.lt_trans a2 b2⟩
 .have e:=of_decide_eq_false e
  rw[not_or]at e
  refine decide_eq_true ?_
  rcases Int.lt_trichotomy (ks.getD i (0,⟨#[]⟩)).1 (ks.getD j (0,⟨#[]⟩)).1 with z|z|z
  .exact absurd z e.1
  .refine .inr ⟨z.symm,?_⟩
   have e2:¬ yL (ks.getD i (0,⟨#[]⟩)).2 (ks.getD j (0,⟨#[]⟩)).2:=λh=>e.2 ⟨z,h⟩
   unfold yL at e2 ⊢
   rcases List.le_iff_lt_or_eq.mp (List.not_lt.mp e2)with q|q
   .exact q
   .exfalso
    refine ne (inj i j hi hj ?_)
    generalize (ks.getD i (0,⟨#[]⟩)).2=x at q ⊢
    generalize (ks.getD j (0,⟨#[]⟩)).2=y at q ⊢
    obtain⟨x⟩:=x
    obtain⟨y⟩:=y
    exact congrArg Str.mk (Array.toList_inj.mp q.symm)
  .exact .inl z
variable{prog:aaE}{w:World}{A:Around}{E:Value->Shared->Prop}{s:Shared}
variable{x:Addr}
theorem n6{y:Addr}{l:Int×Str}{Q:Bool->Shared->Prop}(hx:yC s.heap x k)(hy:yC s.heap y l)(hne:k.2≠l.2)(h:Q (decide (k.1<l.1\/(k.1=l.1/\yL k.2 l.2))) s):wpAny (model prog w) A (keyLt' (ada true) (.ref x) (.ref y)) Q E s:=by
 obtain⟨ox,n,t,u,e1,_,e2⟩:=hx
 obtain⟨oy,n',t',u',f1,_,f2⟩:=hy
 refine kat_lt e1 e2 f1 f2 ?_
 refine kat_cons (wpAny_eqBool_int ?_)
 by_cases e:k.1=l.1
 .rw[show (k.1==l.1)=true by simp[e]]
  refine kat_yes (kat_cons (aeJ ?_))
  rw[decide_eq_false hne]
  refine kat_no ?_
  show wpAny _ _ (oneLt' false _ _) _ _ _
  refine kat_one _ _ (lt_str ?_)
  have:decide (k.1<l.1\/(k.1=l.1/\yL k.2 l.2))=decide (k.2.cps.toList<l.2.cps.toList):=by
   rw[aaL,decide_eq_true_eq,decide_eq_true_eq]
   constructor
   .rintro(z|⟨_,z⟩)
    .omega
    .exact z
   .intro z;exact .inr ⟨e,z⟩
  rw[this]at h
  exact h
 .rw[show (k.1==l.1)=false by simp[e]]
  refine kat_no ?_
  show wpAny _ _ (oneLt' true _ _) _ _ _
  refine oneLt_int ?_
  have:decide (k.1<l.1\/(k.1=l.1/\yL k.2 l.2))=decide (k.1<l.1):=by
   rw[aaL,decide_eq_true_eq,decide_eq_true_eq]
   exact⟨λz=>z.elim id λq=>absurd q.1 e,.inl⟩
  rw[this]at h
  exact h
variable{kS:Addr}{e e1:Nat}{P:PySem.Fin->Shared->Prop}
theorem ou{n:Nat}{keys:Array Value}{st:SortSt}{out:List Value}(hk:s.heap.get? kS=some (seqObj "list" keys e))(ha:s.heap.get? a=some (seqObj "list" #[] e1))(hne:kS≠a)(SU:keys.size<=100)
  (ho:(arrOf st).map (·.2)=out.toArray) (hf:failedOf st=none) (hz:out.length<=100)
  (h:∀(h':Heap) (c:Nat),h'.get? a=some (seqObj "list" out.toArray c)->(∀b o,b≠a->b≠kS->s.heap.get? b=some o->h'.get? b=some o)->P (.done (.ret .none)) {s with heap:=h'}) :
  wpAny (model prog w) A (ksk_tail a false e1 (.ref kS) st) P E s:=by
 have s1:=aaX s.heap kS (aa1 λ_=>(#[]:Array Value))
 have C2:(s.heap.update kS (aa1 λ_=>(#[]:Array Value))).get? a=some (seqObj "list" #[] e1):=(s1.2 a hne.symm).trans ha
 unfold ksk_tail
 dsimp only
 rw[ho]
 refine aab (ab5 hk rfl ?_ (by rw[aax];omega) (aaU _))
 refine aab (acC ?_)
 refine aab (ady C2 rfl ?_)
 refine aab (ab5 C2 rfl ?_ (aaU _) (by simp only[ab8,if_false,aaf];rw[aax];omega))
 rw[hf]
 simp only[bne_self_eq_false,ab8,if_false]
 have s2:=aaX (s.heap.update kS (aa1 λ_=>(#[]:Array Value))) a (aa1 λ_=>out.toArray)
 exact aaj (h _ _ (abF C2 λ_=>out.toArray) λb o h1 h2 g=>(s2.2 b h1).trans ((s1.2 b h2).trans g))
theorem gi:∀ad:List Addr,(∀a∈ad,∃k,yC h a k)->∃fs:List Value,KatTups h (ad.map aas) fs/\fs.length=ad.length/\∀v∈fs,∃c t,v=.int c t
 |[],_=>⟨[],trivial,rfl,λ_ z=>by simp at z⟩
 |a::ad,hp=>by
  obtain⟨fs,h1,h2,h3⟩:=gi ad λb hb=>hp b (aar _ hb)
  obtain⟨k,o,n,t,u,e1,e2,e3⟩:=hp a aay
  refine⟨.int k.1 t::fs,⟨⟨a,o,_,n,rfl,e1,e2,e3,rfl⟩,h1⟩,by simp[h2],λv hv=>?_⟩
  rcases List.mem_cons.mp hv with rfl|hv
  .exact⟨_,_,rfl⟩
  .exact h3 v hv
variable{ad:List Addr}{vs:List Value}{i:Nat}
theorem cX(hl:ad.length=vs.length)(hi:i<vs.length):acO ((ad.map aas).toArray.zip vs.toArray) i=(.ref (ad.getD i 0),vs.getD i aaO):=by
 unfold acO
 have Cc:i<ad.length:=by omega
 have hz:i<((ad.map aas).toArray.zip vs.toArray).size:=by rw[afj,aaf,aaf,aae];omega
 rw[Array.getD,dif_pos hz]
 show ((ad.map aas).toArray.zip vs.toArray)[i]=_
 rw[Array.getElem_zip,List.getElem_toArray,List.getElem_toArray,abL,aac,aac,aaa Cc,aaa hi]
 rfl
theorem qU(hk:s.heap.get? kS=some (seqObj "list" (ad.map aas).toArray e))(ha:s.heap.get? a=some (seqObj "list" #[] e1))(hne:kS≠a)
  (l1:ad.length=vs.length) (l2:ks.length=vs.length) (zO:vs.length<64) (nd:(ks.map (·.2)).Nodup) (hp:∀i,i<vs.length->yC s.heap (ad.getD i 0) (ks.getD i (0,⟨#[]⟩)))
  (h:∀(h':Heap) (c:Nat) (ix:List Nat),ix.length=vs.length->ix.Nodup->(∀i∈ix,i<vs.length)->ix.Pairwise (λi j=>AE ks i j=true)->h'.get? a=some (seqObj "list" (ix.map λi=>vs.getD i aaO).toArray c)->(∀b o,b≠a->b≠kS->s.heap.get? b=some o->h'.get? b=some o)->P (.done (.ret .none)) {s with heap:=h'}) :
  wpAny (model prog w) A (ksk_end a false vs.toArray e1 (.ref kS) (ad.map aas).toArray) P E s:=by
 have kz:(ad.map aas).toArray.size<=100:=by rw[aaf,aae];omega
 unfold ksk_end
 dsimp only
 simp only[ab8,if_false]
 by_cases h2:vs.toArray.size<2
 .rw[if_pos h2,if_pos h2]
  rw[aaf]at h2
  refine aab (aaj ?_)
  rw[ae1]
  refine aab (aaj ?_)
  dsimp only
  have ei:(aaS vs.length).map (λi=>vs.getD i aaO)=vs:=by
   apply acx
   intro i
   rw[aah]
   by_cases hi:i<vs.length
   .rw[abX hi];simp[hi]
   .rw[aaq (by simpa using hi),aaq (by omega)];rfl
  refine ou (st:=adn general' ((ad.map aas).toArray.zip vs.toArray) #[] 7 none) (out:=vs) (n:=0) hk ha hne kz ?_ rfl (by omega) λh' c g1 g2=>?_
  .apply Array.toList_inj.mp
   show (((ad.map aas).toArray.zip vs.toArray).map (·.2)).toList=vs
   rw[adE,adD]
   show ((ad.map aas).zip vs).map (·.2)=vs
   exact adC (by rw[aae];omega)
  .refine h h' c (aaS vs.length) (by simp) acR (λi hi=>List.mem_range.mp hi) ?_ (by rw[ei];exact g1) g2
   match hv:vs.length,h2 with
   |0,_=>simp
   |1,_=>simp[adS]
 .rw[if_neg h2,if_neg h2]
  rw[aaf]at h2
  obtain⟨fs,f1,f2,f3⟩:=gi ad λb hb=>by
   obtain⟨i,hi,rfl⟩:=List.mem_iff_getElem.mp hb
   have:=hp i (by omega)
   rw[aac,aaa hi]at this
   exact⟨_,this⟩
  refine aab (kat_kind (T:=.type "int") f1 (by omega) (λv hv=>?_) rfl ?_)
  .obtain⟨c,t,rfl⟩:=f3 v hv
   exact Looks.of_pure rfl
  have hT:((abS "int") != (abS "tuple"))=true:=by decide
  rw[hT]
  have O5:((ad.map aas).toArray.zip vs.toArray).size=vs.length:=by rw[afj,aaf,aaf,aae];omega
  have Qi:adn (ada true) ((ad.map aas).toArray.zip vs.toArray) #[] 7 none=kas_st (ada true) ((ad.map aas).toArray.zip vs.toArray) (ac9 (aaS vs.length)):=by
   have q:=kas_range ((ad.map aas).toArray.zip vs.toArray)
   rw[O5]at q
   show _=adn (ada true) ((ac9 (aaS vs.length)).map (acO _)) #[] 7 none
   rw[q]
  have o:Srt.Ord (AE ks) vs.length:=l2 ▸ ki nd
  have D9:∀i j,i<vs.length->j<vs.length->i≠j->(ks.getD i (0,⟨#[]⟩)).2≠(ks.getD j (0,⟨#[]⟩)).2:=λi j hi hj ne q=>by
   have a:(ks.map (·.2))[i]'(by rw[aae];omega)=(ks.map (·.2))[j]'(by rw[aae];omega):=by
    rw[abL,abL]
    rw[aac,aac,aaa (by omega),aaa (by omega)]at q
    exact q
   exact ne ((abh nd).mp a)
  have ask:(kas_sort vs.length).kasWp (kas_cmp prog w A (ada true) ((ad.map aas).toArray.zip vs.toArray)) (λp z=>z=s/\Srt.Pm p vs.length/\Srt.EG (AE ks) p vs.length) s:=by
   refine Srt.pw_wp (lt:=AE ks) (n:=vs.length) (Q:=λp=>Srt.Pm p vs.length/\Srt.EG (AE ks) p vs.length) (J:=λz=>z=s) ?_ (λp z hz q=>⟨hz,q⟩) (kas_sort vs.length) _ rfl (Srt.jQ o (by omega) λp a b=>⟨a,b⟩)
   rintro i j C z hi hj ne rfl hC
   show wpAny _ _ (keyLt' (ada true) (acO _ i).1 (acO _ j).1) _ _ _
   rw[cX l1 hi,cX l1 hj]
   exact n6 (hp i hi) (hp j hj) (D9 i j hi hj ne) (hC _ rfl)
  have run:=kas_runs (E:=E) (Q:=λ_ CB z=>∃p:Array Nat,p.size=vs.length/\arrOf CB=p.map (acO ((ad.map aas).toArray.zip vs.toArray))/\failedOf CB=none/\z=s/\Srt.Pm p vs.length/\Srt.EG (AE ks) p vs.length)
   (by omega) zO (λp' CB z a1 a2 a3 a4=>⟨p',a1,a2,a3,a4⟩) ask
  rw[<- Qi]at run
  refine aab (aaM run ?_ λ_ _ q=>q)
  rintro⟨⟨⟩,CB⟩ z ⟨p,LO,PY,hf,rfl,Pm,As⟩
  dsimp only
  have y6:∀i∈p.toList,i<vs.length:=λi hi=>by
   obtain⟨j,hj,rfl⟩:=Array.mem_iff_getElem.mp (Array.mem_toList_iff.mp hi)
   have:=Pm.lt j (by rw[<- Pm.sz];exact hj)
   rw[Srt.aK]at this
   simpa only[adh hj,acB]using this
  refine ou (st:=CB) (out:=p.toList.map λi=>vs.getD i aaO) (n:=0) hk ha hne kz ?_ hf (by rw[aae,abe,LO];omega) λh' c g1 g2=>h h' c p.toList (by rw[abe,LO]) ?_ y6 ?_ g1 g2
  .apply Array.toList_inj.mp
   rw[PY,Array.map_map,adE]
   exact aaH λi hi=>by show (acO _ i).2=_;rw[cX l1 (y6 i hi)]
  .rw[ab2,abD]
   intro i j hi hj AR q
   have Cc:i<p.size:=by simpa using hi
   have Bn:j<p.size:=by simpa using hj
   have:=Pm.nd i j (by rw[<- Pm.sz];exact Cc) (by rw[<- Pm.sz];exact Bn) (by rw[Srt.aK,Srt.aK];simpa[Cc,Bn]using q)
   omega
  .rw[abD]
   intro i j hi hj AR
   have Cc:i<p.size:=by simpa using hi
   have Bn:j<p.size:=by simpa using hj
   have:=As i j AR (by rw[<- Pm.sz];exact Bn)
   rw[Srt.aK,Srt.aK]at this
   simpa[Cc,Bn]using this
def eZ(prog:aaE)(w:World)(A:Around)(s:Shared)(f:Value)(keep:Addr->Prop)(v:Value)(a:Addr):Prop :=
 ∀(h:Heap) (tk:Nat),(∀b o,keep b->s.heap.get? b=some o->h.get? b=some o)->wpAny (model prog w) A (call f [v]) (λr z=>r=.ref a/\∃h' G4,z={s with heap:=h',toks:=G4}/\∀b o,h.get? b=some o->h'.get? b=some o) (λ_ _=>False) {s with heap:=h,toks:=tk}
variable{f:Value}
theorem vc(hk:s.heap.get? kS=some (seqObj "list" #[] 0))(ha:s.heap.get? a=some (seqObj "list" #[] e1))(hne:kS≠a)
  (l1:ad.length=vs.length) (l2:ks.length=vs.length) (zO:vs.length<64) (nd:(ks.map (·.2)).Nodup) (hp:∀i,i<vs.length->yC s.heap (ad.getD i 0) (ks.getD i (0,⟨#[]⟩))) (SF:∀i,i<vs.length->ad.getD i 0≠kS)
  (turn:∀i,i<vs.length->eZ prog w A s f (λb=>b≠kS) (vs.getD i .none) (ad.getD i 0))
  (h:∀(h':Heap) (tk c:Nat) (ix:List Nat),ix.length=vs.length->ix.Nodup->(∀i∈ix,i<vs.length)->ix.Pairwise (λi j=>AE ks i j=true)->h'.get? a=some (seqObj "list" (ix.map λi=>vs.getD i aaO).toArray c)->(∀b o,b≠a->b≠kS->s.heap.get? b=some o->h'.get? b=some o)->P (.done (.ret .none)) {s with heap:=h',toks:=tk}) :
  wpAny (model prog w) A (ksk_rest a f false vs.toArray e1 (.ref kS)) P E s:=by
 unfold ksk_rest
 refine aab (acD ?_)
 rw[List.forIn_toArray]
 refine aab (ksk_fold (λi z=>∃h' tk e,z={s with heap:=h',toks:=tk}/\(∀b o,b≠kS->s.heap.get? b=some o->h'.get? b=some o)/\h'.get? kS=some (seqObj "list" ((ad.take i).map aas).toArray e)) vs 0 s
  ⟨s.heap,s.toks,0,rfl,λb o _ g=>g,hk⟩ ?_ ?_)
 .rintro j x z hx ⟨h',tk,e,rfl,g1,g2⟩
  rw[aaY]at g2 ⊢
  have hj:j<vs.length:=(List.getElem?_eq_some_iff.mp hx).1
  have ev:vs.getD j .none=x:=by rw[aac,hx];rfl
  have t:=turn j hj h' tk λb o hb g=>g1 b o hb g
  rw[ev]at t
  refine aab (aei (aaM t (λv z hz=>?_) λ_ _ q=>q.elim))
  obtain⟨rfl,h2,IT,rfl,g3⟩:=hz
  dsimp only
  have gk:=g3 _ _ g2
  have s1:=aaX h2 kS (aa1 (·.push (.ref (ad.getD j 0))))
  refine aab (ab5 gk rfl ?_ (by rw[aaf,aae,aaI,aax];omega) (aaZ (adR (Array.size_push ..)) (by rw[aaf,aae,aaI,aax];omega)))
  have ej:(((ad.take j).map aas).toArray.push (.ref (ad.getD j 0)))=((ad.take (j+1)).map aas).toArray:=by
   have Rm:j<ad.length:=by omega
   apply Array.toList_inj.mp
   rw[Array.toList_push]
   show (ad.take j).map aas++[.ref (ad.getD j 0)]=(ad.take (j+1)).map aas
   rw[abx,aaa Rm,aac,aaa Rm,aaW]
   rfl
  obtain⟨c2,GJ⟩:∃c2,(h2.update kS (aa1 (·.push (.ref (ad.getD j 0))))).get? kS=some (seqObj "list" (((ad.take j).map aas).toArray.push (.ref (ad.getD j 0))) c2):=⟨_,abF gk (·.push (.ref (ad.getD j 0)))⟩
  rw[ej]at GJ
  exact aaj ⟨rfl,_,IT,c2,rfl,λb o hb g=>(s1.2 b hb).trans (g3 b o (g1 b o hb g)),GJ⟩
 .rintro z ⟨h',tk,e,rfl,g1,g2⟩
  rw[aaY,adI (by omega)]at g2
  refine aab (adO g2 rfl ?_)
  refine qU (s:={s with heap:=h',toks:=tk}) g2 (g1 a _ hne.symm ha) hne l1 l2 zO nd (λi hi=>(hp i hi).mono λo q=>g1 _ o (SF i hi) q) λh2 c ix i1 i2 i3 i4 i5 i6=>h h2 tk c ix i1 i2 i3 i4 i5 λb o b1 b2 g=>i6 b o b1 b2 (g1 b o b2 g)
variable{n:Nat}
theorem vb(ha:s.heap.get? a=some (seqObj "list" vs.toArray n))
  (l1:ad.length=vs.length) (l2:ks.length=vs.length) (zO:vs.length<64) (nd:(ks.map (·.2)).Nodup) (hp:∀i,i<vs.length->yC s.heap (ad.getD i 0) (ks.getD i (0,⟨#[]⟩))) (SG:∀i,i<vs.length->ad.getD i 0≠a)
  (turn:∀i,i<vs.length->eZ prog w A s f (λb=>b≠a) (vs.getD i .none) (ad.getD i 0))
  (h:∀(h':Heap) (tk c:Nat) (ix:List Nat),ix.length=vs.length->ix.Nodup->(∀i∈ix,i<vs.length)->ix.Pairwise (λi j=>AE ks i j=true)->h'.get? a=some (seqObj "list" (ix.map λi=>vs.getD i aaO).toArray c)->(∀b o,b≠a->s.heap.get? b=some o->h'.get? b=some o)->P (.done (.ret .none)) {s with heap:=h',toks:=tk}) :
  wpAny (model prog w) A (ksk_tree a f false) P E s:=by
 have Rr:a<s.heap.objs.size:=aak ha
 have s1:=aaX s.heap a (aa1 λ_=>(#[]:Array Value))
 have C2:=abF ha λ_=>(#[]:Array Value)
 unfold ksk_tree
 refine aab (adO ha rfl ?_)
 refine aab (ab5 ha rfl ?_ (by rw[aaf,aax];omega) (aaU _))
 refine aab (ady C2 rfl ?_)
 refine aab (ad5 ?_ (by show vs.length<=_;rw[aax];omega))
 refine aab (ach ?_ (aaU _))
 refine aaT ?_
 generalize hH:((s.heap.update a (aa1 λ_=>(#[]:Array Value))).push (seqObj "tuple" vs.toArray 0))=H1
 have kz:H1.objs.size=s.heap.objs.size+1:=by rw[<- hH,size_push',Heap.size_update]
 have old:∀b o,b≠a->s.heap.get? b=some o->(H1.push (seqObj "list" #[] 0)).get? b=some o:=λb o hb g=>by
  rw[<- hH]
  exact aad _ (aad _ ((s1.2 b hb).trans g))
 have lt:∀b o,s.heap.get? b=some o->b≠H1.objs.size:=λb o g=>by
  have:=aak g
  rw[kz];exact aaw (abB this)
 refine vc (s:={s with heap:=H1.push (seqObj "list" #[] 0)}) (kS:=H1.objs.size) (a:=a) (aal _ rfl) ?_ ?_ l1 l2 zO nd (λi hi=>?_) (λi hi=>?_) (λi hi=>?_) λh' tk c ix i1 i2 i3 i4 i5 i6=>h h' tk c ix i1 i2 i3 i4 i5 λb o hb g=>i6 b o hb (lt b o g) (old b o hb g)
 .rw[<- hH]
  exact aad _ (aad _ C2)
 .exact(lt a _ ha).symm
 .exact(hp i hi).mono λo q=>old _ o (SG i hi) q
 .obtain⟨o,_,_,_,g,_⟩:=hp i hi
  exact lt _ o g
 .intro h2 tk g
  exact turn i hi h2 tk λb o hb q=>g b o (lt b o q) (old b o hb q)
variable{l q:Addr}{ob:Obj}{Q:Value->Shared->Prop}
theorem qT{n0:Nat}(ho:s.heap.get? l=some ob)(hc:ob.cls=.type "tuple")(hd:ob.data=.seq vs.toArray n0)
  (l1:ad.length=vs.length) (l2:ks.length=vs.length) (zO:vs.length<64) (nd:(ks.map (·.2)).Nodup) (hp:∀i,i<vs.length->yC s.heap (ad.getD i 0) (ks.getD i (0,⟨#[]⟩)))
  (turn:∀i,i<vs.length->eZ prog w A.in1.in1 s (.ref q) (λ_=>True) (vs.getD i .none) (ad.getD i 0))
  (h:∀(D:Addr) (h1 h':Heap) (tk c:Nat) (ix:List Nat),(∀b o,s.heap.get? b=some o->h1.get? b=some o)->h1.objs.size<=D->ix.length=vs.length->ix.Nodup->(∀i∈ix,i<vs.length)->ix.Pairwise (λi j=>AE ks i j=true)->h'.get? D=some (seqObj "list" (ix.map λi=>vs.getD i aaO).toArray c)->(∀b o,s.heap.get? b=some o->h'.get? b=some o)->Q (.ref D) {s with heap:=h',toks:=tk}) :
  wpAny (model prog w) A (call (.builtin "sorted") [.ref l] [(aaF "key",.ref q)]) Q E s:=by
 refine call_function_entry_kw aeX aeD aeE (ksk_s1 _ _) ?_
 unfold ac6.«sorted»
 refine aab (m:=checkCount "sorted" 1 1 _) (aaj ?_)
 refine aab (wpAny_collect_seq l (.inr rfl) ho hc hd (λh1 kk=>?_) (by rw[aaf,aax];omega))
 refine aab (ach ?_ (by show vs.length<=_;rw[aax];omega))
 have DX:(h1.push (seqObj "list" vs.toArray 0)).get? h1.objs.size=some (seqObj "list" vs.toArray 0):=aal _ rfl
 have old:∀b o,s.heap.get? b=some o->(h1.push (seqObj "list" vs.toArray 0)).get? b=some o:=λb o g=>aad _ (kk b o g)
 have ne:∀b o,s.heap.get? b=some o->b≠h1.objs.size:=λb o g=>aaw (aak (kk b o g))
 refine aab (aaT (wpAny_call_entry_kw adb ⟨_,DX,rfl⟩ acZ ?_ (ksk_l1 _ _)))
 show wpAny (model prog w) A.in1.in1 (ac6.«list.sort» ⟨[.ref h1.objs.size],[(aaF "key",.ref q)]⟩) _ _ _
 rw[ksk_t1]
 refine vb (s:={s with heap:=h1.push (seqObj "list" vs.toArray 0)}) DX l1 l2 zO nd (λi hi=>(hp i hi).mono λo g=>old _ o g) (λi hi=>?_) (λi hi h2 tk g=>turn i hi h2 tk λb o _ z=>g b o (ne b o z) (old b o z)) λh' tk c ix i1 i2 i3 i4 i5 i6=>⟨_,rfl,?_⟩
 .obtain⟨o,_,_,_,g,_⟩:=hp i hi
  exact ne _ o g
 .exact aaj ⟨_,rfl,h h1.objs.size h1 h' tk c ix kk (aam _) i1 i2 i3 i4 i5 λb o g=>i6 b o (ne b o g) (old b o g)⟩
structure Cm(x d:Str)(params:Arguments)(scope:Scope):Prop where
 kind:scope.kind=.function
 co:scope.isCoroutine=false
 gen:scope.isGenerator=false
 nc:∀y∈scope.names,y.2≠.cell
 lx:scope.names.lookup x=some .local
 ld:scope.names.lookup d=some .free
 ne:(x==d)=false
 dx:(x==("__debug__" : Str))=false
 dd:(d==("__debug__" : Str))=false
 dc:(d==("__classdict__" : Str))=false
 bd:∀(qual:Str) (body:Expr) (cl:List (Str×Addr)) (pm yx ct v:Value),acP (kla_fn "<lambda>" qual params body scope cl pm yx ct) ⟨[v],[]⟩=pure [(x,v)]
variable{X:Cx}{pins:List (Addr×Obj)}{σ:St}{H:Hp}{z:Shared}{B:Around}
variable{scope:Scope}{qual:Str}{pm:Value}{t:Tok}{kvs:List (Key×V)}
theorem mD{c' cell dd:Addr}{x d nm:Str}{params:Arguments}{p1 p2 p3:Pos}{GW:Value}(S:Cm x d params scope)(I:Inv X pins σ H z)(Mv:B.depth<recursionLimit)
  (ho:z.heap.get? q=some (kla_obj "<lambda>" qual params (.Subscript (.Name d p1) (.Name x p2) p3) scope [(d,cell)] pm c' GW)) (Cd:z.heap.CodeRec (.ref c') qual) (JP:z.heap.NoLimit) (Ac:z.heap.IsCell cell (some (.ref dd)))
  (hD:H dd=some (.dK kvs)) (hv:zG kvs (aan nm)=some (.ref a)) :
  wpAny (model X.prog X.w) B (call (.ref q) [.str nm t]) (λv z'=>v=.ref a/\∃h' G4,z'={z with heap:=h',toks:=G4}/\∀b o,z.heap.get? b=some o->h'.get? b=some o) (λ_ _=>False) z:=by
 refine wpAny_call (kla_callFunE Mv ho rfl S.co S.gen rfl Cd ?_)
 rw[S.bd]
 refine aaj (ad4 S.nc (λy hy=>by rw[List.mem_singleton]at hy;subst hy;exact S.lx) (λh1 Hc Sz=>?_) S.kind)
 have kk:∀b o,z.heap.get? b=some o->h1.get? b=some o:=λb o g=>(Sz.2 b (aaw (aak g))).trans (aad _ g)
 refine⟨JP.keeps kk,kla_codeExpr ?_⟩
 have I1:Inv X pins σ H {z with heap:=h1,toks:=z.toks+1}:=I.kept kk
 obtain⟨z1,z2,vs,rel,dD⟩:=jD I1.ye hD
 obtain⟨u,hu,ru⟩:=BN.some_of (v:=V.ref a) (o:=aeq vs (aan nm)) (by rw[<- hv];exact rel.val _)
 cases ru
 have JY:h1.IsCell cell (some (.ref dd)):=by
  obtain⟨o,e,r⟩:=Ac
  exact⟨o,kk _ _ e,r⟩
 refine Subscript_ ?_
 refine aep (wpAny_loadName_free S.kind S.ld (c:=cell) (show ac4 d [(d,cell)]=some cell by simp) JY ?_ S.dc) S.dd
 refine aep (wpAny_loadName_local S.kind S.lx Hc (show ac4 x [(x,adk nm t)]=some (adk nm t)by simp) ?_) S.dx
 refine tail_any dD.typeIs PySem.F.slot_dict_getitem.lookup (wpAny_getItem_of (dF (k:=aan nm) (show RelV (.str nm) (.str nm t)from ⟨t,rfl⟩)) dD.mapOf hu ?_) rfl
 exact⟨rfl,h1,_,rfl,kk⟩
def A6(f:Addr)(ob:Obj):HO:=.ext λh=>h.get? f=some ob
theorem qR{P:aaE}(e:h.get? a=some ob):yk P w H h a (A6 a ob):=⟨e,⟨_,e⟩,λh1 h2 x k=>k _ x⟩
theorem vN{P:aaE}{lq:Str}(e:h.CodeRec (.ref a) lq):yk P w H h a (zA a lq):=by
 refine⟨e,?_,λh1 h2 x k=>?_⟩
 .obtain⟨c,oc,vs,tq,hc,KP,r⟩:=e
  cases hc
  exact⟨_,KP⟩
 .obtain⟨c,oc,vs,tq,hc,KP,r⟩:=x
  cases hc
  exact⟨_,oc,vs,tq,rfl,k _ KP,r⟩
structure CN(X:Cx)(lq d:Str)(params:Arguments)(body:Expr)(scope:Scope)(c':Addr)(ob:Obj):Prop where
 ex:∃cell GW,X.env.cells.lookup d=some cell/\ob=kla_obj "<lambda>" lq params body scope [(d,cell)] ((X.mg "__name__").getD .none) c' GW
def E9(X:Cx)(lq d:Str)(yf:Pos)(P:Addr)(params:Arguments)(body:Expr)(scope:Scope):TE:=λ_ H Q=>∃ps:Array Value,H P=some (zo P ps)/\TriplesOk ps.toList /\
 ((acz yf ps.toList=none/\∀c' f ob,H c'=none->H f=none->c'≠f->c'≠P->f≠P->CN X lq d params body scope c' ob->Q (.ref f) (upd (upd (upd H P (zo P (ps++#[rawInt yf.line,rawInt yf.col,.ref c']))) c' (zA c' lq)) f (A6 f ob))) \/
  (∃c',acz yf ps.toList=some (.ref c')/\H c'=some (zA c' lq)/\∀f ob,H f=none->CN X lq d params body scope c' ob->Q (.ref f) (upd H f (A6 f ob))))
structure BMain(mg:Str->Option Value)(h:Heap):Prop where
 ex:∃bm o,mg "__builtins__" = some (.ref bm)/\bm≠aes/\h.get? bm=some o/\o.cls=.type "module" /\ o.dict=some aes/\o.data=.plain
structure Cn(d:Str)(params:Arguments)(scope:Scope):Prop where
 df:∀env,defaultsOf params env=([],[])
 cl:∀(env:Env) (cell:Addr),env.cells.lookup d=some cell->aer scope env=pure [(d,cell)]
variable{lq d:Str}{yf:Pos}{P c:Addr}{params:Arguments}{body:Expr}
theorem qy(S:Cn d params scope)(hq:X.env.qual ++ "<lambda>" = lq)(AF:X.env.code=.ref c)(hC:abf X.K c P=true)(hB:BMain X.mg X.base)(hd:X.env.kindOf d=some .cell):PE X (.Lambda params body scope yf) (E9 X lq d yf P params body scope):=by
 intro pins s σ H Q I h
 obtain⟨ps,eP,ht,h⟩:=h
 obtain⟨cell,Ac⟩:=I.ok.has d (.inl hd)
 have hP:s.heap.get? P=some (tabObj ps):=(I.ye P _ eP).1
 have hg:s.heap.Ns aaJ X.mg:=I.mod.glob.keeps I.bk
 have C:CodeHd s.heap c P:=PySem.W.codeHd_of_K I.CI hC
 have S7:aaJ≠P:=λe=>by
  obtain⟨o,es,ep,g1,g2,_⟩:=hg
  rw[e,hP]at g1;cases g1;cases g2
 have hb:s.heap.BuiltinsAt X.mg P:=by
  obtain⟨bm,o,b1,b2,b3,b4,b5,b6⟩:=hB.ex
  refine⟨bm,o,b1,b2,λe=>?_,λe=>?_,I.bk _ _ b3,b4,b5,b6⟩
  .obtain⟨o',es,ep,g1,g2,_⟩:=hg
   rw[<- e,I.bk _ _ b3]at g1;cases g1
   rw[b6]at g2;cases g2
  .have:=I.bk _ _ b3
   rw[e,hP]at this;cases this;cases b4
 refine kla_eval (S.df _) ?_
 rw[hq]
 rcases h with ⟨SM,h⟩|⟨c',hf,Dz,h⟩
 .refine kla_makeFunction (mg:=X.mg) (S.cl _ _ Ac) I.ok.glob hg AF C hP ht SM S7 hb λc' GW h' tk hx FE y6 Pk Ms=>?_
  have Hh:H c'=none:=I.ye.fresh FE
  have nP:∀b,H b=none->b≠P:=λb n z=>by rw[z,eP]at n;cases n
  have nc:∀b o,s.heap.get? b=some o->b≠c':=λb o g=>aaw (aaA (aak g) FE)
  have Si:c'≠P:=λz=>by rw[z,eP]at Hh;cases Hh
  have un:Un X.fs [] H (upd (upd H P (zo P (ps++#[rawInt yf.line,rawInt yf.col,.ref c']))) c' (zA c' lq)) s.heap h':=by
   refine⟨λb o q n _ _=>hx b o (nP b n) q,λb o q n _ _=>⟨o.slots,hx b o (nP b n) q⟩,λb o q n _=>?_,λb o q _=>?_,λb xs q=>?_,λb o u q=>?_,λb qs q=>?_⟩
   .rw[af (nc b o q),af (nP b n)];exact n
   .by_cases z:b=P
    .subst z;exact⟨_,Ms⟩
    .exact⟨o,hx b o z q⟩
   .rw[af (av q Hh),af (λz=>by rw[z,eP]at q;cases q)];exact q
   .rw[af (av q Hh),af (λz=>by rw[z,eP]at q;cases q)];exact q
   .refine⟨#[],?_⟩
    rw[af (av q Hh),af (λz=>by rw[z,eP]at q;cases q),q];simp
  have ye:AA X.prog X.w (upd (upd H P (zo P (ps++#[rawInt yf.line,rawInt yf.col,.ref c']))) c' (zA c' lq)) h':=λb u q=>by
   by_cases z:b=c'
   .subst z
    rw[ai]at q;cases q
    exact vN Pk
   .rw[af z]at q
    by_cases z2:b=P
    .subst z2
     rw[ai]at q;cases q
     exact lM Ms
    .rw[af z2]at q
     refine(I.ye b u q).BV (λe o he g=>hx e o (λy=>?_) g) (λe he=>?_) λe xs he=>?_
     .subst y
      rcases he with y|y
      .exact z2 y.symm
      .rw[eP]at y;cases y
     .rw[af (av he Hh),af (λy=>by rw[y,eP]at he;cases he)];exact he
     .rw[af (av he Hh),af (λy=>by rw[y,eP]at he;cases he)];exact he
  have I1:Inv X pins σ _ {s with heap:=h',toks:=tk}:=I.un un ye
  have Rq:=I1.ye.fresh (a:=h'.objs.size) (aam _)
  have fc:h'.objs.size≠c':=abQ y6
  have fP:h'.objs.size≠P:=abQ (aak Ms)
  have JU:H h'.objs.size=none:=by rw[af fc,af fP]at Rq;exact Rq
  refine⟨.ref h'.objs.size,_,I1.laid (t':=tk) (a:=h'.objs.size) (o:=A6 h'.objs.size (kla_obj "<lambda>" lq params body scope [(d,cell)] ((X.mg "__name__").getD .none) c' GW)) (λb u g=>aad _ g) (aam _) (qR (aal _ rfl)),rfl,h c' _ _ Hh JU (abO fc) Si fP ⟨cell,GW,Ac,rfl⟩⟩
 .refine kla_makeFunctionHit (mg:=X.mg) (S.cl _ _ Ac) I.ok.glob hg AF C hP ht hf hb λGW h' tk kk hsz=>?_
  exact⟨.ref h'.objs.size,_,I.laid (t':=tk) (a:=h'.objs.size) (o:=A6 h'.objs.size (kla_obj "<lambda>" lq params body scope [(d,cell)] ((X.mg "__name__").getD .none) c' GW)) (λb u g=>aad _ (kk b u g)) hsz (qR (aal _ rfl)),rfl,h _ _ (I.ye.fresh hsz) ⟨cell,GW,Ac,rfl⟩⟩
structure HY(ks:List (Int×Str))(n:Nat)(ix:List Nat):Prop where
 len:ix.length=n
 nd:ix.Nodup
 lt:∀i∈ix,i<n
 up:ix.Pairwise λi j=>AE ks i j=true
abbrev k0:Int×Str:=(0,⟨#[]⟩)
def FU(X:Cx)(lq d:Str)(yf:Pos)(P:Addr)(params:Arguments)(body:Expr)(scope:Scope)(i:Nat)(σ:St)(Q:VK):VK:=λv H1=>∃(l:Addr) (ss:List Str) (dd:Addr) (kvs:List (Key×V)) (ad:List Addr) (ks:List (Int×Str)),
 v=.ref l/\zg X.K H1 l (ss.map V.str)/\ss.length<64/\σ[i]?=some (some (.ref dd))/\H1 dd=some (.dK kvs)/\ad.length=ss.length/\ks.length=ss.length/\(ks.map (·.2)).Nodup /\
 (∀j,j<ss.length->zG kvs (aan (ss.getD j ⟨#[]⟩))=some (.ref (ad.getD j 0))/\zg X.K H1 (ad.getD j 0) [.int (ks.getD j k0).1,.str (ks.getD j k0).2]) /\
 E9 X lq d yf P params body scope σ H1 λ_ H2=>∀D ix,H2 D=none->HY ks ss.length ix->Q (.ref D) (upd H2 D (.lst (ix.map λj=>V.str (ss.getD j ⟨#[]⟩))))
def IW(X:Cx)(lq d:Str)(yf:Pos)(P:Addr)(params:Arguments)(body:Expr)(scope:Scope)(i:Nat)(te:TE):TE:=λσ H Q=>te σ H (FU X lq d yf P params body scope i σ Q)
variable{K:aag}{xs:List V}
theorem gF{H2:Hp}{ps:Array Value}(eP:H P=some (zo P ps))(k:∀b o,H b=some o->b≠P->H2 b=some o)(h:zg K H a xs):zg K H2 a xs:=by
 rcases h with (h|⟨o,h⟩)|h
 .exact .inl (.inl (k a _ h λz=>by rw[z,eP]at h;cases h))
 .exact .inl (.inr ⟨o,k a _ h λz=>by rw[z,eP]at h;cases h⟩)
 .exact .inr h
variable{x:Str}{p p1 p2 p3 Ar pos:Pos}{e:Expr}{te:TE}{k:Nat}
variable{gE:List Value}
theorem j6{m:Int}{s:Str}(rv:tO [.int m,.str s] gE)(t:IsTup h a gE.toArray):yC h a (m,s):=by
 obtain⟨o,g1,g2,n,g3⟩:=t
 cases rv with
 |cons r1 r2=>
  cases r2 with
  |cons r2 r3=>
   cases r3
   obtain⟨t,rfl⟩:=r1
   obtain⟨u,rfl⟩:=r2
   exact⟨o,n,t,u,g1,g2,g3⟩
theorem sr(S:Cm x d params scope)(S2:Cn d params scope)(hr:yj k X.A)(hg:Gl X "sorted")(hm:X.mg "sorted" = none)(hq:X.env.qual ++ "<lambda>" = lq)(AF:X.env.code=.ref c)(hC:abf X.K c P=true)(hB:BMain X.mg X.base)
  (hi:X.N[i]?=some d) (hd:X.env.kindOf d=some .cell) (hv:Dj X.env.scope d) (he:PE X e te)
  (hs:aai [e] X.env=(false,eval e X.env)::aai [] X.env:=by rfl)
  (h1:backTo pos (aai [e] X.env)=(false,eval e X.env)::backTo pos (aai [] X.env):=by rfl) (h2:(backTo pos (aai [e] X.env)).any (·.1)=false:=by rfl) :
  PE X (.Call (.Name "sorted" p) [e] [⟨some "key",.Lambda params (.Subscript (.Name d p1) (.Name x p2) p3) scope yf,Ar⟩] pos) (IW X lq d yf P params (.Subscript (.Name d p1) (.Name x p2) p3) scope i te):=by
 intro pins s σ H Q I h
 refine ab4 (cb I hg hm aed ?_)
 refine aeZ (yM ((aM he aW hs) pos pins s σ H (λvs H1=>match vs with|[v]=>FU X lq d yf P params (.Subscript (.Name d p1) (.Name x p2) p3) scope i σ Q v H1|_=>False) I h) λus s1 ⟨vs,H1,I1,r1,q1⟩=>?_) h1 h2
 dsimp only at q1
 split at q1
 case h_2=>exact q1.elim
 obtain⟨l,ss,dd,kvs,ad,ks,rfl,hl,zO,hσ,Fn,l1,l2,nd,hk,hL⟩:=q1
 obtain⟨u,rfl,ru⟩:=r1.one
 cases ru
 obtain⟨ps,eP,hL⟩:=hL
 have Qp:dd≠P:=λz=>by rw[z,eP]at Fn;cases Fn
 have lam:E9 X lq d yf P params (.Subscript (.Name d p1) (.Name x p2) p3) scope σ H1 λfv H2=>∃f c' ob,fv=.ref f/\H2 f=some (A6 f ob)/\CN X lq d params (.Subscript (.Name d p1) (.Name x p2) p3) scope c' ob/\H2 c'=some (zA c' lq)/\(∀b o,H1 b=some o->b≠P->H2 b=some o) /\
   ∀D ix,H2 D=none->HY ks ss.length ix->Q (.ref D) (upd H2 D (.lst (ix.map λj=>V.str (ss.getD j ⟨#[]⟩)))):=by
  refine⟨ps,eP,hL.1,?_⟩
  rcases hL.2 with ⟨g1,g2⟩|⟨c',g1,g2,g3⟩
  .refine .inl ⟨g1,λc' f ob a1 a2 a3 a4 a5 a6=>⟨f,c',ob,rfl,ai,a6,?_,λb o hb hP=>?_,g2 c' f ob a1 a2 a3 a4 a5 a6⟩⟩
   .rw[af a3,ai]
   .rw[af (av hb a2),af (av hb a1),af hP];exact hb
  .refine .inr ⟨c',g1,g2,λf ob a1 a2=>⟨f,c',ob,rfl,ai,a2,?_,λb o hb _=>?_,g3 f ob a1 a2⟩⟩
   .rw[af (av g2 a1)];exact g2
   .rw[af (av hb a1)];exact hb
 refine yM ((cT (qy S2 hq AF hC hB hd) jm) pos pins s1 σ H1 (λvs H2=>match vs with|[fv]=>∃f c' ob,fv=.ref f/\H2 f=some (A6 f ob)/\CN X lq d params (.Subscript (.Name d p1) (.Name x p2) p3) scope c' ob/\H2 c'=some (zA c' lq)/\(∀b o,H1 b=some o->b≠P->H2 b=some o) /\
   (∀D ix,H2 D=none->HY ks ss.length ix->Q (.ref D) (upd H2 D (.lst (ix.map λj=>V.str (ss.getD j ⟨#[]⟩)))))|_=>False) I1 lam) λws s2 ⟨zs,H2,I2,rz,q2⟩=>?_
 dsimp only at q2
 split at q2
 case h_2=>exact q2.elim
 obtain⟨f,c',ob,rfl,ef,⟨cell,GW,Ac,rfl⟩,ec,keep,hQ⟩:=q2
 obtain⟨u,rfl,ru⟩:=rz.one
 cases ru
 show wpAny _ _ (call (.builtin "sorted") [.ref l] [(aaF "key",.ref f)]) _ _ _
 obtain⟨gE,rv,⟨o,g1,g2,n0,g3⟩,hz⟩:=I2.tuple (gF eP keep hl)
 have hlen:gE.length=ss.length:=by have:=rv.length;rw[aae]at this;exact this.symm
 have NF:∀j,j<ss.length->∃t,gE.getD j aaO=.str (ss.getD j ⟨#[]⟩) t:=λj hj=>by
  obtain⟨u,hu,ru⟩:=rv.get (i:=j) (show (ss.map V.str)[j]?=some (.str (ss.getD j ⟨#[]⟩))by rw[aah,aaa hj,aac,aaa hj];rfl)
  obtain⟨t,rfl⟩:=ru
  exact⟨t,by rw[aac,hu];rfl⟩
 have cellAt:s2.heap.IsCell cell (some (.ref dd)):=by
  obtain⟨m,_,JO⟩:=I2.loc
  obtain⟨u,ru,lk⟩:=JO i d _ hi hσ hv
  cases ru
  rcases lk with ⟨y,_⟩|⟨_,c2,y1,y2⟩
  .rw[hd]at y;cases y
  .rw[Ac]at y1;cases y1;exact y2
 have lim:s2.heap.NoLimit:=I2.mod.nolimit.keeps I2.bk
 refine qT (vs:=gE) (ad:=ad) (ks:=ks) g1 g2 g3 (by omega) (by omega) (by omega) nd (λj hj=>?_) (λj hj h tk kk=>?_) λD UQ h' tk cc ix k1 k2 i1 i2 i3 i4 i5 i6=>?_
 .obtain⟨zm,FA,Lh,_⟩:=I2.tuple (gF eP keep (hk j (by omega)).2)
  exact j6 FA Lh
 .obtain⟨t,et⟩:=NF j (by omega)
  rw[et]
  have Gv:∀b o,s2.heap.get? b=some o->h.get? b=some o:=λb o g=>kk b o trivial g
  have I3:Inv X pins σ H2 {s2 with heap:=h,toks:=tk}:=I2.kept Gv
  refine mD (z:={s2 with heap:=h,toks:=tk}) S I3 ?_ (Gv _ _ (I2.ye f _ ef).1) ?_ (lim.keeps Gv) ?_ (keep _ _ Fn Qp) (hk j (by omega)).1
  .have:=hr.dp
   show X.A.depth<recursionLimit
   omega
  .exact(I2.ye c' _ ec).2.2 _ _ (I2.ye c' _ ec).1 λo g=>Gv _ _ g
  .obtain⟨o,y,r⟩:=cellAt
   exact⟨o,Gv _ _ y,r⟩
 .have KZ:s2.heap.get? D=none:=by
   cases y:s2.heap.get? D with
   |none=>rfl
   |some o=>exact absurd (aaA (aak (k1 D o y)) k2) (abd _)
  have J:Inv X pins σ H2 {s2 with heap:=s2.heap,toks:=tk}:=I2.kept λ_ _ g=>g
  obtain⟨m,hm,_⟩:=I2.loc
  have y6:∀y∈ix,y<ss.length:=λy hy=>by have:=i3 y hy;omega
  have pick:=rv.pick ix λy hy=>by rw[aae];exact y6 y hy
  have ep:(ix.map λy=>(ss.map V.str).getD y V.lT)=ix.map λj=>V.str (ss.getD j ⟨#[]⟩):=aaH λy hy=>by
   have NH:=y6 y hy
   rw[aac,aah,aaa NH,aac,aaa NH];rfl
  rw[ep]at pick
  refine⟨.ref D,_,J.Ir (xs:=ix.map λj=>V.str (ss.getD j ⟨#[]⟩)) hm (hm.keeps i6) (λb o _ g=>i6 b o g) KZ ⟨?_,ix.map λy=>gE.getD y aaO,cc,pick,i5⟩,rfl,hQ D ix (I2.ye.dead KZ) ⟨by omega,i2,y6,i4⟩⟩
  rw[aae,i1,aax];omega
end L2
namespace L2
open PySem PySem.Spec PyProof.Rows
variable{P:aaE}{w:World}{K:aag}{mg:Str->Option Value}{base:Heap}
variable{x qual:Str}{st:Stmt}{f:Addr}{fd:abz}{N ps:List Str}{k:Nat}{sp:Sp}
theorem EC.Sd(F:EC K x qual st f fd)(S:az N ps (aq st))(len:∀vs H Q E,sp vs H Q E->vs.length=ps.length)
  (DA:∀(yx:Value),fd.code=yx->∀(A:Around) (outer:List Env) (s:Shared) (H:Hp) (vs:List V) (Q:VK) (E:XK),yj k (A.deeper (envOfC qual (aq st) s.heap.objs.size f yx))->sp vs H Q E ->
   ∃t,EB (BM yQ P w K mg base N qual (aq st) f yx A outer s H E).Gk (bc st) t/\t {nx:=λ_ H'=>Q .lT H',rt:=Q} (start N vs) H):yd P w K mg base yQ (k+1) f fd ps sp:=by
 obtain⟨oc,od,kV,doc,pm,an,yx,ct,Hv,rfl,lk,Cd⟩:=F.ex
 refine t7 lk Cd S len λA outer s H vs Q E hr Hb=>?_
 obtain⟨t,h,q⟩:=DA yx rfl A outer s H vs Q E hr Hb
 exact⟨t,h.Gk,q⟩
variable{X:Cx}{pins:List (Addr×Obj)}{σ:St}{H:Hp}{s:Shared}{n:Nat}{v:V}
theorem Inv.hide(I:Inv X pins σ H s){nm:Str}(hN:X.N[n]?=some nm)(hv:¬ Dj X.env.scope nm):Inv X pins (σ.set n (some v)) H s:=by
 refine⟨I.ok,I.os,I.bare,I.base,?_,I.cell,I.free,I.Ai,I.pin,I.ye,by rw[ae6];exact I.len⟩
 obtain⟨m,hn,hl⟩:=I.loc
 refine⟨m,hn,λi x u e1 e2 e3=>?_⟩
 by_cases z:n=i
 .subst z
  rw[hN]at e1;cases e1
  exact absurd e3 hv
 .rw[aaD z]at e2
  exact hl i x u e1 e2 e3
end L2
namespace Q
open PySem L2 PyProof.Rows
def Fm(n:Nat)(c:PV)(xs:List PV):En:=yE n xs++[some ⟨2,c⟩]
def Ny(n:Nat)(P:PV->Prop)(e:En):Prop:=match e[n]? with
 |some (some ⟨2,c⟩)=>P c
 |_=>False
def DE(n:Nat)(P:PV->PV->Prop):Wd:={nx:=λe=>Ny n (P .lT) e,rt:=λx e=>Ny n (P x) e}
def A4(n:Nat)(u:WS):BO:=λc xs P=>u (DE n P) (Fm n c xs)
def spT(M:Md)(n:Nat)(D:BO):Sp:=λvs H Q _=>∃(F:Hp) (a:Addr) (l:List Addr) (c:PV) (xs:List PV) (P:PV->PV->Prop),dO F H/\oF M.K F vs xs/\xs.length=n /\
 M.ob.P F H a l c/\(∀b∈l,H b≠none/\F b=none)/\D c xs P /\
 ∀r c' v F' H' l',P r c'->(∀b o,H b=some o->b∉l->H' b=some o)->(∀b,H b≠none->H' b≠none)->dO F F'->dO F' H'->(∀a,F' a≠none->F a≠none\/H a=none)->M.ob.P F' H' a l' c'->(∀b∈l',H' b≠none/\F' b=none)->(∀b∈l',b∈l\/H b=none)->Rep M.K F' v r->Q v H'
variable{M:Md}{F H:Hp}{N:List Str}{ws:List V}{xs:List PV}{a:Addr}{l:List Addr}{c:PV}{n:Nat}
theorem o7(sF:dO F H)(r:oF M.K F ws xs)(hN:N.length=n+1)(hl:xs.length<=n)(ho:M.ob.P F H a l c)(hb:∀b∈l,H b≠none/\F b=none):
  x3 M ⟨H,F,l,λi=>if i=n then some a else none,λb h=>(hb b h).1⟩ F ((start N ws).set n (some (.ref a))) H (Fm n c xs):=by
 have Fk:ws.length<=n:=by rw[r.len];exact hl
 have hs:(start N ws).length=n+1:=by rw[fV (by omega),hN]
 have he:(yE n xs).length=n:=fq hl
 refine⟨sF,λb o h _=>h,λb h=>h,am,λa h=>.inl h,?_,λi=>if i=n then l else [],λi s h=>?_,λi b h=>?_,λi j b AR h z=>?_,λi b s h _ _=>?_⟩
 .unfold Fm
  rw[aaQ,he,ae6,hs];rfl
 .rcases adp i n with z|z|z
  .unfold Fm at h
   rw[aav (by omega)]at h
   obtain⟨x,hx,rfl⟩:=ft h
   obtain⟨v,hv,rv⟩:=r.get hx
   refine⟨v,?_,.inl ⟨rfl,if_neg (by omega),rv⟩⟩
   rw[aaD (by omega)]
   exact cA hv
  .subst z
   unfold Fm at h
   rw[ab3 (by omega),he,Nat.sub_self]at h
   have h:s=⟨2,c⟩:=by simpa using h.symm
   subst h
   refine⟨.ref a,?_,.inr (.inr (.inl ⟨.inl rfl,a,rfl,λc hc=>.inl (by rwa [if_pos rfl]at hc),by rw[if_pos rfl];exact ho⟩))⟩
   rw[aco (by omega)]
  .unfold Fm at h
   rw[aaq (by rw[aaQ,he];simp;omega)]at h;cases h
 .split at h
  .exact hb b h
  .simp at h
 .split at h
  .split at z
   .rename_i h1 h2;exact AR (h1.trans h2.symm)
   .simp at z
  .simp at h
 .dsimp only at h
  split at h
  .rename_i e;subst e;cases h
   rw[aco (by omega)]
  .cases h
variable{P:aaE}{w:World}{K:aag}{mg:Str->Option Value}{base:Heap}{ob:zl}
variable{x qual:Str}{st:Stmt}{f:Addr}{fd:abz}{ps:List Str}{k:Nat}{u:WS}
theorem eG{nm:Str}(F:EC K x qual st f fd)(S:az N ps (aq st))(hN:N.length=n+1)(hn:ps.length<=n)(Pr:N[n]?=some nm)(hv:¬ Dj (aq st) nm)
  (hb:∀(yx:Value),fd.code=yx->∀(A:Around) (outer:List Env) (s:Shared) (H:Hp) (E:XK),yj k (A.deeper (envOfC qual (aq st) s.heap.objs.size f yx))->Bx ob (BM yQ P w K mg base N qual (aq st) f yx A outer s H E).Gk (bc st) u) :
  yd P w K mg base yQ (k+1) f fd ps (spT ⟨P,w,K,ob⟩ ps.length (A4 n u)):=by
 refine F.Sd S (λvs H Q E h=>?_) (λyx C0 A outer s H vs Q E hr h=>?_)
 .obtain⟨F,a,l,c,xs,P,_,r,hl,_⟩:=h
  rw[r.len];exact hl
 .obtain⟨F,a,l,c,xs,P',sF,r,hl,ho,Fo,hD,kk⟩:=h
  obtain⟨t,ht,kt⟩:=(hb yx C0 A outer s H E hr).ex
  have fin:∀(x:PV) (env:En) (v:V) (σ:L2.St) (F' H':Hp),Ny n (P' x) env->dO F F'->x3 ⟨P,w,K,ob⟩ ⟨H,F,l,λi=>if i=n then some a else none,λb h=>(Fo b h).1⟩ F' σ H' env->Rep K F' v x->Q v H':=λx env v σ F' H' p s1 K1 rv=>by
   unfold Ny at p
   split at p
   .rename_i c' e
    obtain⟨fp,L⟩:=K1.sl
    obtain⟨v0,CJ,ok⟩:=L.at' n _ e
    have hσ:=L.oa n a _ (if_pos rfl) e rfl
    rw[hσ]at CJ;cases CJ
    rcases ok with ⟨k0,_⟩|⟨k0,_⟩|⟨_,a',e',h1,h2⟩|⟨k0,_⟩
    .cases k0
    .cases k0
    .cases e'
     exact kk x _ v F' H' (fp n) p (λb o h1 h2=>K1.sG b o h1 h2) (λb h=>K1.pr b h) s1 K1.sF K1.nw h2 (λb hb=>L.al n b hb) (λb hb=>h1 b hb) rv
    .cases k0
   .exact p.elim
  refine⟨λD σ H=>t D (σ.set n (some (.ref a))) H,λpins s' σ H' D I q=>ht pins s' _ H' D (I.hide Pr hv) q,kt ⟨H,F,l,λi=>if i=n then some a else none,λb h=>(Fo b h).1⟩ F ((start N vs).set n (some (.ref a))) H (Fm n c xs) (DE n P') _ (o7 (M:=⟨P,w,K,ob⟩) sF r hN (by omega) ho Fo) hD ⟨λenv σ F' H' p s1 K1=>?_,λx env v σ F' H' p s1 K1 rv=>?_,λ_ _ _ _ p=>p.elim,λ_ _ _ _ p=>p.elim,λ_ _ _ _ _ _ p=>p.elim,λ_ _ _ _ _ _ _ p=>p.elim⟩⟩
  .exact fin .lT env .lT σ F' H' p s1 K1 .lT
  .exact fin x env v σ F' H' p s1 K1 rv
variable{Ad:Addr}{D:BO}
theorem eI{D':BO}(F:yd P w K mg base yQ k Ad fd ps (spT ⟨P,w,K,ob⟩ n D))(h:∀c xs P,D' c xs P->D c xs P):yd P w K mg base yQ k Ad fd ps (spT ⟨P,w,K,ob⟩ n D') :=
 F.imp λvs H Q E q=>by
  obtain⟨F,a,l,c,xs,P,a1,a2,a3,a4,a5,a6,a7⟩:=q
  exact⟨F,a,l,c,xs,P,a1,a2,a3,a4,a5,h _ _ _ a6,a7⟩
def zd(D:BO)(j:Nat)(fa:WA):WE:=λenv P=>fa env λxs e=>match e[j]? with
 |some (some ⟨2,c⟩)=>D c xs λr c'=>P r (e.set j (some ⟨2,c'⟩))
 |some (some ⟨4,c⟩)=>D c xs λr c'=>P r (e.set j (some ⟨4,c'⟩))
 |_=>False
variable{X:Cx}{DO:BO}{p pos:Pos}{e:Expr}{es:List Expr}{fa:WA}
theorem tJ(j:Nat)(F:yd X.prog X.w X.K X.mg X.base yQ k Ad fd ps (spT (md ob X) n DO))(hr:yj k X.A)(hm:X.mg x=some (.ref Ad))(hk:abw X.K (.ref Ad)=true)(hb:Binds X.K fd ps [])(ha:DP ob X (e::es) fa)(hn:es.length+1=n:=by rfl)(hg:Gl X x:=by rfl)
  (A9:(x==("__debug__" : Str))=false:=by decide) (he:aai (e::es) X.env=(false,eval e X.env)::aai es X.env:=by rfl) (Ag:(backTo pos (aai es X.env)).any (·.1)=false:=by rfl) :
  yA ob X (.Call (.Name x p) (e::es) [] pos) (zd DO j fa):=by
 obtain⟨t,ht,kt⟩:=ha.ex
 refine⟨_,cU (E:=E0) F hr hg hm hk hb .nil CC ht A9 he Ag,λZ F σ H env P Q K hf kk=>?_⟩
 refine kt Z F σ H env _ _ K hf λxs e1 vs F1 H1 p hl s1 K1 r1=>?_
 show spT (md ob X) n DO (vs++[]) H1 Q E0
 rw[abb]
 have fin:∀(kd:Nat) (c:PV),kd=2\/kd=4->e1[j]?=some (some ⟨kd,c⟩)->DO c xs (λr c'=>P r (e1.set j (some ⟨kd,c'⟩)))->spT (md ob X) n DO vs H1 Q E0:=λkd c HH ei p=>by
  obtain⟨fp,L⟩:=K1.sl
  obtain⟨v0,CJ,ok⟩:=L.at' j _ ei
  rcases ok with ⟨k0,_⟩|⟨k0,_⟩|⟨_,a,rfl,_,ho⟩|⟨k0,_⟩
  .rcases HH with rfl|rfl<;>cases k0
  .rcases HH with rfl|rfl<;>cases k0
  .refine⟨F1,a,fp j,c,xs,_,K1.sF,r1,by rw[hl];exact hn,ho,λb hb=>L.al j b hb,p,λr c' v F' H' l' pr kp pre sF Gc nw Di Fk HE rv=>?_⟩
   exact kk r _ v F' H' pr (ah s1 sF) (K1.Hw HH L ei CJ kp pre sF Gc nw Di Fk HE).1 rv
  .rcases HH with rfl|rfl<;>cases k0
 split at p
 .rename_i ei;exact fin _ _ (.inl rfl) ei p
 .rename_i ei;exact fin _ _ (.inr rfl) ei p
 .exact p.elim
end Q
namespace Q
open PySem L2 PyProof.Rows PySem.W
variable{p:Pos}
theorem iq{q:Pos}(h1:p.line=q.line)(h2:p.col=q.col)(l:List Value):acz p l=acz q l:=by
 fun_induction acz p l with
 |case1 line t col u c rest h=>rw[acz,<- h1,<- h2,if_pos h]
 |case2 line t col u c rest h ih=>rw[acz,<- h1,<- h2,if_neg h];exact ih
 |case3 l h=> 
  unfold acz
  split
  .rename_i a b c d e f
   exact absurd rfl (h _ _ _ _ _ _)
  .rfl
variable{α:Type}{j:Nat}
theorem sd{l:List α}{y:α}(h:l[j]?=some y):l.set j y=l:=by
 apply acx
 intro i
 by_cases z:j=i
 .subst z
  rw[aco (List.getElem?_eq_some_iff.mp h).1,h]
 .rw[aaD z]
variable{lq:Str}{ln co:Nat}{a b:Addr}
theorem nK{OW:Str}{Q8 RG:Nat}(h:yY lq ln co a=yY OW Q8 RG b):lq=OW/\ln=Q8/\co=RG/\a=b:=by
 unfold yY at h
 injection h with h
 injection h with h1 h
 injection h with h2 h
 injection h with h3 h
 injection h with h4 _
 injection h1 with h1
 injection h2 with h2
 injection h3 with h3
 injection h4 with h4
 exact⟨h1,by omega,by omega,by exact Int.ofNat.inj h4⟩
variable{X:Cx}{d x:Str}{yf p1 p2 p3 Ar pos:Pos}{T c:Addr}{params:Arguments}{scope:Scope}{e:Expr}{f:WE}{i k:Nat}{ob:zl}
end Q
namespace L2
open PySem PySem.Spec PyProof.Rows
end L2
namespace Q
open PySem L2 PyProof.Rows
end Q
namespace L2
open PySem PySem.Spec PyProof.Rows
variable{X:Cx}{pins:List (Addr×Obj)}{σ:St}{H:Hp}{s:Shared}{kvs:List (Key×V)}{o:Obj}
theorem Inv.Jd{d:Addr}(I:Inv X pins σ H s)(e:H d=some (.dK kvs))(ho:s.heap.get? d=some o):Inv X pins σ (upd H d (.Ay o (.dK kvs))) s:=by
 have un:Un X.fs [] H (upd H d (.Ay o (.dK kvs))) s.heap s.heap:=by
  refine⟨λb u q n _ _=>q,λb u q n _ _=>⟨u.slots,q⟩,λb u q n _=>?_,λb u q _=>⟨u,q⟩,λb xs q=>?_,λb u v q=>?_,λb qs q=>⟨#[],?_⟩⟩
  .rw[af (λz=>by rw[z,e]at n;cases n)];exact n
  .rw[af (λz=>by rw[z,e]at q;cases q)];exact q
  .rw[af (λz=>by rw[z,e]at q;cases q)];exact q
  .rw[af (λz=>by rw[z,e]at q;cases q),q];simp
 have ye:AA X.prog X.w (upd H d (.Ay o (.dK kvs))) s.heap:=λb u q=>by
  have st:∀c v,H c=some v->yk X.prog X.w (upd H d (.Ay o (.dK kvs))) s.heap c v:=λc v hc=>
   (I.ye c v hc).BV (λ_ _ _ g=>g) (λx hx=>by rw[af (λz=>by rw[z,e]at hx;cases hx)];exact hx) λx xs hx=>by rw[af (λz=>by rw[z,e]at hx;cases hx)];exact hx
  by_cases z:b=d
  .subst z
   rw[ai]at q;cases q
   exact⟨ho,st b _ e⟩
  .rw[af z]at q
   exact st b u q
 have:=I.un (t':=s.toks) un ye
 exact this
def QB(d:Addr)(o:Obj)(kvs:List (Key×V)):It :=
 ⟨λi H=>H d=some (.Ay o (.dK kvs))/\i<kvs.length,
  λi H v H'=>∃p k x,v=.ref p/\H p=none/\H'=upd H p (.tup [kV k,x])/\kvs[i]?=some (k,x),
  λi H=>H d=some (.Ay o (.dK kvs))/\kvs.length<=i⟩
variable{vs:List (Key×Value)}
theorem wQ(r:KV kvs vs):∀{i:Nat} {k:Key} {x:V},kvs[i]?=some (k,x)->∃u,vs[i]?=some (k,u)/\RelV x u:=by
 induction r with
 |nil=>intro i k x e;simp at e
 |@cons p q ps qs h t ih=>
  intro i k x e
  cases i with
  |zero=>
   simp only[abP,aeu]at e
   subst e
   obtain⟨k',u⟩:=q
   obtain⟨h1,h2⟩:=h
   dsimp only at h1 h2
   subst h1
   exact⟨u,rfl,h2⟩
  |succ i=>
   simp only[ack]at e ⊢
   exact ih e
variable{P:aaE}{w:World}{K:aag}{elts:List Expr}{pos:Pos}{it:Addr}
theorem o0{x1:_}{d:Addr}{es:Array DictEntry}{ep:Nat}(r:KV kvs vs)(hx:o.ExactDict)(GI:o.data=.dict es ep)(hk:KeysOf (aF P w) es)(hp:Pairs (aF P w) es.toList vs)(hn:(vs.map (·.1)).Nodup):
  Turn P w K (.Tuple elts x1 pos) (QB d o kvs) [it] it (λn h=>∃a b,IsItemIter h it d n vs.length ep a b) where
 mem:=by simp
 obj:=λn h ⟨a,b,Z⟩ c hc=>by
  rw[List.mem_singleton.mp hc]
  exact⟨_,Z,λv e=>by cases (show ac5 _=ae9 v from e)⟩
 keep:=λn h h' ⟨a,b,Z⟩ k=>⟨a,b,k it (by simp) _ Z⟩
 item:=by
  intro X hP hw hK hc n pins s σ H E I hf Z hg
  subst hP hw hK
  obtain⟨ka,kb,Z⟩:=Z
  obtain⟨hd,y6⟩:=hg
  have ho:s.heap.get? d=some o:=(I.ye d _ hd).1
  have D:s.heap.DictAt (aF X.prog X.w) d vs ep:=⟨o,es,ho,hx,GI,hk,hp,hn⟩
  obtain⟨⟨k,x⟩,Ri⟩:∃q,kvs[n]?=some q:=⟨_,aaa y6⟩
  obtain⟨u,hu,ru⟩:=wQ r Ri
  have CK:H s.heap.objs.size=none:=I.ye.fresh (aam _)
  have Hd:it<s.heap.objs.size:=aak Z
  have SK:s.heap.objs.size≠it:=abQ Hd
  refine wpAny_pyNext_items_item Z D hu λkey h' q1 q2 q3 q4 kk=>?_
  have rk:RelV (kV k) key:=by
   rcases aR q1 with ⟨i,t,rfl,rfl⟩|⟨y,t,rfl,rfl⟩
   .exact⟨t,rfl⟩
   .exact⟨t,rfl⟩
  refine⟨_,rfl,wpAny_letOwnedTupleGo_items (s:={s with heap:=h'}) q2 λh2 w1 w2=>?_⟩
  have I1:Inv X pins σ (upd H s.heap.objs.size (.tup [kV k,x])) {s with heap:=s.heap.push {cls:=.type "tuple",data:=.seq #[key,u]}} :=
   I.laid (t':=s.toks) (λb u e=>aad _ e) (aam _) ⟨by show 2<=sizeLine;decide,[key,u],.cons rk (.cons ru .nil),⟨_,aal _ rfl,rfl,_,rfl⟩⟩
  have JU:∀c∈[it],zN X pins (upd H s.heap.objs.size (.tup [kV k,x])) c:=λc hc=>by
   rw[List.mem_singleton.mp hc]
   have:=hf it (by simp)
   exact⟨by rw[af (abO SK)];exact this.1,this.2⟩
  have I2:Inv X pins σ (upd H s.heap.objs.size (.tup [kV k,x])) {s with heap:=h2}:=by
   refine I1.BP (t':=s.toks) (h':=h2) (λc q hc e=>?_) JU
   have NQ:c≠it:=λe=>hc (by simp[e])
   refine w2.extBut _ _ NQ ?_
   by_cases Hf:c=s.heap.objs.size
   .subst Hf
    have:(s.heap.push {cls:=.type "tuple",data:=.seq #[key,u]}).get? s.heap.objs.size=some {cls:=.type "tuple",data:=.seq #[key,u]}:=aal _ rfl
    have e':some {cls:=.type "tuple",data:=.seq #[key,u]}=some q:=this.symm.trans e
    rw[<- e'];exact q3
   .exact kk c q NQ ((Heap.get?_push_ne _ _ _ Hf).symm.trans e)
  exact⟨.ref s.heap.objs.size,_,I2,rfl,⟨_,k,x,rfl,CK,rfl,Ri⟩,⟨_,_,w1⟩,λc hc=>(JU c hc).1⟩
 done:=by
  intro X hP hw hK hc n pins s σ H E I hf Z hg
  subst hP hw hK
  obtain⟨ka,kb,Z⟩:=Z
  obtain⟨hd,hle⟩:=hg
  have ho:s.heap.get? d=some o:=(I.ye d _ hd).1
  have D:s.heap.DictAt (aF X.prog X.w) d vs ep:=⟨o,es,ho,hx,GI,hk,hp,hn⟩
  have hl:=r.length
  refine wpAny_pyNext_items_end (I.ok.hd hc) Z D (aaq (by omega)) λh' kk=>⟨rfl,I.BP (t':=s.toks) (λc q hc e=>kk c q (λz=>hc (by simp[z])) e) hf⟩
 self:=λ_ _ _ _ _ ⟨_,_,Z⟩ h=>PySem.W.kcp_self Z h
def JE(to:TE):TI:=λσ H R=>to σ H λv H1=>∃d kvs,v=.ref d/\H1 d=some (.dK kvs)/\∀o,R (QB d o kvs) (upd H1 d (.Ay o (.dK kvs)))
theorem so{x1:_}{CQ:Pos}{o:Expr}{to:TE}{apos:Pos}(ho:PE X o to)
  (zx:acw o "items" X.env (eval o X.env)=eval o X.env:=by rfl) (zw:(apos.endLine==pos.line)=true:=by rfl) :
  PI X (.Tuple elts x1 CQ) (.Call (.Attribute o "items" apos) [] [] pos) (JE to):=by
 intro pins s σ H R I h
 refine wpAny_Call_method0_late zx zw (yM (ho pins s σ H _ I h) λv s1 ⟨x,H1,I1,r1,q1⟩=>?_)
 obtain⟨d,kvs,ex,hd,q1⟩:=q1
 subst ex
 cases r1
 obtain⟨t1,t2,t3⟩:=xh I1 (.inl ⟨kvs,.inl hd⟩)
 refine⟨"dict", "dict.items",PySem.F.plainAttrs_dict,PySem.F.slot_dict_items,PySem.F.type_dict_items,t1,t2,adL rfl (PySem.evalArgs_none ?_)⟩
 obtain⟨hz,_,vs,rel,dd⟩:=jD I1.ye hd
 refine call_meetsIn PySem.F.slot_dict_items dd.typeIs PySem.F.entry_dict_items (PySem.F.args_dict_items_1 _) (meets_dict_items (aF X.prog X.w) d t3) ⟨⟨vs,dd⟩,?_⟩
 obtain⟨o,es,ep,ho,hx,GI,hk,hp,hn⟩:=dd
 have D:s1.heap.DictAt (aF X.prog X.w) d vs ep:=⟨o,es,ho,hx,GI,hk,hp,hn⟩
 refine wpAny_pyIter_items (s:={s1 with heap:=s1.heap.push {cls:=.type "dict_items",data:=.fields #[.ref d]}}) (v:=s1.heap.objs.size) (d:=d) ⟨_,aal _ rfl,rfl,rfl⟩ (D.push _) ?_
 have I2:Inv X pins σ H1 {s1 with heap:=(s1.heap.push {cls:=.type "dict_items",data:=.fields #[.ref d]}).push {cls:=.type "dict_itemiterator",data:=.fields #[.none,.bool false,.ref d,.int 0 0,.int vs.length 0,.int ep 0,.none,.none]}} :=
  I1.kept (t':=s1.toks) λb u e=>aad _ (aad _ e)
 have I3:=I2.Jd hd (o:=o) (aad _ (aad _ ho))
 have hsz:(s1.heap.push {cls:=.type "dict_items",data:=.fields #[.ref d]}).objs.size=s1.heap.objs.size+1:=aby ..
 have FE:s1.heap.objs.size<=(s1.heap.push {cls:=.type "dict_items",data:=.fields #[.ref d]}).objs.size:=by omega
 have He:H1 (s1.heap.push {cls:=.type "dict_items",data:=.fields #[.ref d]}).objs.size=none:=I1.ye.fresh FE
 refine⟨_,[_],_,_,_,rfl,I3,o0 (it:=(s1.heap.push {cls:=.type "dict_items",data:=.fields #[.ref d]}).objs.size) rel hx GI hk hp hn,⟨_,_,aal _ rfl⟩,λb hb=>?_,q1 o⟩
 rw[List.mem_singleton.mp hb]
 exact I1.DC FE (by rw[af (λz=>by rw[z,hd]at He;cases He)];exact He)
end L2
namespace Q
open PySem L2 PyProof.Rows
def kP:Key->PV
 |.inl i=>.int i
 |.inr x=>.str x
def Du(q:Key×PV):PV:=.tup [kP q.1,q.2]
variable{K:aag}{F:Hp}
theorem wX:∀k:Key,Rep K F (kV k) (kP k)
 |.inl i=>.int i
 |.inr x=>.str x
variable{vs:List (Key×V)}{xs:List (Key×PV)}
theorem nE.get(h:nE K F vs xs):∀{i:Nat} {k:Key} {x:PV},xs[i]?=some (k,x)->∃v,vs[i]?=some (k,v)/\Rep K F v x:=by
 induction h using nE.ind with
 |nil=>intro i k x e;simp at e
 |cons a r ih=>
  intro i k x e
  cases i with
  |zero=>
   simp only[abP,aeu,Prod.mk.injEq]at e ⊢
   obtain⟨rfl,rfl⟩:=e
   exact⟨_,⟨rfl,rfl⟩,a⟩
  |succ i=>
   simp only[ack]at e ⊢
   exact ih e
variable{M:Md}
theorem xg{d:Addr}{o:Obj}(h:F d=some (.Ay o (.dK vs)))(r:nE M.K F vs xs):DN M (QB d o vs) F (xs.map Du):=by
 refine⟨λZ i σ env F' H x s K e=>?_,λZ i σ env F' H s K hl=>⟨K.sF _ _ (s _ _ h),by rw[r.len];simpa using hl⟩⟩
 rw[aah]at e
 cases ez:xs[i]? with
 |none=>rw[ez]at e;cases e
 |some q=>
  rw[ez]at e
  obtain⟨k,y⟩:=q
  have e:x=Du (k,y):=(aao e).symm
  subst e
  obtain⟨v,hv,rv⟩:=r.get ez
  refine⟨⟨K.sF _ _ (s _ _ h),(List.getElem?_eq_some_iff.mp hv).1⟩,λv' H' y'=>?_⟩
  obtain⟨p,k',x',rfl,hp,rfl,q⟩:=y'
  rw[hv]at q;cases q
  have hF:F' p=none:=dO.none_of K.sF hp
  refine⟨upd F' p (.tup [kV k,v]),ay hF,K.lay hp,.tup (.inl (.inl ai)) (.cons (wX k) (.cons ((rv.mono s).mono (ay hF)) .nil)),ay hp,λc hc=>?_⟩
  by_cases z:c=p
  .subst z;exact .inr hp
  .rw[af z]at hc;exact .inl hc
def ko(i:Nat):WA:=λenv P=>match env[i]? with
 |some (some ⟨1,.yw kvs⟩)=>P (kvs.map Du) (env.set i none)
 |_=>False
variable{Z:Zn}{H:Hp}{σ:L2.St}{env:En}{i:Nat}
theorem x3.Jd{kvs:List (Key×PV)}(K:x3 M Z F σ H env)(hi:env[i]?=some (some ⟨1,.yw kvs⟩)):
  ∃d vs,σ[i]?=some (some (.ref d))/\H d=some (.dK vs)/\F d=none/\nE M.K F vs kvs/\∀o,x3 M Z (upd F d (.Ay o (.dK vs))) σ (upd H d (.Ay o (.dK vs))) (env.set i none):=by
 obtain⟨fp,L⟩:=K.sl
 obtain⟨v,hv,ok⟩:=L.at' i _ hi
 rcases ok with ⟨e,_⟩|⟨_,d,rfl,hf,h0,vs,hd,rk⟩|⟨e,_⟩|⟨e,_⟩
 .cases e
 .have ha:=L.al i d (by rw[hf];simp)
  refine⟨d,vs,hv,hd,ha.2,rk,λo=>?_⟩
  have s1:dO F (upd F d (.Ay o (.dK vs))):=ay ha.2
  have ot:∀j b,j≠i->b∈fp j->b≠d:=λj b hj hb z=>L.dj j i b hj hb (by rw[hf,z];simp)
  refine⟨λb u e=>?_,λb u e hb=>?_,λb e=>?_,ah K.gr s1,λb e=>?_,by simp[K.len],λj=>if j=i then []else fp j,λj s h=>?_,λj b h=>?_,λj k b DY h z=>?_,λj b t e1 e2 e3=>?_⟩
  .by_cases z:b=d
   .subst z;rw[ai]at e ⊢;exact e
   .rw[af z]at e ⊢;exact K.sF b u e
  .rw[af (λz=>by rw[z,h0]at e;cases e)]
   exact K.sG b u e hb
  .by_cases z:b=d
   .subst z;rw[ai];simp
   .rw[af z];exact K.pr b e
  .by_cases z:b=d
   .subst z;exact .inr h0
   .rw[af z]at e;exact K.nw b e
  .by_cases z:j=i
   .subst z
    rw[abC]at h
    simp only[if_true]at h
    split at h<;>cases h
   .rw[aaD (abO z)]at h
    rw[if_neg z]
    obtain⟨v,g1,g2⟩:=L.at' j s h
    exact⟨v,g1,g2.mono s1 λc hc=>af (ot j c z hc)⟩
  .split at h
   .simp at h
   .rename_i z
    have:=L.al j b h
    rw[af (ot j b z h),af (ot j b z h)];exact this
  .split at h
   .simp at h
   .split at z
    .simp at z
    .exact L.dj j k b DY h z
  .by_cases z:j=i
   .subst z
    rw[abC]at e2
    simp only[if_true]at e2
    split at e2<;>cases e2
   .rw[aaD (abO z)]at e2
    exact L.oa j b t e1 e2 e3
 .rcases e with e|e<;>cases e
 .cases e
variable{ob:zl}{X:Cx}{x:Str}{p apos:Pos}
theorem rJ(i:Nat){pos CQ:Pos}{elts:List Expr}{x1:_}(ho:PE X (.Name x p) (yK i))
  (zx:acw (.Name x p) "items" X.env (eval (.Name x p) X.env)=eval (.Name x p) X.env:=by rfl) (zw:(apos.endLine==pos.line)=true:=by rfl) :
  G3 ob X (.Tuple elts x1 CQ) (.Call (.Attribute (.Name x p) "items" apos) [] [] pos) (ko i):=by
 refine⟨_,so ho zx zw,λZ F σ H env P R K hf kk=>?_⟩
 unfold ko at hf
 split at hf
 .rename_i kvs ei
  obtain⟨d,vs,hv,hd,hF,rk,kz⟩:=K.Jd ei
  exact⟨_,hv,d,vs,rfl,hd,λo=>kk _ _ _ _ _ hf (ay hF) (kz o) (xg ai (rk.mono (ay hF)))⟩
 .exact hf.elim
end Q
namespace L2
open PySem PySem.Spec PyProof.Rows PySem.W
variable{prog:aaE}{w:World}{A:Around}{E:Value->Shared->Prop}{s:Shared}
variable{α:Type}
theorem qL{l:List α}(h:l.Nodup):l.reverse.Nodup:=List.pairwise_reverse.mpr (List.Pairwise.imp (λq=>abO q) h)
variable{ks:List (Int×Str)}{n i j:Nat}
theorem u4(l:ks.length=n)(hi:i<n)(hj:j<n):AE ks.reverse i j=AE ks (n - 1 - i) (n - 1 - j):=by
 have g:∀i,i<n->ks.reverse.getD i (0,⟨#[]⟩)=ks.getD (n - 1 - i) (0,⟨#[]⟩):=λi hi=>by
  rw[aac,aac,List.getElem?_reverse (by omega),l]
 unfold AE
 rw[g i hi,g j hj]
end L2
namespace Q
open PySem L2 PyProof.Rows
variable{ob:zl}{X:Cx}{e:Expr}{f:WE}{p pos Ar p1:Pos}{kd:_}
variable{P:aaE}{w:World}{K:aag}{mg:Str->Option Value}{base:Heap}{fd:abz}{ps:List Str}{M:Md}{n:Nat}
theorem kC{f:Addr}:yd P w K mg base yQ 0 f fd ps (CU M n λ_ _=>False) :=
 ⟨λ_ _ _ _ ⟨_,_,_,_,_,_,h,_⟩=>h.elim,λ_ _ _ _ _ _ _ _ _ _ _ _ _ ⟨_,_,_,_,_,_,h,_⟩=>h.elim⟩
end Q
namespace L2
open PySem PySem.Spec PyProof.Rows
section
open PySem.SeqAt
open PySem.AutoSeq1 (wpAny_loadPart')
open PySem.MeetsSeq PySem.MeetsSeq2 PySem.MeetsSeq3
end
end L2
namespace Q
open PySem L2 PyProof.Rows
variable{X:Cx}{pins:List (Addr×Obj)}{σ:L2.St}{H F:Hp}{s:Shared}
variable{ob:zl}
end Q
namespace L2
open PySem PySem.Spec PyProof.Rows
variable{prog:aaE}{w:World}{A:Around}{E:Value->Shared->Prop}{s:Shared}{a₀:Array Keyed}{κ:KeyKind}
variable{X:Cx}
end L2
namespace Q
open PySem L2 PyProof.Rows
variable{ob:zl}{X:Cx}{a b c e:Expr}{es:List Expr}{f g h:WE}{fa:WA}{pos p p1:Pos}{x:Str}
end Q
namespace L2
open PySem PySem.Spec PyProof.Rows
variable{X:Cx}{o e:Expr}{to te:TE}{apos pos:Pos}
section
open Builtin Builtin.Str
variable{prog:aaE}{w:World}{A:Around}{E:Value->Shared->Prop}{s:Shared}
end
def Lv:TS:=λ_ _ _=>False
variable{st:Stmt}
theorem wm:PS X st Lv:=λ_ _ _ _ _ _ h=>h.elim
end L2
namespace Q
open PySem L2 PyProof.Rows
variable{ob:zl}{X:Cx}{a b e:Expr}{f g:WE}{apos pos:Pos}
def Lz:WS:=λ_ _=>False
variable{st:Stmt}
theorem xo:BR ob X st Lz:=⟨Lv,wm,λ_ _ _ _ _ _ _ _ h _=>h.elim⟩
end Q
namespace L2
open PySem PySem.Spec PyProof.Rows
variable{prog:aaE}{w:World}{A:Around}{E:Value->Shared->Prop}{s:Shared}{l b:Addr}{items Bm:Array Value}{n n2:Nat}
variable{X:Cx}
end L2
namespace Q
open PySem L2 PyProof.Rows
variable{ob:zl}{X:Cx}{e:Expr}{g:WE}{pos pos':Pos}
end Q
set_option maxHeartbeats 400000
namespace L2
open PySem PySem.Spec PyProof.Rows
variable{X:Cx}
end L2
namespace Q
open PySem L2 PyProof.Rows
variable{ob:zl}{X:Cx}{a:Expr}{fa:WA}{p pos:Pos}
variable{p2:Pos}{x:Str}
end Q
namespace Pre
open PySem L2
end Pre
namespace Q
open PySem L2 PyProof.Rows
variable{X:Cx}{k:Nat}{Ad:Addr}{fd:abz}{ps:List Str}{x y:Str}{p p1 pos pos':Pos}
variable{ob:zl}
variable{pins:List (Addr×Obj)}{s:Shared}{σ:L2.St}{H:Hp}
end Q
namespace L2
open PySem PySem.Spec PyProof.Rows PySem.W
variable{prog:aaE}{w:World}{A:Around}{E:Value->Shared->Prop}{s:Shared}
end L2
namespace Q
open PySem L2 PyProof.Rows
variable{ob:zl}{X:Cx}{e:Expr}{es:List Expr}{fa:WA}{pos p:Pos}
end Q
set_option maxHeartbeats 1000000
namespace L2
open PySem PySem.Spec PyProof.Rows
open AutoSeq1 (wpAny_loadPart')
variable{prog:aaE}{w:World}{A:Around}{E:Value->Shared->Prop}{s:Shared}
variable{X:Cx}
end L2
namespace Q
open PySem L2 PyProof.Rows
variable{ob:zl}{X:Cx}{a:Expr}{fa:WA}{p pos:Pos}
end Q
namespace L2
open PySem PySem.Spec PyProof.Rows
variable{prog:aaE}{w:World}{A:Around}{E:Value->Shared->Prop}{s:Shared}
end L2
namespace L2
open PySem PySem.Spec PyProof.Rows PySem.Calls PyProof.V
variable{prog:aaE}{w:World}{A:Around}{E:Value->Shared->Prop}{s:Shared}
end L2
namespace L2
open PySem PySem.Spec PyProof.Rows
variable{prog:aaE}{w:World}{A:Around}{E:Value->Shared->Prop}{s:Shared}
variable{X:Cx}
end L2
namespace Q
open PySem L2 PyProof.Rows
variable{ob:zl}{X:Cx}{a b c e:Expr}{es:List Expr}{f g h:WE}{fa:WA}{pos Jt p p1 p2:Pos}{x:Str}
end Q
namespace L2
open PySem PySem.Spec PyProof.Rows PyProof.Rows.KTD
variable{prog:aaE}{w:World}{A:Around}{E:Value->Shared->Prop}{s:Shared}
variable{X:Cx}
end L2
namespace Q
open PySem L2 PyProof.Rows PyProof.Rows.KTD
variable{ob:zl}{X:Cx}{e ke:Expr}{es:List Expr}{fk:WE}{fa:WA}{x y tb:Str}{p p1 p2 p3 py pos R7 Jt R6:Pos}
end Q
namespace L2
open PySem PySem.Spec PyProof.Rows
variable{X:Cx}
end L2
namespace Q
open PySem L2 PyProof.Rows
variable{ob:zl}{X:Cx}{e ke:Expr}{es:List Expr}{fa:WA}{fk:WE}{x:Str}{pos p p1 apos yP Jt:Pos}
variable{P:aaE}{w:World}{K:aag}{mg:Str->Option Value}{base:Heap}
variable{k:Nat}{Ad:Addr}{fd:abz}{ps:List Str}{DO:FdOT}
end Q
namespace L2
open PySem PySem.Spec PyProof.Rows
variable{X:Cx}{e st:Expr}{te RU:TE}{pos p2:Pos}
end L2
namespace Q
open PySem L2 PyProof.Rows
variable{ob:zl}{X:Cx}{e:Expr}{f:WE}{pos:Pos}
end Q
namespace L2
open PySem PySem.Spec PyProof.Rows
variable{X:Cx}{o e:Expr}{to te:TE}{apos pos:Pos}
end L2
namespace Q
open PySem L2 PyProof.Rows
variable{ob:zl}{X:Cx}{a b:Expr}{f g:WE}{apos pos:Pos}
end Q
namespace L2
open PySem PySem.Spec PyProof.Rows PySem.W
def Nb(A:Around)(s:Shared)(y x:Value)(b:Bool):Prop :=
 ∀(prog:aaE) (w:World) (E:Value->Shared->Prop) (Q:Value->Shared->Prop),Q (.bool b) s->wpAny (model prog w) A (richCompare .Gt y x) Q E s
inductive DM (A:Around) (s:Shared):List Value->List Value->Bool->Prop where
 |nn:DM A s [] [] false
 |nc {y ys}:DM A s [] (y::ys) false
 |cn {x xs}:DM A s (x::xs) [] true
 |eq {x y xs ys b}:SeqAt.EqAt A s x y true->DM A s xs ys b->DM A s (x::xs) (y::ys) b
 |gt {x y xs ys b}:SeqAt.EqAt A s x y false->Nb A s x y b->DM A s (x::xs) (y::ys) b
section
open PySem.SeqAt
open PySem.AutoSeq1 (wpAny_loadPart')
open PySem.MeetsSeq PySem.MeetsSeq2 PySem.MeetsSeq3
theorem qc(l b:Addr)(items Bm:Array Value)(n n2:Nat)(dd Ld:Option Addr)(sl KA:Array (Option Value))(r:Bool):
  Meets (ac6.«tuple.__gt__» ⟨[.ref l,.ref b],[]⟩)
   (λA R s=>s.heap.get? l=some {cls:=.type "tuple",dict:=dd,data:=.seq items n,slots:=sl}/\s.heap.get? b=some {cls:=.type "tuple",dict:=Ld,data:=.seq Bm n2,slots:=KA}/\DM A.in1 s items.toList Bm.toList r/\R (.ok (.ret (.bool r))) s) :=
 .of_wp λprog w A R s h=>by
  obtain⟨hp,g,d,tk,os⟩:=s;obtain⟨hl,hb,lx,h⟩:=h
  have f2:=AutoSeq1.sub_tuple_tuple
  wp_walk using wpAny_loadPart' hl,wpAny_loadPart' hb,wpAny_forIn_list _ (λrest b s'=>b.1=none/\s'=⟨hp,g,d,tk,os⟩/\∃(vs ws:List Value),rest=vs.zip ws /\
   vs.length+Bm.size=ws.length+items.size/\DM A.in1 ⟨hp,g,d,tk,os⟩ vs ws r) _
  case turn=>
   rintro⟨y,x⟩ rest b s' ⟨C1,rfl,vs,ws,hz,hlen,hR⟩
   cases hR with
   |nn=>rw[List.zip_nil_left]at hz;cases hz
   |nc=>rw[List.zip_nil_left]at hz;cases hz
   |cn=>rw[List.zip_nil_right]at hz;cases hz
   |eq e Th=>
    rw[ab6]at hz
    injection hz with hyx Iv
    injection hyx with hy hx
    subst hy hx
    simp only[aaR]at hlen
    refine aab (e prog w _ _ ?_)
    wp_walk
    exact⟨rfl,rfl,_,_,Iv,by omega,Th⟩
   |gt e e2=>
    rw[ab6]at hz
    injection hz with hyx Iv
    injection hyx with hy hx
    subst hy hx
    simp only[aaR]at hlen
    refine aab (e prog w _ _ ?_)
    have SA:=e2 prog w
    wp_walk using SA
    exact⟨_,rfl,by simpa using h⟩
  case fin=>
   rintro⟨b1,b2⟩ s' ⟨C1,rfl,vs,ws,hz,hlen,hR⟩
   simp only at C1
   subst C1
   have hv:r=decide (Bm.size<items.size):=by
    cases hR with
    |nn=>simp only[acd]at hlen;exact(decide_eq_false (by omega)).symm
    |nc=>simp only[acd,aaR]at hlen;exact(decide_eq_false (by omega)).symm
    |cn=>simp only[acd,aaR]at hlen;exact(decide_eq_true (by omega)).symm
    |eq=>rw[ab6]at hz;cases hz
    |gt=>rw[ab6]at hz;cases hz
   rw[hv]at h
   wp_walk
   exact⟨_,rfl,by simpa[Builtin.Tuple.tupleCompareSizes]using h⟩
  case h=>
   exact⟨rfl,rfl,items.toList,Bm.toList,rfl,by simp;omega,lx⟩
end
def gtB(k l:Int×Str):Bool:=decide (l.1<k.1\/(l.1=k.1/\yL l.2 k.2))
variable{A:Around}{s:Shared}{x:Addr}{k:Int×Str}
theorem uE{y:Addr}{l:Int×Str}(hu:A.units<cLine)(hx:yC s.heap x k)(hy:yC s.heap y l)(hne:k.2≠l.2):Nb A s (.ref x) (.ref y) (gtB k l):=λprog w E Q h=>by
 obtain⟨⟨cls,dd,data,sl⟩,n,t,u,ho,hc,hd⟩:=hx
 obtain⟨⟨Qq,Ld,data2,KA⟩,n2,t2,u2,EX,GJ,hd2⟩:=hy
 simp only at hc hd GJ hd2
 subst hc hd GJ hd2
 refine richCompare_meets_room (op:=.Gt) ⟨_,ho,rfl⟩ ⟨_,EX,rfl⟩ PySem.F.slot_tuple_gt PySem.F.entry_tuple_gt (PySem.F.args_tuple_gt_2 _ _) (qc x y _ _ n n2 dd Ld sl KA (gtB k l))
  ⟨ho,EX,?_,show Value.bool (gtB k l)≠Value.notImplemented/\Q (.bool (gtB k l)) s from ⟨(λx=>nomatch x),h⟩⟩ hu
 by_cases e:k.1=l.1
 .have e1:(k.1==l.1)=true:=by simp[e]
  have e2:(k.2==l.2)=false:=by simp[hne]
  have e3:gtB k l=decide (l.2.cps.toList<k.2.cps.toList):=by
   unfold gtB
   rw[aaL,decide_eq_true_eq,decide_eq_true_eq]
   exact⟨λz=>z.elim (λq=>by omega) λq=>q.2,λz=>.inr ⟨e.symm,z⟩⟩
  refine .eq (e1 ▸ aek k.1 t l.1 t2) (.gt (e2 ▸ SeqAt.EqAt.str_str k.2 u l.2 u2) λprog w E Q hq=>?_)
  rw[e3]at hq
  exact(P.gt_str hq:wpAny (model prog w) _ (aa9 .Gt (.str _ u) (.str _ u2)) Q E s)
 .have e1:(k.1==l.1)=false:=by simp[e]
  have e3:gtB k l=decide (l.1<k.1):=by
   unfold gtB
   rw[aaL,decide_eq_true_eq,decide_eq_true_eq]
   exact⟨λz=>z.elim id λq=>absurd q.1.symm e,.inl⟩
  refine .gt (e1 ▸ aek k.1 t l.1 t2) λprog w E Q hq=>?_
  rw[e3]at hq
  exact(gt_int hq:wpAny (model prog w) _ (aa9 .Gt (.int _ t) (.int _ t2)) Q E s)
theorem uX(a f d:Value):argsOk "max" {pos:=[a],kw:=[(aaF "key",f),(aaF "default",d)]}:=by
 first|exact rfl|kernel_rfl
theorem uW(l f d:Value):ac6.«max» ⟨[l],[(aaF "key",f),(aaF "default",d)]⟩=(do
  let it <- pyIter l
  let b <- newList []
  again (Code.builtin "max.loop" ⟨[it,f,b],[(aaF "default",d)]⟩)):=by rfl
def Dh(ks:List (Int×Str))(j i:Nat):Prop:=i<j/\∀m,m<j->m≠i->AE ks m i=true
variable{prog:aaE}{w:World}{R:Result->Shared->Prop}
variable{l it b q:Addr}{vs:List Value}{ad:List Addr}{ks:List (Int×Str)}
theorem uV{d:Value}(l1:ad.length=vs.length)(l2:ks.length=vs.length)(zO:vs.length<64)(nd:(ks.map (·.2)).Nodup)(hA:A.in1.handled=none)(hu:A.in1.units<cLine)
  (Se:l≠it) (Sf:l≠b) (LZ:b≠it) (na:∀i,i<vs.length->ad.getD i 0≠it/\ad.getD i 0≠b) :
  ∀(k j:Nat) (s:Shared),vs.length - j=k->j<=vs.length->s.heap.IsTuple l vs.toArray->s.heap.IsTupleIter it l j ->
  ((j=0/\∃c,s.heap.get? b=some (seqObj "list" #[] c))\/∃i c,Dh ks j i/\s.heap.get? b=some (seqObj "list" #[vs.getD i .none,.ref (ad.getD i 0)] c)) ->
  (∀i,i<vs.length->yC s.heap (ad.getD i 0) (ks.getD i (0,⟨#[]⟩))) ->
  (∀i,i<vs.length->eZ prog w A.in1 s (.ref q) (λc=>c≠it/\c≠b) (vs.getD i .none) (ad.getD i 0)) ->
  (∀v h' tk,((vs.length=0/\v=d)\/∃i,Dh ks vs.length i/\v=vs.getD i .none)->(∀c o,c≠it->c≠b->s.heap.get? c=some o->h'.get? c=some o)->R (.ok (.ret v)) {s with heap:=h',toks:=tk}) ->
  aec (model prog w) A (.builtin "max.loop" ⟨[.ref it,.ref q,.ref b],[(aaF "default",d)]⟩) R s:=by
 intro k
 induction k with
 |zero=>
  intro j s hk hj hl hi hb hp ht hR
  have ej:j=vs.length:=by omega
  subst ej
  refine adQ PySem.F.entry_max_loop ?_
  rw[acV ab1 _]
  show wpAny _ A.in1 (seqItems? (.ref b) >>= _) _ _ s
  rcases hb with ⟨e0,c,hb⟩|⟨i,c,mx,hb⟩
  .refine aab (abq hb rfl ?_)
   show wpAny _ A.in1 (tryCatch (pyNext (.ref it)) _ >>= _) _ _ s
   refine aab (acl (adF hA hi hl (by rw[adV,aaq (aam _)]) λh' kk=>?_))
   show wpAny _ A.in1 (rule _ >>= _) _ _ _
   exact aab (acD (aaj (hR d h' s.toks (.inl ⟨e0,rfl⟩) λc o h1 h2 e=>kk _ _ h1 e)))
  .refine aab (abq hb rfl ?_)
   show wpAny _ A.in1 (tryCatch (pyNext (.ref it)) _ >>= _) _ _ s
   refine aab (acl (adF hA hi hl (by rw[adV,aaq (aam _)]) λh' kk=>?_))
   show wpAny _ A.in1 (updateSeq b _ >>= _) _ _ _
   have Td:=kk _ _ LZ hb
   have s1:=aaX h' b (aa1 λ_=>(#[]:Array Value))
   refine aab (aeT Td rfl ?_ (by show 2<=sizeLine;decide) (aaU _))
   show wpAny _ A.in1 (letGo _ _ >>= _) _ _ _
   exact aab (acC (aaj (hR _ _ s.toks (.inr ⟨i,mx,rfl⟩) λc o h1 h2 e=>(s1.2 c h2).trans (kk _ _ h1 e))))
 |succ k ih=>
  intro j s hk hj hl hi hb hp ht hR
  have y6:j<vs.length:=by omega
  have ev:vs.toArray[j]?=some (vs.getD j .none):=by rw[adV,aaa y6,aac,aaa y6];rfl
  have o:=ki nd
  rw[l2]at o
  have fin:∀(h3:Heap) (tk:Nat),(∀c o,c≠it->c≠b->s.heap.get? c=some o->h3.get? c=some o)->h3.IsTupleIter it l (j+1)->(∃i c,Dh ks (j+1) i/\h3.get? b=some (seqObj "list" #[vs.getD i .none,.ref (ad.getD i 0)] c)) ->
    aec (model prog w) A (.builtin "max.loop" ⟨[.ref it,.ref q,.ref b],[(aaF "default",d)]⟩) R {s with heap:=h3,toks:=tk}:=λh3 tk kk S4 Tc=>by
   refine ih (j+1) {s with heap:=h3,toks:=tk} (by omega) y6 ?_ S4 (.inr Tc) (λi h=>(hp i h).mono λo g=>kk _ _ (na i h).1 (na i h).2 g) (λi h h4 Ot g=>?_) λv h4 Ot hv g=>hR v h4 Ot hv λc o c1 c2 e=>g c o c1 c2 (kk c o c1 c2 e)
   .obtain⟨o,e,r⟩:=hl
    exact⟨o,kk _ _ Se Sf e,r⟩
   .exact ht i h h4 Ot λc o hc e=>g c o hc (kk c o hc.1 hc.2 e)
  refine adQ PySem.F.entry_max_loop ?_
  rw[acV ab1 _]
  show wpAny _ A.in1 (seqItems? (.ref b) >>= _) _ _ s
  rcases hb with ⟨e0,c,hb⟩|⟨i,c,mx,hb⟩
  .refine aab (abq hb rfl ?_)
   show wpAny _ A.in1 (tryCatch (pyNext (.ref it)) _ >>= _) _ _ s
   refine aab (acl (adv hi hl ev λh1 I1 sb=>?_))
   have k1:∀c o,c≠it->s.heap.get? c=some o->h1.get? c=some o:=λc o hc e=>(sb.2 c hc).trans e
   show wpAny _ A.in1 (tryCatch (acQ _ (call (.ref q) [vs.getD j .none])) _ >>= _) _ _ _
   refine aab (acl (aaT (aaM (ht j y6 h1 s.toks λc o hc e=>k1 c o hc.1 e) (λv z hz=>?_) λ_ _ f=>f.elim)))
   obtain⟨rfl,h2,IT,rfl,g2⟩:=hz
   show wpAny _ A.in1 (updateSeq b _ >>= _) _ _ _
   have DZ:=g2 _ _ (k1 _ _ LZ hb)
   have s2:=aaX h2 b (aa1 λ_=>#[vs.getD j .none,.ref (ad.getD j 0)])
   refine aab (aeT DZ rfl ?_ (aaU _) (by show 2<=sizeLine+1;decide))
   refine aaj ⟨acW ab1 _,fin _ IT (λc o c1 c2 e=>(s2.2 c c2).trans (g2 _ _ (k1 c o c1 e))) ?_ ⟨j,_,⟨abu j,λm hm ne=>by omega⟩,abF DZ λ_=>#[vs.getD j .none,.ref (ad.getD j 0)]⟩⟩
   obtain⟨o,e,r⟩:=I1
   exact⟨o,(s2.2 it LZ.symm).trans (g2 _ _ e),r⟩
  .have Hd:i<vs.length:=aaA mx.1 hj
   have Q4:j≠i:=abQ mx.1
   refine aab (abq hb rfl ?_)
   show wpAny _ A.in1 (tryCatch (pyNext (.ref it)) _ >>= _) _ _ s
   refine aab (acl (adv hi hl ev λh1 I1 sb=>?_))
   have k1:∀c o,c≠it->s.heap.get? c=some o->h1.get? c=some o:=λc o hc e=>(sb.2 c hc).trans e
   show wpAny _ A.in1 (tryCatch (acQ _ (call (.ref q) [vs.getD j .none])) _ >>= _) _ _ _
   refine aab (acl (aaT (aaM (ht j y6 h1 s.toks λc o hc e=>k1 c o hc.1 e) (λv z hz=>?_) λ_ _ f=>f.elim)))
   obtain⟨rfl,h2,IT,rfl,g2⟩:=hz
   have DZ:=g2 _ _ (k1 _ _ LZ hb)
   have kk:∀c o,c≠it->s.heap.get? c=some o->h2.get? c=some o:=λc o hc e=>g2 _ _ (k1 c o hc e)
   have p1:yC h2 (ad.getD j 0) (ks.getD j (0,⟨#[]⟩)):=(hp j y6).mono λo g=>kk _ o (na j y6).1 g
   have p2:yC h2 (ad.getD i 0) (ks.getD i (0,⟨#[]⟩)):=(hp i Hd).mono λo g=>kk _ o (na i Hd).1 g
   have ne:(ks.getD j (0,⟨#[]⟩)).2≠(ks.getD i (0,⟨#[]⟩)).2:=λq=>by
    have a:(ks.map (·.2))[j]'(by rw[aae];omega)=(ks.map (·.2))[i]'(by rw[aae];omega):=by
     rw[abL,abL]
     rw[aac,aac,aaa (by omega),aaa (by omega)]at q
     exact q
    exact Q4 ((abh nd).mp a)
   have Q9:h2.IsTupleIter it l (j+1):=by
    obtain⟨o,e,r⟩:=I1
    exact⟨o,g2 _ _ e,r⟩
   show wpAny _ A.in1 (tryCatch (acQ _ (richCompare .Gt (.ref (ad.getD j 0)) (.ref (ad.getD i 0)) >>= _)) _ >>= _) _ _ _
   refine aab (acl (aaT (aab (uE (s:={s with heap:=h2,toks:=IT}) hu p1 p2 ne prog w _ _ ?_))))
   show wpAny _ A.in1 (acQ _ (truthy (.bool _)) >>= _) _ _ _
   refine aab (aaT (acs ?_))
   refine aab (acC (aaj ?_))
   have eg:gtB (ks.getD j (0,⟨#[]⟩)) (ks.getD i (0,⟨#[]⟩))=AE ks i j:=rfl
   rw[eg]
   cases hg:AE ks i j with
   |true=>
    show wpAny _ A.in1 (updateSeq b _ >>= _) _ _ _
    have s2:=aaX h2 b (aa1 λ_=>#[vs.getD j .none,.ref (ad.getD j 0)])
    refine aab (aeT DZ rfl ?_ (by show 2<=sizeLine;decide) (by show 2<=sizeLine+1;decide))
    refine aab (acC ?_)
    refine aaj ⟨acW ab1 _,fin _ IT (λc o c1 c2 e=>(s2.2 c c2).trans (kk c o c1 e)) ?_ ⟨j,_,⟨abu j,λm hm ne=>?_⟩,abF DZ λ_=>#[vs.getD j .none,.ref (ad.getD j 0)]⟩⟩
    .obtain⟨o,e,r⟩:=Q9
     exact⟨o,(s2.2 it LZ.symm).trans e,r⟩
    .by_cases z:m=i
     .rw[z];exact hg
     .exact o.tr m i j (by omega) Hd y6 (mx.2 m (by omega) z) hg
   |false=>
    show wpAny _ A.in1 (letGo _ _ >>= _) _ _ _
    refine aab (acC ?_)
    refine aaj ⟨acW ab1 _,fin _ IT (λc o c1 c2 e=>kk c o c1 e) Q9 ⟨i,_,⟨abB mx.1,λm hm ne=>?_⟩,DZ⟩⟩
    by_cases z:m=j
    .rw[z];exact o.tot i j Hd y6 (λq=>Q4 q.symm) hg
    .exact mx.2 m (by omega) ne
variable{E:Value->Shared->Prop}
variable{ob:Obj}{Q:Value->Shared->Prop}
theorem wR{n0:Nat}{d:Value}(hA:A.in1.handled=none)(hu:A.in1.units<cLine)(ho:s.heap.get? l=some ob)(hc:ob.cls=.type "tuple")(hd:ob.data=.seq vs.toArray n0)
  (l1:ad.length=vs.length) (l2:ks.length=vs.length) (zO:vs.length<64) (nd:(ks.map (·.2)).Nodup) (hp:∀i,i<vs.length->yC s.heap (ad.getD i 0) (ks.getD i (0,⟨#[]⟩)))
  (turn:∀i,i<vs.length->eZ prog w A.in1 s (.ref q) (λ_=>True) (vs.getD i .none) (ad.getD i 0))
  (h:∀v h' tk,((vs.length=0/\v=d)\/∃i,Dh ks vs.length i/\v=vs.getD i .none)->(∀c o,s.heap.get? c=some o->h'.get? c=some o)->Q v {s with heap:=h',toks:=tk}) :
  wpAny (model prog w) A (call (.builtin "max") [.ref l] [(aaF "key",.ref q),(aaF "default",d)]) Q E s:=by
 refine kmb_tree PySem.F.kind_max PySem.F.plain_max PySem.F.entry_max (uX _ _ _) ?_
 rw[uW]
 refine aab (acG ⟨ob,ho,hc,n0,hd⟩ (aab (ach ?_ (aaU _))))
 have hsz:(s.heap.push {cls:=abS "tuple_iterator",data:=ac5 #[aas l,adm 0 0]}).objs.size=s.heap.objs.size+1:=aby ..
 have old:∀b o,s.heap.get? b=some o->((s.heap.push {cls:=abS "tuple_iterator",data:=ac5 #[aas l,adm 0 0]}).push (seqObj "list" #[] 0)).get? b=some o:=λb o g=>aad _ (aad _ g)
 have lt:∀b o,s.heap.get? b=some o->b≠s.heap.objs.size/\b≠(s.heap.push {cls:=abS "tuple_iterator",data:=ac5 #[aas l,adm 0 0]}).objs.size:=λb o g=>by
  have:=aak g
  rw[hsz]
  exact⟨aaw this,aaw (abB this)⟩
 refine aaj ⟨acW ab1 _,?_⟩
 refine uV (l:=l) (it:=s.heap.objs.size) (b:=(s.heap.push {cls:=abS "tuple_iterator",data:=ac5 #[aas l,adm 0 0]}).objs.size) (vs:=vs) (ad:=ad) (ks:=ks) l1 l2 zO nd hA hu (lt _ _ ho).1 (lt _ _ ho).2 (by rw[hsz];exact Nat.succ_ne_self _) (λi hi=>?_) vs.length 0 _ (by omega) (aaU _)
  ⟨ob,old _ _ ho,hc,n0,hd⟩ ⟨_,aad _ (aal _ rfl),rfl,rfl⟩ (.inl ⟨rfl,0,aal _ rfl⟩) (λi hi=>(hp i hi).mono λo g=>old _ o g) (λi hi h2 tk g=>turn i hi h2 tk λb o _ e=>g b o (lt b o e) (old b o e)) λv h' tk hv g=>h v h' tk hv λc o e=>g c o (lt c o e).1 (lt c o e).2 (old c o e)
 obtain⟨o,_,_,_,g,_⟩:=hp i hi
 exact lt _ o g
def Io(X:Cx)(lq d:Str)(yf:Pos)(P:Addr)(params:Arguments)(body:Expr)(scope:Scope)(i:Nat)(σ:St)(Q:VK):VK:=λv H1=>∃(l:Addr) (ss:List Str) (dd:Addr) (kvs:List (Key×V)) (ad:List Addr) (ks:List (Int×Str)),
 v=.ref l/\zg X.K H1 l (ss.map V.str)/\ss.length<64/\σ[i]?=some (some (.ref dd))/\H1 dd=some (.dK kvs)/\ad.length=ss.length/\ks.length=ss.length/\(ks.map (·.2)).Nodup /\
 (∀j,j<ss.length->zG kvs (aan (ss.getD j ⟨#[]⟩))=some (.ref (ad.getD j 0))/\zg X.K H1 (ad.getD j 0) [.int (ks.getD j k0).1,.str (ks.getD j k0).2]) /\
 E9 X lq d yf P params body scope σ H1 λ_ H2=>(ss.length=0->Q .lT H2)/\∀m,Dh ks ss.length m->Q (.str (ss.getD m ⟨#[]⟩)) H2
def Ln(X:Cx)(lq d:Str)(yf:Pos)(P:Addr)(params:Arguments)(body:Expr)(scope:Scope)(i:Nat)(te:TE):TE:=λσ H Q=>te σ H (Io X lq d yf P params body scope i σ Q)
variable{X:Cx}{lq d x:Str}{yf p p1 p2 p3 p4 Ar BC pos:Pos}{P c:Addr}{params:Arguments}{scope:Scope}{e:Expr}{te:TE}{i k:Nat}{kd:_}
theorem uA(S:Cm x d params scope)(S2:Cn d params scope)(hr:yj k X.A)(NR:X.calm=true)(hg:Gl X "max")(hm:X.mg "max" = none)(hq:X.env.qual ++ "<lambda>" = lq)(AF:X.env.code=.ref c)(hC:abf X.K c P=true)(hB:BMain X.mg X.base)
  (hi:X.N[i]?=some d) (hd:X.env.kindOf d=some .cell) (hv:Dj X.env.scope d) (he:PE X e te)
  (hs:aai [e] X.env=(false,eval e X.env)::aai [] X.env:=by rfl)
  (h1:backTo pos (aai [e] X.env)=(false,eval e X.env)::backTo pos (aai [] X.env):=by rfl) (h2:(backTo pos (aai [e] X.env)).any (·.1)=false:=by rfl) :
  PE X (.Call (.Name "max" p) [e] [⟨some "key",.Lambda params (.Subscript (.Name d p1) (.Name x p2) p3) scope yf,Ar⟩,⟨some "default",.Constant .none kd p4,BC⟩] pos) (Ln X lq d yf P params (.Subscript (.Name d p1) (.Name x p2) p3) scope i te):=by
 intro pins s σ H Q I h
 refine ab4 (cb I hg hm boot_max ?_)
 refine aeZ (yM ((aM he aW hs) pos pins s σ H (λvs H1=>match vs with|[v]=>Io X lq d yf P params (.Subscript (.Name d p1) (.Name x p2) p3) scope i σ Q v H1|_=>False) I h) λus s1 ⟨vs,H1,I1,r1,q1⟩=>?_) h1 h2
 dsimp only at q1
 split at q1
 case h_2=>exact q1.elim
 obtain⟨l,ss,dd,kvs,ad,ks,rfl,hl,zO,hσ,Fn,l1,l2,nd,hk,hL⟩:=q1
 obtain⟨u,rfl,ru⟩:=r1.one
 cases ru
 obtain⟨ps,eP,hL⟩:=hL
 have Qp:dd≠P:=λz=>by rw[z,eP]at Fn;cases Fn
 have lam:E9 X lq d yf P params (.Subscript (.Name d p1) (.Name x p2) p3) scope σ H1 λfv H2=>∃f c' ob,fv=.ref f/\H2 f=some (A6 f ob)/\CN X lq d params (.Subscript (.Name d p1) (.Name x p2) p3) scope c' ob/\H2 c'=some (zA c' lq)/\(∀b o,H1 b=some o->b≠P->H2 b=some o) /\
   ((ss.length=0->Q .lT H2)/\∀m,Dh ks ss.length m->Q (.str (ss.getD m ⟨#[]⟩)) H2):=by
  refine⟨ps,eP,hL.1,?_⟩
  rcases hL.2 with ⟨g1,g2⟩|⟨c',g1,g2,g3⟩
  .refine .inl ⟨g1,λc' f ob a1 a2 a3 a4 a5 a6=>⟨f,c',ob,rfl,ai,a6,?_,λb o hb hP=>?_,g2 c' f ob a1 a2 a3 a4 a5 a6⟩⟩
   .rw[af a3,ai]
   .rw[af (av hb a2),af (av hb a1),af hP];exact hb
  .refine .inr ⟨c',g1,g2,λf ob a1 a2=>⟨f,c',ob,rfl,ai,a2,?_,λb o hb _=>?_,g3 f ob a1 a2⟩⟩
   .rw[af (av g2 a1)];exact g2
   .rw[af (av hb a1)];exact hb
 refine yM ((cT (qy S2 hq AF hC hB hd) (cT qx jm)) pos pins s1 σ H1 (λvs H2=>match vs with|[fv,dv]=>dv=.lT/\∃f c' ob,fv=.ref f/\H2 f=some (A6 f ob)/\CN X lq d params (.Subscript (.Name d p1) (.Name x p2) p3) scope c' ob/\H2 c'=some (zA c' lq)/\(∀b o,H1 b=some o->b≠P->H2 b=some o)/\((ss.length=0->Q .lT H2)/\∀m,Dh ks ss.length m->Q (.str (ss.getD m ⟨#[]⟩)) H2)|_=>False) I1 ?_) λws s2 ⟨zs,H2,I2,rz,q2⟩=>?_
 .obtain⟨KD,e1,e2,e3⟩:=lam
  refine⟨KD,e1,e2,?_⟩
  rcases e3 with ⟨g1,g2⟩|⟨c',g1,g2,g3⟩
  .exact .inl ⟨g1,λc' f ob a1 a2 a3 a4 a5 a6=>⟨rfl,g2 c' f ob a1 a2 a3 a4 a5 a6⟩⟩
  .exact .inr ⟨c',g1,g2,λf ob a1 a2=>⟨rfl,g3 f ob a1 a2⟩⟩
 dsimp only at q2
 split at q2
 case h_2=>exact q2.elim
 obtain⟨rfl,f,c',ob,rfl,ef,⟨cell,GW,Ac,rfl⟩,ec,keep,Ti,hQ⟩:=q2
 obtain⟨u,u2,rfl,ru,OG⟩:=rz.two
 cases ru
 cases OG
 show wpAny _ _ (call (.builtin "max") [.ref l] [(aaF "key",.ref f),(aaF "default",.none)]) _ _ _
 obtain⟨gE,rv,⟨o,g1,g2,n0,g3⟩,hz⟩:=I2.tuple (gF eP keep hl)
 have hlen:gE.length=ss.length:=by have:=rv.length;rw[aae]at this;exact this.symm
 have NF:∀j,j<ss.length->∃t,gE.getD j aaO=.str (ss.getD j ⟨#[]⟩) t:=λj hj=>by
  obtain⟨u,hu,ru⟩:=rv.get (i:=j) (show (ss.map V.str)[j]?=some (.str (ss.getD j ⟨#[]⟩))by rw[aah,aaa hj,aac,aaa hj];rfl)
  obtain⟨t,rfl⟩:=ru
  exact⟨t,by rw[aac,hu];rfl⟩
 have cellAt:s2.heap.IsCell cell (some (.ref dd)):=by
  obtain⟨m,_,JO⟩:=I2.loc
  obtain⟨u,ru,lk⟩:=JO i d _ hi hσ hv
  cases ru
  rcases lk with ⟨y,_⟩|⟨_,c2,y1,y2⟩
  .rw[hd]at y;cases y
  .rw[Ac]at y1;cases y1;exact y2
 have lim:s2.heap.NoLimit:=I2.mod.nolimit.keeps I2.bk
 refine wR (d:=.none) (vs:=gE) (ad:=ad) (ks:=ks) (I2.ok.hd NR) (by have:=hr.un;show X.A.units+1<cLine;omega) g1 g2 g3 (by omega) (by omega) (by omega) nd (λj hj=>?_) (λj hj h tk kk=>?_) λv h' tk hv kk=>?_
 .obtain⟨zm,FA,Lh,_⟩:=I2.tuple (gF eP keep (hk j (by omega)).2)
  exact j6 FA Lh
 .obtain⟨t,et⟩:=NF j (by omega)
  rw[et]
  have Gv:∀b o,s2.heap.get? b=some o->h.get? b=some o:=λb o g=>kk b o trivial g
  have I3:Inv X pins σ H2 {s2 with heap:=h,toks:=tk}:=I2.kept Gv
  refine mD (z:={s2 with heap:=h,toks:=tk}) S I3 ?_ (Gv _ _ (I2.ye f _ ef).1) ?_ (lim.keeps Gv) ?_ (keep _ _ Fn Qp) (hk j (by omega)).1
  .have:=hr.dp
   show X.A.depth<recursionLimit
   omega
  .exact(I2.ye c' _ ec).2.2 _ _ (I2.ye c' _ ec).1 λo g=>Gv _ _ g
  .obtain⟨o,y,r⟩:=cellAt
   exact⟨o,Gv _ _ y,r⟩
 .rcases hv with ⟨e0,rfl⟩|⟨m,mx,rfl⟩
  .exact⟨.lT,H2,I2.kept kk,rfl,Ti (by omega)⟩
  .rw[hlen]at mx
   obtain⟨t,et⟩:=NF m mx.1
   rw[et]
   exact⟨.str _,H2,I2.kept kk,⟨t,rfl⟩,hQ m mx⟩
end L2
namespace Q
open PySem L2 PyProof.Rows PySem.W
variable{X:Cx}{lq d x:Str}{yf p p1 p2 p3 p4 Ar BC pos:Pos}{T c:Addr}{params:Arguments}{scope:Scope}{e:Expr}{f:WE}{i j k:Nat}{ob:zl}{kd:_}
end Q
namespace L2
open PySem PySem.Spec PyProof.Rows
variable{P:aaE}{w:World}{K:aag}{mg:Str->Option Value}{k:Nat}{a:Addr}{fd:abz}{x:Str}{sp:Sp}{vs:List Value}
theorem pG{mb:Str->Option Value}{fa:Addr}{Ts:List Addr}{s₁:Shared}{ns:List Int}
  (KX:K.In s₁.heap) (Hc:s₁.heap.Ns aaJ mg) (hb:s₁.heap.Ns aes mb) (Tb:∀x:Str,x ≠ "__name__" -> mb x=acg x) (JP:s₁.heap.NoLimit) (hg:s₁.gens=#[])
  (ha:s₁.heap.get? a=some {cls:=.type "list",data:=.seq vs.toArray}) (hi:IntsAre vs ns) (hl:ns.length<=sizeLine) (hr:yj k aeY) (hC:∀T∈Ts,∃c,abf K c T=true) (hT:∀T∈Ts,s₁.heap.get? T=some (ade #[])) (P6:∀T∈Ts,K.lookup T=none) (hB:BMain mg s₁.heap)
  (F:∀base:Heap,K.In base->base.Ns aaJ mg->BMain mg base->yd P w K mg base yQ k fa fd [x] sp) (MF:∀(s:Shared) (u:Value),BindsTo s fd ⟨[u],[]⟩ [(x,u)])
  (Hb:∀H:Hp,zp K H a (ns.map V.int)->(∀T∈Ts,H T=some (zo T #[]))->sp [.ref a] H (λv H'=>v=.bl true/\∀T∈Ts,∃ps,H' T=some (zo T ps)) λ_ _ _=>False) :
  aec (model P w) aeY (.call (.ref fa) ⟨[.ref a],[]⟩) (λr s'=>r=.ok (.ret (.bool true))/\OldK s₁.heap s'.heap/\s'.os=s₁.os/\aeg s'.gens) s₁:=by
 have rv:=kN hi
 have OX:=hi.length
 have Rt:a∉Ts:=λz=>by rw[hT a z]at ha;cases ha
 have core:∀H:Hp,(∀b,H b=none\/(∃o xs,H b=some (.Ay o (.lst xs)))\/b∈Ts)->zp K H a (ns.map V.int)->(∀T∈Ts,H T=some (zo T #[]))->AA P w H s₁.heap->(∀b,H b≠none->b=a\/b∈Ts)->(H a≠none->K.lookup a=none) ->
   aec (model P w) aeY (.call (.ref fa) ⟨[.ref a],[]⟩) (λr s'=>r=.ok (.ret (.bool true))/\OldK s₁.heap s'.heap/\s'.os=s₁.os/\aeg s'.gens) s₁:=by
  intro H hO hS P7 ye hA hK
  have Dc:∀{b:Addr} {o:Obj},s₁.heap.get? b=some o->H b=none->(Cu s₁.heap H).get? b=some o:=λe n=>tf e n
  have plain:∀{b:Addr} {o:Obj},s₁.heap.get? b=some o->o≠{cls:=.type "list",data:=.seq vs.toArray}->o≠ade #[]->H b=none:=λ{b o} e n1 n2=>by
   cases q:H b with
   |none=>rfl
   |some u=>
    rcases hA b (by rw[q];simp)with z|z
    .rw[z,ha]at e;cases e;exact absurd rfl n1
    .rw[hT b z]at e;cases e;exact absurd rfl n2
  have LS:∀{b:Addr} {o:Obj} {es:Array DictEntry} {ep:Nat},s₁.heap.get? b=some o->o.data=.dict es ep->H b=none:=λ{b o es ep} e d=>plain e (λz=>by rw[z]at d;cases d) (λz=>by rw[z]at d;cases d)
  have NA:∀{b:Addr} {m:Str->Option Value},s₁.heap.Ns b m->(Cu s₁.heap H).Ns b m:=λ{b m} ⟨o,es,ep,e,d,r⟩=>⟨o,es,ep,Dc e (LS e d),d,r⟩
  have Rv:K.In (Cu s₁.heap H):=λb o e=>Dc (KX b o e) (by
   cases q:H b with
   |none=>rfl
   |some u=>
    rcases hA b (by rw[q];simp)with z|z
    .subst z
     rw[hK (by rw[q];simp)]at e;cases e
    .rw[P6 b z]at e;cases e)
  have Tv:BMain mg (Cu s₁.heap H):=by
   obtain⟨bm,o,b1,b2,b3,b4,b5,b6⟩:=hB.ex
   exact⟨bm,o,b1,b2,Dc b3 (plain b3 (λz=>by rw[z]at b6;cases b6) (λz=>by rw[z]at b6;cases b6)),b4,b5,b6⟩
  have hM:Mod K mg (Cu s₁.heap H):=⟨Rv,NA Hc,⟨mb,NA hb,Tb⟩,let ⟨mc,h1,h2⟩:=JP;⟨mc,NA h1,h2⟩⟩
  have e0:DQ P w K mg (Cu s₁.heap H) aeY [] s₁ H:=⟨rfl,hM,λb o e=>uT e,adR (rg _ _),trivial,λb hb=>absurd (show b∈([]:List Addr)from hb) (by simp),ye,.of_eq hg⟩
  refine aeF ((F _ Rv (NA Hc) Tv).run aeY [] s₁ H ⟨[.ref a],[]⟩ [.ref a] [.ref a] _ _ hr e0 (MF s₁ (.ref a)) (.cons rfl .nil) (Hb H hS P7)) λr s' h=>?_
  cases r with
  |error e=>exact(show False from h).elim
  |ok fl=>
   cases fl with
   |next=>exact acf h
   |brk=>exact acf h
   |cont=>exact acf h
   |ret u=>
    obtain⟨v,H',os,bare,un,My,r',q,NT⟩:=h
    subst q
    obtain rfl:u=Value.bool true:=r'
    have gT:∀T∈Ts,∃ps,s'.heap.get? T=some (ade ps):=λT h=>by
     obtain⟨ps,e⟩:=NT T h
     exact⟨ps,(My T _ e).1⟩
    have keep:∀b o,s₁.heap.get? b=some o->b∉Ts->s'.heap.get? b=some o:=λb o e PX=>by
     cases q:H b with
     |none=>exact un.keep b o e q (by intro z;exact absurd (show b∈([]:List Addr)from z) (by simp)) (by simp)
     |some u=>
      rcases hO b with z|⟨ob,xs,z⟩|z
      .rw[q]at z;cases z
      .have z2:=un.C3 b ob _ z
       obtain⟨e1,_⟩:=ye b _ z
       obtain⟨e2,_⟩:=My b _ z2
       rw[e]at e1;cases e1
       exact e2
      .exact absurd z PX
    refine⟨rfl,⟨λb o e=>?_,λb o e=>?_⟩,os,bare⟩
    .by_cases z:b∈Ts
     .obtain⟨c,hc⟩:=hC b z
      obtain⟨ps,g⟩:=gT b z
      rw[hT b z]at e;cases e
      exact .inr (.inl ⟨((PySem.W.codeHd_of_K KX hc).tab (hT b z)).isCodeTable,rfl,#[],ps,rfl,by rw[Array.empty_append];exact g⟩)
     .exact .inl (keep b o e z)
    .by_cases z:b∈Ts
     .obtain⟨ps,g⟩:=gT b z
      exact⟨_,g⟩
     .exact⟨o,keep b o e z⟩
 cases hk:K.lookup a with
 |some o=>
  have e:=KX a o hk
  rw[ha]at e
  cases e
  refine core (λb=>if b∈Ts then some (zo b #[])else none) (λb=>?_) (.inr ⟨_,vs.toArray,_,hk,rfl,rfl,rfl,by rw[aaf,OX];exact hl,by simpa using rv⟩) (λT h=>if_pos h) (λb u z=>?_) (λb z=>?_) λz=>absurd (if_neg Rt) z
  .by_cases hb:b∈Ts
   .exact .inr (.inr hb)
   .exact .inl (if_neg hb)
  .by_cases hb:b∈Ts
   .have z':=(if_pos hb).symm.trans z
    cases z'
    exact lM (hT b hb)
   .have z':=(if_neg hb).symm.trans z
    cases z'
  .by_cases hb:b∈Ts
   .exact .inr hb
   .exact absurd (if_neg hb) z
 |none=>
  refine core (λb=>if b∈Ts then some (zo b #[])else if b=a then some (.Ay {cls:=.type "list",data:=.seq vs.toArray} (.lst (ns.map V.int)))else none) (λb=>?_) (.inl (.inr ⟨{cls:=.type "list",data:=.seq vs.toArray},(if_neg Rt).trans (if_pos rfl)⟩)) (λT h=>if_pos h) (λb u z=>?_) (λb z=>?_) λ_=>hk
  .by_cases hb:b∈Ts
   .exact .inr (.inr hb)
   .by_cases DZ:b=a
    .exact .inr (.inl ⟨_,_,(if_neg hb).trans (if_pos DZ)⟩)
    .exact .inl ((if_neg hb).trans (if_neg DZ))
  .by_cases hb:b∈Ts
   .have z':=(if_pos hb).symm.trans z
    cases z'
    exact lM (hT b hb)
   .have z:=(if_neg hb).symm.trans z
    by_cases DZ:b=a
    .have z:=(if_pos DZ).symm.trans z
     cases z
     subst DZ
     exact⟨ha,by rw[aae];exact hl,vs,_,rv,ha⟩
    .have z:=(if_neg DZ).symm.trans z
     cases z
  .by_cases hb:b∈Ts
   .exact .inr hb
   .by_cases DZ:b=a
    .exact .inl DZ
    .exact absurd ((if_neg hb).trans (if_neg DZ)) z
variable{n:Nat}
theorem qa{l:ae4}{q:aaE}{loose:List Str}{XP:(Str->Option Value)->Heap->Prop}{YP:World->Heap->Prop}{d:DefRec}{K:Params->aag}{sp:World->Sp}{Ts:List Addr}
  (hn:l.most=some n) (SN:n<=sizeLine) (ME:d.params.defaults=[]) (hr:yj k aeY)
  (hY:∀(w:World) (h:Heap),YP w h->(K w.params).In h/\∀T∈Ts,h.get? T=some (ade #[])) (P6:∀(w:World),∀T∈Ts,(K w.params).lookup T=none)
  (F:∀(w:World) (mg:Str->Option Value) (fa:Addr) (h:Heap),(K w.params).In h->h.Ns aaJ mg->mg d.name=some (.ref fa) ->
   ∃fd:abz,(∀(s:Shared) (u:Value),BindsTo s fd ⟨[u],[]⟩ [(x,u)])/\(∀T∈Ts,∃c,abf (K w.params) c T=true) /\
    ∀base:Heap,(K w.params).In base->base.Ns aaJ mg->BMain mg base->yd l.prog w (K w.params) mg base yQ k fa fd [x] (sp w))
  (Hb:∀(w:World) (H:Hp) (a:Addr) (ns:List Int),ns.length<=n->zp (K w.params) H a (ns.map V.int)->(∀T∈Ts,H T=some (zo T #[]))->sp w [.ref a] H (λv H'=>v=.bl true/\∀T∈Ts,∃ps,H' T=some (zo T ps)) λ_ _ _=>False) :
  PySem.W.WalkO q loose XP YP l.row.toRowW d [] (λf vs=>PySem.call f vs):=by
 refine Att.DI hn ME λw s₀ s₁ mg mb fa o pm cd doc a vs ns G Y ho hd Cd hmg JJ hints hlen hg=>?_
 obtain⟨KX,hT⟩:=hY w _ Y
 obtain⟨fd,hb,hC,hF⟩:=F w mg fa _ KX G.T.g hmg
 have hB:BMain mg s₁.heap:=by
  obtain⟨bm,ob,b1,b2,b3,b4,b5,b6⟩:=G.T.bmain
  exact⟨bm,ob,b1,b2,b3,b4,b5,b6⟩
 exact pG KX G.T.g G.T.b G.T.builtins G.T.nolimit hg JJ hints (aaZ hlen SN) hr hC hT (P6 w) hB hF hb (λH hS P7=>Hb w H a ns hlen hS P7)
end L2
namespace Q
open PySem L2 PyProof.Rows PySem.W
inductive Fv:PV->PV->Prop where
 |one (x:PV):Fv x x
 |fst (x y:PV):Fv (.tup [x,y]) x
 |snd (x y:PV):Fv (.tup [y,x]) x
variable{lq:Str}{ln co:Nat}{T:Addr}{x y:PV}
theorem jd(h:yY lq ln co T=.tup [x,y]):False:=by unfold yY at h;simp at h
variable{H:Hp}{a:Addr}{l:List Addr}
theorem fm(h:TabAt H a l (yY lq ln co T)):a=T:=by
 obtain⟨_,_,_,_,q,_⟩:=h
 exact(nK q).2.2.2.symm
variable{K:aag}{F:Hp}
theorem r8{cc:PV}(hc:Fv cc (yY lq ln co T))(ho:(zW K).P F H a l cc):
  ∃l0 rest:List Addr,TabAt H T l0 (yY lq ln co T)/\(∀b,b∈l↔b∈l0\/b∈rest)/\(∀b∈l0,b∉rest)/\∀(H':Hp) (Gu:List Addr),TabAt H' T Gu (yY lq ln co T)->(∀b∈rest,H' b=H b)->(∀b∈Gu,b∉rest)->∃l',(zW K).P F H' a l' cc/\∀b,b∈l'↔b∈Gu\/b∈rest:=by
 cases hc with
 |one=>
  rcases ho with (⟨q,_⟩|⟨_,_,q,_⟩)|⟨_,q,_⟩|ht|⟨_,_,_,_,_,q,_⟩
  .cases q
  .cases q
  .cases q
  .obtain rfl:=fm ht
   exact⟨l,[],ht,λb=>by simp,λb _=>by simp,λH' Gu h _ _=>⟨Gu,.inr (.inr (.inl h)),λb=>by simp⟩⟩
  .exact(jd q).elim
 |fst _ y=>
  rcases ho with (⟨q,_⟩|⟨_,_,q,_⟩)|⟨_,q,_⟩|⟨_,_,_,_,q,_⟩|⟨x1,x2,T2,l1,l2,q,rfl,h1,h2,h3⟩
  .cases q
  .cases q
  .cases q
  .exact(jd q.symm).elim
  .injection q with q
   injection q with q1 q
   injection q with q2 _
   subst q1 q2
   obtain rfl:=fm h1
   exact⟨l1,l2,h1,λb=>acr,h3,λH' Gu h e dj=>⟨Gu++l2,.inr (.inr (.inr ⟨_,_,T2,Gu,l2,rfl,rfl,h,h2.mono e,dj⟩)),λb=>acr⟩⟩
 |snd _ y=>
  rcases ho with (⟨q,_⟩|⟨_,_,q,_⟩)|⟨_,q,_⟩|⟨_,_,_,_,q,_⟩|⟨x1,x2,T2,l1,l2,q,rfl,h1,h2,h3⟩
  .cases q
  .cases q
  .cases q
  .exact(jd q.symm).elim
  .injection q with q
   injection q with q1 q
   injection q with q2 _
   subst q1 q2
   obtain rfl:=fm h2
   exact⟨l2,l1,h2,λb=>by rw[acr];exact Or.comm,λb hb z=>h3 b z hb,λH' Gu h e dj=>⟨l1++Gu,.inr (.inr (.inr ⟨_,_,_,l1,Gu,rfl,rfl,h1.mono e,h,λb hb z=>dj b z hb⟩)),λb=>by rw[acr];exact Or.comm⟩⟩
variable{X:Cx}{Z:Zn}{F1:Hp}{σ:L2.St}{j:Nat}
theorem nJ{H1:Hp}{e1:En}{cc:PV}{d:Str}{yf:Pos}{params:Arguments}{body:Expr}{scope:Scope}{R:Hp->Prop}(K1:x3 (md (zW X.K) X) Z F1 σ H1 e1)(ej:e1[j]?=some (some ⟨2,cc⟩))(hc:Fv cc (yY lq yf.line yf.col T))
  (hR:∀H2,x3 (md (zW X.K) X) Z F1 σ H2 e1->R H2):E9 X lq d yf T params body scope σ H1 λ_ H2=>R H2:=by
 obtain⟨fp,L⟩:=K1.sl
 obtain⟨vt,hσt,Sa⟩:=L.at' j _ ej
 obtain⟨a,rfl,ho⟩:∃a,vt=.ref a/\(zW X.K).P F1 H1 a (fp j) cc:=by
  rcases Sa with ⟨q,_⟩|⟨q,_⟩|⟨_,a,e,_,ho⟩|⟨q,_⟩
  .cases q
  .cases q
  .exact⟨a,e,ho⟩
  .cases q
 obtain⟨l0,rest,ht,hm,Ta,Pj⟩:=r8 hc ho
 obtain⟨OW,ln,co,ps,q,t1,t2,t3⟩:=ht
 obtain⟨rfl,e2,e3,_⟩:=nK q
 have ec:∀l,acz ⟨ln,co,0,0⟩ l=acz yf l:=iq e2.symm e3.symm
 have NS:T∈l0:=by
  rcases t3 with ⟨q,_⟩|⟨_,_,q,_⟩<;>rw[q]<;>simp
 have al:∀b∈fp j,H1 b≠none/\F1 b=none:=L.al j
 have Rx:F1 T=none:=(al T ((hm T).mpr (.inl NS))).2
 refine⟨ps,t1,t2,?_⟩
 rcases t3 with ⟨MD,GF⟩|⟨c',hne,MD,Mt,JX⟩
 .rw[ec]at GF
  refine .inl ⟨GF,λc' f' ob a1 a2 a3 a4 a5 _=>hR _ ?_⟩
  have old:∀b o,H1 b=some o->b≠T->(upd (upd (upd H1 T (zo T (ps++#[rawInt yf.line,rawInt yf.col,.ref c']))) c' (zA c' lq)) f' (A6 f' ob)) b=some o:=λb o hb PX=>by
   rw[af (av hb a2),af (av hb a1),af PX];exact hb
  have eT:(upd (upd (upd H1 T (zo T (ps++#[rawInt yf.line,rawInt yf.col,.ref c']))) c' (zA c' lq)) f' (A6 f' ob)) T=some (zo T (ps++#[rawInt yf.line,rawInt yf.col,.ref c'])):=by
   rw[af (abO a5),af (abO a4),ai]
  have eC:(upd (upd (upd H1 T (zo T (ps++#[rawInt yf.line,rawInt yf.col,.ref c']))) c' (zA c' lq)) f' (A6 f' ob)) c'=some (zA c' lq):=by
   rw[af a3,ai]
  generalize (upd (upd (upd H1 T (zo T (ps++#[rawInt yf.line,rawInt yf.col,.ref c']))) c' (zA c' lq)) f' (A6 f' ob))=H2 at old eT eC ⊢
  have tl:(ps++#[rawInt yf.line,rawInt yf.col,aas c']).toList=ps.toList++[rawInt yf.line,rawInt yf.col,aas c']:=by simp
  have rs:∀b∈rest,b≠T/\∃o,H1 b=some o:=λb hb=>⟨λz=>Ta T NS (z ▸ hb),bP (al b ((hm b).mpr (.inr hb))).1⟩
  obtain⟨l',Di,JN⟩:=Pj H2 [T,c'] ⟨lq,yf.line,yf.col,_,rfl,eT,by rw[tl];exact TriplesOk_snoc _ _ _ _ t2,.inr ⟨c',a4,rfl,by rw[tl];exact(iq (p:=⟨yf.line,yf.col,0,0⟩) (q:=yf) rfl rfl _).trans (codeAmong_snoc _ t2 GF),eC⟩⟩
   (λb hb=>by
    obtain⟨z,o,e⟩:=rs b hb
    rw[e,old b o e z]) (λb hb z=>by
    rcases List.mem_cons.mp hb with rfl|hb
    .exact(rs _ z).1 rfl
    .rw[List.mem_singleton.mp hb]at z
     obtain⟨_,o,e⟩:=rs _ z
     rw[a1]at e;cases e)
  have K2:=(K1.Hw (.inl rfl) L ej hσt (l':=l') (F':=F1) (H':=H2) (c':=cc) (λb o hb hn=>old b o hb λz=>hn ((hm b).mpr (.inl (z ▸ NS)))) (λb hb=>?_) am (λb o hb=>old b o (K1.sF b o hb) λz=>by rw[z,Rx]at hb;cases hb) (λb hb=>.inl hb) Di (λb hb=>?_) (λb hb=>?_)).1
  .rw[sd ej]at K2
   exact K2
  .by_cases z:b=T
   .rw[z,eT];simp
   .obtain⟨o,ho⟩:=bP hb
    rw[old b o ho z];simp
  .rcases(JN b).mp hb with hb|hb
   .rcases List.mem_cons.mp hb with rfl|hb
    .exact⟨by rw[eT];simp,Rx⟩
    .rw[List.mem_singleton.mp hb]
     exact⟨by rw[eC];simp,dO.none_of K1.sF a1⟩
   .obtain⟨z,o,e⟩:=rs b hb
    exact⟨by rw[old b o e z];simp,(al b ((hm b).mpr (.inr hb))).2⟩
  .rcases(JN b).mp hb with hb|hb
   .rcases List.mem_cons.mp hb with rfl|hb
    .exact .inl ((hm _).mpr (.inl NS))
    .rw[List.mem_singleton.mp hb];exact .inr a1
   .exact .inl ((hm b).mpr (.inr hb))
 .refine .inr ⟨c',(ec _).symm.trans Mt,JX,λf' ob a1 _=>hR _ ?_⟩
  have sH:dO H1 (upd H1 f' (A6 f' ob)):=ay a1
  exact K1.move am (ah K1.sF sH) sH λ_ h=>.inl h
variable{i:Nat}
theorem ow{H1:Hp}{e1:En}{kvs:List (Key×PV)}{ss:List Str}{ks:List (Int×Str)}(K1:x3 (md (zW X.K) X) Z F1 σ H1 e1)(ei:e1[i]?=some (some ⟨0,.yw kvs⟩))
  (Ei:∀m,m<ss.length->zq kvs (aan (ss.getD m ⟨#[]⟩))=some (.tup [.int (ks.getD m k0).1,.str (ks.getD m k0).2])) :
  ∃(dd:Addr) (vs:List (Key×V)) (ad:List Addr),σ[i]?=some (some (.ref dd))/\H1 dd=some (.dK vs)/\ad.length=ss.length/\∀m,m<ss.length->zG vs (aan (ss.getD m ⟨#[]⟩))=some (.ref (ad.getD m 0))/\zg X.K H1 (ad.getD m 0) [.int (ks.getD m k0).1,.str (ks.getD m k0).2]:=by
 obtain⟨fp,L⟩:=K1.sl
 obtain⟨vr,hσ,Sb⟩:=L.at' i _ ei
 obtain⟨dd,Fz,rfl,Fn,rk⟩:∃dd Fz,vr=.ref dd/\F1 dd=some (.dK Fz)/\nE X.K F1 Fz kvs:=by
  rcases Sb with ⟨_,_,r⟩|⟨q,_⟩|⟨q,_⟩|⟨q,_⟩
  .cases r with
   |yw a b=>exact⟨_,_,rfl,a,b⟩
  .cases q
  .rcases q with q|q<;>cases q
  .cases q
 have ex:∀m:Nat,∃a:Addr,m<ss.length->zG Fz (aan (ss.getD m ⟨#[]⟩))=some (.ref a)/\zg X.K F1 a [.int (ks.getD m k0).1,.str (ks.getD m k0).2]:=λm=>by
  by_cases hm:m<ss.length
  .have hv:=Ei m hm
   rcases rk.val (k:=aan (ss.getD m ⟨#[]⟩))with ⟨_,q⟩|⟨v,x,q1,q2,q3⟩
   .rw[q]at hv;cases hv
   .rw[hv]at q2;cases q2
    cases q3 with
    |tup g1 g2=>
     cases g2 with
     |cons g2 g3=>cases g3 with
      |cons g3 g4=>cases g4;cases g2;cases g3;exact⟨_,λ_=>⟨q1,g1⟩⟩
  .exact⟨0,λh=>absurd h hm⟩
 obtain⟨g,Rp⟩:=Classical.axiomOfChoice ex
 have Uv:∀m,m<ss.length->((aaS ss.length).map g).getD m 0=g m:=λm hm=>by
  rw[aac,aah,abX hm];rfl
 exact⟨dd,Fz,(aaS ss.length).map g,hσ,K1.sF _ _ Fn,by simp,λm hm=>by
  rw[Uv m hm]
  exact⟨(Rp m hm).1,aw K1.sF (Rp m hm).2⟩⟩
def Na(lq:Str)(ln co:Nat)(T:Addr)(c:PV)(ys:List PV)(kvs:List (Key×PV))(ss:List Str)(ks:List (Int×Str)):Prop:=Fv c (yY lq ln co T)/\ys.mapM Dq=some ss/\ss.length<64/\ks.length=ss.length/\(ks.map (·.2)).Nodup /\
  ∀m,m<ss.length->zq kvs (aan (ss.getD m ⟨#[]⟩))=some (.tup [.int (ks.getD m k0).1,.str (ks.getD m k0).2])
def kG(j i:Nat)(lq:Str)(ln co:Nat)(T:Addr)(f:WE):WE:=λenv P=>f env λx e=>match x,e[i]?,e[j]? with
 |.tup ys,some (some ⟨0,.yw kvs⟩),some (some ⟨2,c⟩)=>∃(ss:List Str) (ks:List (Int×Str)),Na lq ln co T c ys kvs ss ks/\∀ix,HY ks ss.length ix->P (.lst (ix.map λm=>.str (ss.getD m ⟨#[]⟩))) e
 |_,_,_=>False
def Eu(j i:Nat)(lq:Str)(ln co:Nat)(T:Addr)(f:WE):WE:=λenv P=>f env λx e=>match x,e[i]?,e[j]? with
 |.tup ys,some (some ⟨0,.yw kvs⟩),some (some ⟨2,c⟩)=>∃(ss:List Str) (ks:List (Int×Str)),Na lq ln co T c ys kvs ss ks/\(ss.length=0->P .lT e)/\∀m,Dh ks ss.length m->P (.str (ss.getD m ⟨#[]⟩)) e
 |_,_,_=>False
variable{d x:Str}{yf p p1 p2 p3 p4 Ar BC pos:Pos}{c:Addr}{params:Arguments}{scope:Scope}{e:Expr}{f:WE}{k:Nat}{ob:zl}{kd:_}
theorem rE(j i:Nat)(S:Cm x d params scope)(S2:Cn d params scope)(hr:yj k X.A)(hg:Gl X "sorted")(hm:X.mg "sorted" = none)(hq:X.env.qual ++ "<lambda>" = lq)(AF:X.env.code=.ref c)(hC:abf X.K c T=true)(hB:BMain X.mg X.base)
  (hi:X.N[i]?=some d) (hd:X.env.kindOf d=some .cell) (hv:Dj X.env.scope d) (ha:yA ob X e f) (Fi:ob=zW X.K:=by rfl)
  (hs:aai [e] X.env=(false,eval e X.env)::aai [] X.env:=by rfl)
  (h1:backTo pos (aai [e] X.env)=(false,eval e X.env)::backTo pos (aai [] X.env):=by rfl) (h2:(backTo pos (aai [e] X.env)).any (·.1)=false:=by rfl) :
  E5 ob X (.Call (.Name "sorted" p) [e] [⟨some "key",.Lambda params (.Subscript (.Name d p1) (.Name x p2) p3) scope yf,Ar⟩] pos) (kG j i lq yf.line yf.col T f):=by
 subst Fi
 obtain⟨te,JF,Hz⟩:=ha.ex
 refine⟨_,sr (i:=i) S S2 hr hg hm hq AF hC hB hi hd hv JF hs h1 h2,λZ F σ H env Pp Q K hf kk=>?_⟩
 refine Hz Z F σ H env _ _ K hf λy e1 v F1 H1 p s1 K1 r1=>?_
 split at p
 case h_2=>exact p.elim
 rename_i ys kvs cc ei ej
 obtain⟨ss,ks,⟨hc,Ph,zO,l2,nd,Ei⟩,p⟩:=p
 cases r1 with
 |tup hl Pl=>
 have:=dh jP Ph Pl
 subst this
 obtain⟨dd,Fz,ad,hσ,Fn,l1,hk⟩:=ow K1 ei Ei
 have OH:∀ix:List Nat,oF X.K F1 (ix.map λm=>V.str (ss.getD m ⟨#[]⟩)) (ix.map λm=>PV.str (ss.getD m ⟨#[]⟩)):=λix=>by
  induction ix with
  |nil=>exact .nil
  |cons a r ih=>exact .cons (.str _) ih
 exact⟨_,ss,dd,Fz,ad,ks,rfl,aw K1.sF hl,zO,hσ,Fn,l1,l2,nd,hk,nJ K1 ej hc λH2 K2 D ix hD ok=>kk _ e1 _ F1 _ (p ix ok) s1 (λ_=>by simp) (K2.own hD ⟨_,ai,OH ix⟩)⟩
theorem tI(j i:Nat)(S:Cm x d params scope)(S2:Cn d params scope)(hr:yj k X.A)(NR:X.calm=true)(hg:Gl X "max")(hm:X.mg "max" = none)(hq:X.env.qual ++ "<lambda>" = lq)(AF:X.env.code=.ref c)(hC:abf X.K c T=true)(hB:BMain X.mg X.base)
  (hi:X.N[i]?=some d) (hd:X.env.kindOf d=some .cell) (hv:Dj X.env.scope d) (ha:yA ob X e f) (Fi:ob=zW X.K:=by rfl)
  (hs:aai [e] X.env=(false,eval e X.env)::aai [] X.env:=by rfl)
  (h1:backTo pos (aai [e] X.env)=(false,eval e X.env)::backTo pos (aai [] X.env):=by rfl) (h2:(backTo pos (aai [e] X.env)).any (·.1)=false:=by rfl) :
  yA ob X (.Call (.Name "max" p) [e] [⟨some "key",.Lambda params (.Subscript (.Name d p1) (.Name x p2) p3) scope yf,Ar⟩,⟨some "default",.Constant .none kd p4,BC⟩] pos) (Eu j i lq yf.line yf.col T f):=by
 subst Fi
 obtain⟨te,JF,Hz⟩:=ha.ex
 refine⟨_,uA (i:=i) S S2 hr NR hg hm hq AF hC hB hi hd hv JF hs h1 h2,λZ F σ H env Pp Q K hf kk=>?_⟩
 refine Hz Z F σ H env _ _ K hf λy e1 v F1 H1 p s1 K1 r1=>?_
 split at p
 case h_2=>exact p.elim
 rename_i ys kvs cc ei ej
 obtain⟨ss,ks,⟨hc,Ph,zO,l2,nd,Ei⟩,pn,pm⟩:=p
 cases r1 with
 |tup hl Pl=>
 have:=dh jP Ph Pl
 subst this
 obtain⟨dd,Fz,ad,hσ,Fn,l1,hk⟩:=ow K1 ei Ei
 exact⟨_,ss,dd,Fz,ad,ks,rfl,aw K1.sF hl,zO,hσ,Fn,l1,l2,nd,hk,nJ K1 ej hc λH2 K2=>⟨λz=>kk _ e1 _ F1 _ (pn z) s1 K2 .lT,λm mx=>kk _ e1 _ F1 _ (pm m mx) s1 K2 (.str _)⟩⟩
def BW(K:aag)(T:Addr×Addr):Sp:=λvs H Q _=>∃(a:Addr) (ns:List Int),vs=[.ref a]/\zp K H a (ns.map V.int)/\ns.length<=63/\T.1≠T.2/\H T.1=some (zo T.1 #[])/\H T.2=some (zo T.2 #[])/\∀(H':Hp),(∃ps,H' T.1=some (zo T.1 ps))->(∃ps,H' T.2=some (zo T.2 ps))->Q (.bl true) H'
variable{P:aaE}{w:World}{mg:Str->Option Value}{base:Heap}{D:BO}{Ad:Addr}{fd:abz}{ps:List Str}
theorem u9{T:Addr×Addr}{NC:Str}{ln2 N0:Nat}(F:yd P w K mg base yQ k Ad fd ps (spT ⟨P,w,K,zW K⟩ 1 D))
  (h:∀(ns:List Int) (x:PV),ns.length<=63->(x=.Ap ns\/x=.lst (ns.map .int))->D (.tup [yY lq ln co T.1,yY NC ln2 N0 T.2]) [x] λr c=>r=.bl true/\c=.tup [yY lq ln co T.1,yY NC ln2 N0 T.2]):yd P w K mg base yQ k Ad fd ps (BW K T):=by
 refine F.imp λvs H Q E q=>?_
 obtain⟨a,ns,rfl,hs,hn,hne,P4,P2,kq⟩:=q
 let F0:Hp:=λb=>if b∈[T.1,T.2]then none else H b
 have sF:dO F0 H:=λb o e=>by
  by_cases z:b∈[T.1,T.2]
  .have:=(if_pos z).symm.trans e;cases this
  .exact(if_neg z).symm.trans e
 have f0:∀b o,H b=some o->b∉[T.1,T.2]->F0 b=some o:=λb o e z=>(if_neg z).trans e
 have fin:∀x,(x=.Ap ns\/x=.lst (ns.map .int))->Rep K F0 (.ref a) x->spT ⟨P,w,K,zW K⟩ 1 D [.ref a] H Q E:=λx hx r=>
  ⟨F0,T.1,[T.1,T.2],.tup [yY lq ln co T.1,yY NC ln2 N0 T.2],[x],_,sF,.cons r .nil,rfl,.inr (.inr (.inr ⟨_,_,T.2,[T.1],[T.2],rfl,rfl,⟨lq,ln,co,#[],rfl,P4,trivial,.inl ⟨rfl,rfl⟩⟩,⟨NC,ln2,N0,#[],rfl,P2,trivial,.inl ⟨rfl,rfl⟩⟩,λb hb z=>hne ((List.mem_singleton.mp hb).symm.trans (List.mem_singleton.mp z))⟩)),λb hb=>⟨by
    rcases List.mem_cons.mp hb with rfl|hb
    .rw[P4];simp
    .rw[List.mem_singleton.mp hb,P2];simp,if_pos hb⟩,h ns x hn hx,λr c' v F' H' l' e _ _ _ _ _ ho _ _ rv=>by
   obtain⟨rfl,rfl⟩:=e
   cases rv
   rcases ho with (⟨q,_⟩|⟨_,_,q,_⟩)|⟨_,q,_⟩|⟨_,_,_,_,q,_⟩|⟨x1,x2,T2,l1,l2,q,rfl,h1,h2,_⟩
   .cases q
   .cases q
   .cases q
   .exact(jd q.symm).elim
   .injection q with q
    injection q with q1 q
    injection q with q2 _
    subst q1 q2
    obtain rfl:=fm h2
    obtain⟨_,_,_,p1,_,t1,_⟩:=h1
    obtain⟨_,_,_,p2,_,t2,_⟩:=h2
    exact kq H' ⟨p1,t1⟩ ⟨p2,t2⟩⟩
 have no:∀o:HO,(∀T' ps,o≠zo T' ps)->H a=some o->a∉[T.1,T.2]:=λo ho e z=>by
  rcases List.mem_cons.mp z with rfl|z
  .rw[P4]at e;exact ho _ _ (aao e).symm
  .rw[List.mem_singleton.mp z,P2]at e;exact ho _ _ (aao e).symm
 rcases hs with (hs|⟨o,hs⟩)|hs
 .exact fin _ (.inr rfl) (.lst (f0 _ _ hs (no _ (λ_ _ z=>by cases z) hs)) (f9 ns))
 .exact fin _ (.inl rfl) (.Ap (.inl ⟨o,f0 _ _ hs (no _ (λ_ _ z=>by cases z) hs)⟩))
 .exact fin _ (.inl rfl) (.Ap (.inr hs))
end Q
namespace L2
open PySem PySem.Spec PyProof.Rows
variable{prog:aaE}{w:World}{A:Around}{E:Value->Shared->Prop}{s:Shared}
variable{X:Cx}{e l:Expr}{te:TE}{tl:TO}{pos p2 p3:Pos}{c:Int}{j:_}
end L2
namespace Q
open PySem L2 PyProof.Rows
end Q
namespace L2
open PySem PySem.Spec PyProof.Rows
variable{prog:aaE}{w:World}{A:Around}{R:Result->Shared->Prop}
end L2
namespace Q
open PySem L2 PyProof.Rows
variable{ob:zl}{X:Cx}
end Q
namespace L2
open PySem PySem.Spec PyProof.Rows PySem.W
variable{prog:aaE}{w:World}{A:Around}{E:Value->Shared->Prop}{s:Shared}
variable{a kS:Addr}{e e1:Nat}{P:PySem.Fin->Shared->Prop}
theorem mE{n:Nat}{keys:Array Value}{st:SortSt}{out:List Value}(hk:s.heap.get? kS=some (seqObj "list" keys e))(ha:s.heap.get? a=some (seqObj "list" #[] e1))(hne:kS≠a)(SU:keys.size<=100)
  (ho:(arrOf st).map (·.2)=out.toArray) (hf:failedOf st=none) (hz:out.length<=100)
  (h:∀(h':Heap) (c:Nat),h'.get? a=some (seqObj "list" out.toArray.reverse c)->(∀b o,b≠a->b≠kS->s.heap.get? b=some o->h'.get? b=some o)->P (.done (.ret .none)) {s with heap:=h'}) :
  wpAny (model prog w) A (ksk_tail a true e1 (.ref kS) st) P E s:=by
 have s1:=aaX s.heap kS (aa1 λ_=>(#[]:Array Value))
 have C2:(s.heap.update kS (aa1 λ_=>(#[]:Array Value))).get? a=some (seqObj "list" #[] e1):=(s1.2 a hne.symm).trans ha
 unfold ksk_tail
 dsimp only
 rw[ho]
 refine aab (ab5 hk rfl ?_ (by rw[aax];omega) (aaU _))
 refine aab (acC ?_)
 refine aab (ady C2 rfl ?_)
 refine aab (ab5 C2 rfl ?_ (aaU _) (by simp only[if_true,Array.size_reverse,aaf];rw[aax];omega))
 rw[hf]
 simp only[bne_self_eq_false,ab8,if_false,if_true]
 have s2:=aaX (s.heap.update kS (aa1 λ_=>(#[]:Array Value))) a (aa1 λ_=>out.toArray.reverse)
 exact aaj (h _ _ (abF C2 λ_=>out.toArray.reverse) λb o h1 h2 g=>(s2.2 b h1).trans ((s1.2 b h2).trans g))
variable{vs:List Value}{ad:List Addr}{ks:List (Int×Str)}
theorem sY(hk:s.heap.get? kS=some (seqObj "list" (ad.reverse.map aas).toArray e))(ha:s.heap.get? a=some (seqObj "list" #[] e1))(hne:kS≠a)
  (l1:ad.length=vs.length) (l2:ks.length=vs.length) (zO:vs.length<64) (nd:(ks.map (·.2)).Nodup) (hp:∀i,i<vs.length->yC s.heap (ad.getD i 0) (ks.getD i (0,⟨#[]⟩)))
  (h:∀(h':Heap) (c:Nat) (ix:List Nat),ix.length=vs.length->ix.Nodup->(∀i∈ix,i<vs.length)->ix.Pairwise (λi j=>AE ks i j=true)->h'.get? a=some (seqObj "list" (ix.map λi=>vs.getD i aaO).toArray.reverse c)->(∀b o,b≠a->b≠kS->s.heap.get? b=some o->h'.get? b=some o)->P (.done (.ret .none)) {s with heap:=h'}) :
  wpAny (model prog w) A (ksk_end a true vs.reverse.toArray e1 (.ref kS) (ad.reverse.map aas).toArray) P E s:=by
 have kz:(ad.reverse.map aas).toArray.size<=100:=by rw[aaf,aae,acj];omega
 have pr:((ad.reverse.map aas).toArray.zip vs.reverse.toArray).reverse=(ad.map aas).toArray.zip vs.toArray:=by
  apply Array.toList_inj.mp
  rw[Array.toList_reverse,adD,adD]
  show ((ad.reverse.map aas).zip vs.reverse).reverse=(ad.map aas).zip vs
  rw[aeN,List.zip_eq_zipWith,List.zip_eq_zipWith,<- List.reverse_zipWith (by rw[aae];exact l1),acU]
 unfold ksk_end
 dsimp only
 simp only[if_true]
 refine aab (acD ?_)
 rw[pr]
 by_cases h2:vs.reverse.toArray.size<2
 .rw[if_pos h2,if_pos h2]
  rw[aaf,acj]at h2
  refine aab (aaj ?_)
  rw[ae1]
  refine aab (aaj ?_)
  dsimp only
  have ei:(aaS vs.length).map (λi=>vs.getD i aaO)=vs:=by
   apply acx
   intro i
   rw[aah]
   by_cases hi:i<vs.length
   .rw[abX hi];simp[hi]
   .rw[aaq (by simpa using hi),aaq (by omega)];rfl
  refine mE (st:=adn general' ((ad.map aas).toArray.zip vs.toArray) #[] 7 none) (out:=vs) (n:=0) hk ha hne kz ?_ rfl (by omega) λh' c g1 g2=>?_
  .apply Array.toList_inj.mp
   show (((ad.map aas).toArray.zip vs.toArray).map (·.2)).toList=vs
   rw[adE,adD]
   show ((ad.map aas).zip vs).map (·.2)=vs
   exact adC (by rw[aae];omega)
  .refine h h' c (aaS vs.length) (by simp) acR (λi hi=>List.mem_range.mp hi) ?_ (by rw[ei];exact g1) g2
   match hv:vs.length,h2 with
   |0,_=>simp
   |1,_=>simp[adS]
 .rw[if_neg h2,if_neg h2]
  rw[aaf,acj]at h2
  obtain⟨fs,f1,f2,f3⟩:=gi ad.reverse λb hb=>by
   obtain⟨i,hi,rfl⟩:=List.mem_iff_getElem.mp (List.mem_reverse.mp hb)
   have:=hp i (by omega)
   rw[aac,aaa hi]at this
   exact⟨_,this⟩
  refine aab (kat_kind (T:=.type "int") f1 (by rw[acj]at f2;omega) (λv hv=>?_) rfl ?_)
  .obtain⟨c,t,rfl⟩:=f3 v hv
   exact Looks.of_pure rfl
  have hT:((abS "int") != (abS "tuple"))=true:=by decide
  rw[hT]
  have O5:((ad.map aas).toArray.zip vs.toArray).size=vs.length:=by rw[afj,aaf,aaf,aae];omega
  have Qi:adn (ada true) ((ad.map aas).toArray.zip vs.toArray) #[] 7 none=kas_st (ada true) ((ad.map aas).toArray.zip vs.toArray) (ac9 (aaS vs.length)):=by
   have q:=kas_range ((ad.map aas).toArray.zip vs.toArray)
   rw[O5]at q
   show _=adn (ada true) ((ac9 (aaS vs.length)).map (acO _)) #[] 7 none
   rw[q]
  have o:Srt.Ord (AE ks) vs.length:=l2 ▸ ki nd
  have D9:∀i j,i<vs.length->j<vs.length->i≠j->(ks.getD i (0,⟨#[]⟩)).2≠(ks.getD j (0,⟨#[]⟩)).2:=λi j hi hj ne q=>by
   have a:(ks.map (·.2))[i]'(by rw[aae];omega)=(ks.map (·.2))[j]'(by rw[aae];omega):=by
    rw[abL,abL]
    rw[aac,aac,aaa (by omega),aaa (by omega)]at q
    exact q
   exact ne ((abh nd).mp a)
  have ask:(kas_sort vs.length).kasWp (kas_cmp prog w A (ada true) ((ad.map aas).toArray.zip vs.toArray)) (λp z=>z=s/\Srt.Pm p vs.length/\Srt.EG (AE ks) p vs.length) s:=by
   refine Srt.pw_wp (lt:=AE ks) (n:=vs.length) (Q:=λp=>Srt.Pm p vs.length/\Srt.EG (AE ks) p vs.length) (J:=λz=>z=s) ?_ (λp z hz q=>⟨hz,q⟩) (kas_sort vs.length) _ rfl (Srt.jQ o (by omega) λp a b=>⟨a,b⟩)
   rintro i j C z hi hj ne rfl hC
   show wpAny _ _ (keyLt' (ada true) (acO _ i).1 (acO _ j).1) _ _ _
   rw[cX l1 hi,cX l1 hj]
   exact n6 (hp i hi) (hp j hj) (D9 i j hi hj ne) (hC _ rfl)
  have run:=kas_runs (E:=E) (Q:=λ_ CB z=>∃p:Array Nat,p.size=vs.length/\arrOf CB=p.map (acO ((ad.map aas).toArray.zip vs.toArray))/\failedOf CB=none/\z=s/\Srt.Pm p vs.length/\Srt.EG (AE ks) p vs.length)
   (by omega) zO (λp' CB z a1 a2 a3 a4=>⟨p',a1,a2,a3,a4⟩) ask
  rw[<- Qi]at run
  refine aab (aaM run ?_ λ_ _ q=>q)
  rintro⟨⟨⟩,CB⟩ z ⟨p,LO,PY,hf,rfl,Pm,As⟩
  dsimp only
  have y6:∀i∈p.toList,i<vs.length:=λi hi=>by
   obtain⟨j,hj,rfl⟩:=Array.mem_iff_getElem.mp (Array.mem_toList_iff.mp hi)
   have:=Pm.lt j (by rw[<- Pm.sz];exact hj)
   rw[Srt.aK]at this
   simpa only[adh hj,acB]using this
  refine mE (st:=CB) (out:=p.toList.map λi=>vs.getD i aaO) (n:=0) hk ha hne kz ?_ hf (by rw[aae,abe,LO];omega) λh' c g1 g2=>h h' c p.toList (by rw[abe,LO]) ?_ y6 ?_ g1 g2
  .apply Array.toList_inj.mp
   rw[PY,Array.map_map,adE]
   exact aaH λi hi=>by show (acO _ i).2=_;rw[cX l1 (y6 i hi)]
  .rw[ab2,abD]
   intro i j hi hj AR q
   have Cc:i<p.size:=by simpa using hi
   have Bn:j<p.size:=by simpa using hj
   have:=Pm.nd i j (by rw[<- Pm.sz];exact Cc) (by rw[<- Pm.sz];exact Bn) (by rw[Srt.aK,Srt.aK];simpa[Cc,Bn]using q)
   omega
  .rw[abD]
   intro i j hi hj AR
   have Cc:i<p.size:=by simpa using hi
   have Bn:j<p.size:=by simpa using hj
   have:=As i j AR (by rw[<- Pm.sz];exact Bn)
   rw[Srt.aK,Srt.aK]at this
   simpa[Cc,Bn]using this
theorem vd(hk:s.heap.get? kS=some (seqObj "list" (ad.map aas).toArray e))(ha:s.heap.get? a=some (seqObj "list" #[] e1))(hne:kS≠a)
  (l1:ad.length=vs.length) (l2:ks.length=vs.length) (zO:vs.length<64) (nd:(ks.map (·.2)).Nodup) (hp:∀i,i<vs.length->yC s.heap (ad.getD i 0) (ks.getD i (0,⟨#[]⟩)))
  (h:∀(h':Heap) (c:Nat) (ix:List Nat),ix.length=vs.length->ix.Nodup->(∀i∈ix,i<vs.length)->ix.Pairwise (λi j=>AE ks j i=true)->h'.get? a=some (seqObj "list" (ix.map λi=>vs.getD i aaO).toArray c)->(∀b o,b≠a->b≠kS->s.heap.get? b=some o->h'.get? b=some o)->P (.done (.ret .none)) {s with heap:=h'}) :
  wpAny (model prog w) A (ksk_end a true vs.toArray e1 (.ref kS) (ad.map aas).toArray) P E s:=by
 have rv:∀{α:Type} (l:List α) (d:α) (i:Nat),i<l.length->l.reverse.getD i d=l.getD (l.length - 1 - i) d:=λl d i hi=>by
  rw[aac,aac,List.getElem?_reverse hi]
 have:=sY (prog:=prog) (w:=w) (A:=A) (E:=E) (s:=s) (a:=a) (kS:=kS) (e:=e) (e1:=e1) (vs:=vs.reverse) (ad:=ad.reverse) (ks:=ks.reverse) (P:=P) (by rw[acU];exact hk) ha hne (by simp[l1]) (by simp[l2]) (by simpa using zO) (by rw[aeN];exact qL nd)
  (λi hi=>by
   rw[acj]at hi
   rw[rv ad 0 i (by omega),rv ks _ i (by omega),l1,l2]
   exact hp _ (by omega)) λh' c ix i1 i2 i3 i4 i5 i6=>?_
 .rwa [acU,acU]at this
 rw[acj]at i1 i3
 refine h h' c (ix.reverse.map λi=>vs.length - 1 - i) (by simp[i1]) ?_ (λi hi=>?_) ?_ ?_ i6
 .refine List.pairwise_map.mpr (abH (λ{x y} hx hy q z=>?_) (qL i2))
  have:=i3 x (List.mem_reverse.mp hx)
  have:=i3 y (List.mem_reverse.mp hy)
  exact q (by omega)
 .obtain⟨j,hj,rfl⟩:=List.mem_map.mp hi
  have:=i3 j (List.mem_reverse.mp hj)
  omega
 .refine List.pairwise_map.mpr (abH (λ{x y} hx hy q=>?_) (List.pairwise_reverse.mpr i4))
  have q:AE ks.reverse y x=true:=q
  rw[u4 l2 (i3 y (List.mem_reverse.mp hy)) (i3 x (List.mem_reverse.mp hx))]at q
  exact q
 .rw[i5]
  refine congrArg (λx=>some (seqObj "list" x c)) ?_
  apply Array.toList_inj.mp
  rw[Array.toList_reverse]
  show (ix.map λi=>vs.reverse.getD i aaO).reverse=(ix.reverse.map λi=>vs.length - 1 - i).map λi=>vs.getD i aaO
  rw[<- aeN,aaG]
  exact aaH λi hi=>rv vs _ i (i3 i (List.mem_reverse.mp hi))
variable{X:Cx}{pins:List (Addr×Obj)}{σ:St}{H:Hp}
variable{h':Heap}{t':Nat}{fp:List Addr}
theorem Inv.El(I:Inv X pins σ H s)(hf:∀b∈fp,zN X pins H b)(k:∀b o,b∉fp->s.heap.get? b=some o->h'.get? b=some o):Inv X pins σ H {s with heap:=h',toks:=t'}:=by
 refine I.step (g':=s.gens) (d':=s.drawn) (ch:=fp) (λb hb=>?_) (λb o _ _ hc e _=>k b o hc e) (λb o _ _ hc e _=>⟨o.slots,k b o hc e⟩) (λ_ _ _ _ n=>n)
  (λb o hc e=>⟨o,k b o hc e⟩) (λ_ _ e=>e) (λ_ _ _ e=>e) (λb ps e=>⟨#[],by rw[e];simp⟩) (λm hm=>?_) (λb u e=>?_) I.bare
 .obtain⟨f0,f1,f2,f3,f4,f5⟩:=hf b hb
  exact⟨f3,f1,f4,f5⟩
 .obtain⟨o,es,ep,ho,r⟩:=hm
  exact⟨o,es,ep,k _ o (λz=>(hf _ z).2.1 rfl) ho,r⟩
 .refine(I.ye b u e).BV (λc v hc q=>k c v (λz2=>?_) q) (λ_ q=>q) λ_ _ q=>q
  rcases hc with z|z
  .rw[<- z,(hf c z2).1]at e;cases e
  .rw[(hf c z2).1]at z;cases z
variable{xs:List V}
theorem Inv.MN(I:Inv X pins σ H s)(hf:zN X pins H a)(new:yk X.prog X.w (upd H a (.lst xs)) s.heap a (.lst xs)):Inv X pins σ (upd H a (.lst xs)) s:=by
 have hn:=hf.1
 have un:∀{b:Addr} {o:HO},H b=some o->upd H a (.lst xs) b=some o:=λ{b o} e=>by rw[af (av e hn)];exact e
 refine I.step (h':=s.heap) (g':=s.gens) (d':=s.drawn) (t':=s.toks) (ch:=[a]) (λb hb=>?_) (λb o _ _ _ e _=>e) (λb o _ _ _ e _=>⟨o.slots,e⟩) (λb o hc _ n=>?_)
  (λb o _ e=>⟨o,e⟩) (λ_ _ e=>un e) (λ_ _ _ e=>un e) (λb ps e=>⟨#[],by rw[un e];simp⟩) (λm hm=>hm) (λb u e=>?_) I.bare
 .obtain⟨f0,f1,f2,f3,f4,f5⟩:=hf
  rw[List.mem_singleton.mp hb]
  exact⟨f3,f1,f4,f5⟩
 .rw[af (λz=>hc (by simp[z]))];exact n
 .by_cases hb:b=a
  .subst hb;rw[ai]at e;cases e;exact new
  .rw[af hb]at e
   exact(I.ye b u e).BV (λc v _ q=>q) (λc q=>un q) λc xs q=>un q
variable{k:Nat}{f:Addr}{fd:abz}{ps:List Str}{sp:Sp}
variable{Q:VK}{us:List Value}
theorem wf{vs:List V}(F:yd X.prog X.w X.K X.mg X.base yQ k f fd ps sp)(hr:yj k A)(hb:Binds X.K fd ps [])
  (I:Inv X pins σ H s) (e0:DQ X.prog X.w X.K X.mg X.base A X.stack s H) (r:tO vs us) (h:sp vs H Q E0):wpAny (model X.prog X.w) A (call (.ref f) us) (EP X pins σ Q) (λ_ _=>False) s:=by
 have hl:(us++[]).length=ps.length:=by rw[abb,<- r.length];exact F.len _ _ _ _ h
 have b:=hb s us I.CI hl
 rw[abb]at b
 refine wpAny_call (aeF (F.run A X.stack s H ⟨us,[]⟩ us vs Q E0 hr e0 b r h) λr s' hq=>?_)
 cases r with
 |error e=>exact(show False from hq).elim
 |ok fl=>
  cases fl with
  |ret u=>exact I.after hq
  |next=>exact acf hq
  |brk=>exact acf hq
  |cont=>exact acf hq
def E4(X:Cx)(sp:Sp)(H:Hp)(x:V)(k:Int×Str):Prop:=∀H':Hp,dO H H'->sp [x] H' (λv H2=>dO H' H2/\∃p,v=.ref p/\zg X.K H2 p [.int k.1,.str k.2]) E0
structure Kq(b:Bool)(ks:List (Int×Str))(n:Nat)(ix:List Nat):Prop where
 len:ix.length=n
 nd:ix.Nodup
 lt:∀i∈ix,i<n
 up:ix.Pairwise λi j=>(if b then AE ks j i else AE ks i j)=true
variable{b:Bool}
theorem vh(F:yd X.prog X.w X.K X.mg X.base yQ k f fd ps sp)(hr:yj k X.A.in1.in1)(hb:Binds X.K fd ps [])
  (I:Inv X pins σ H s) (PH:∀c∈[a,kS],zN X pins H c) (hk:s.heap.get? kS=some (seqObj "list" #[] 0)) (ha:s.heap.get? a=some (seqObj "list" #[] e1)) (hne:kS≠a) (rv:tO xs vs) (l2:ks.length=xs.length) (zO:xs.length<64) (nd:(ks.map (·.2)).Nodup)
  (turn:∀i,i<xs.length->E4 X sp H (xs.getD i .lT) (ks.getD i k0))
  (h:∀(s':Shared) (H':Hp) (ix:List Nat),Inv X pins σ (upd H' a (.lst (ix.map λi=>xs.getD i .lT))) s'->dO H H'->H' a=none->Kq b ks xs.length ix->P (.done (.ret .none)) s') :
  wpAny (model X.prog X.w) X.A.in1.in1 (ksk_rest a (.ref f) b vs.toArray e1 (.ref kS)) P E s:=by
 have lv:vs.length=xs.length:=rv.length.symm
 unfold ksk_rest
 refine aab (acD ?_)
 rw[List.forIn_toArray]
 refine aab (ksk_fold (λi z=>∃Hi e ad,Inv X pins σ Hi z/\dO H Hi/\(∀c∈[a,kS],zN X pins Hi c)/\z.heap.get? a=some (seqObj "list" #[] e1)/\z.heap.get? kS=some (seqObj "list" (ad.map aas).toArray e)/\ad.length=i/\∀j,j<i->zg X.K Hi (ad.getD j 0) [.int (ks.getD j k0).1,.str (ks.getD j k0).2]) vs 0 s
  ⟨H,0,[],I,Q.am,PH,ha,hk,rfl,λj hj=>absurd hj (Nat.not_lt_zero _)⟩ ?_ ?_)
 .rintro j x z hx ⟨Hi,e,ad,I1,sH,K8,C2,KR,la,hs⟩
  rw[aaY]at la hs ⊢
  have hj:j<vs.length:=(List.getElem?_eq_some_iff.mp hx).1
  have Pz:j<xs.length:=by omega
  obtain⟨u,hu,ru⟩:=rv.get (i:=j) (show xs[j]?=some (xs.getD j .lT)by rw[aaa Pz,aac,aaa Pz];rfl)
  rw[hx]at hu
  cases hu
  have Ip:=I1.pinned K8 λc hc=>by
   rcases List.mem_cons.mp hc with rfl|hc
   .exact⟨_,C2,λv z=>by cases z⟩
   .rw[List.mem_singleton.mp hc]
    exact⟨_,KR,λv z=>by cases z⟩
  refine aab (aei (aaM (wf F hr hb Ip Ip.MP.in1.in1 (.cons ru .nil) (turn j Pz Hi sH)) (λv z2 hz=>?_) λ_ _ q=>q.elim))
  obtain⟨v',H2,I2,r2,s2,p,rfl,hp⟩:=hz
  cases r2
  dsimp only
  have pa:=I2.pin (a,_) (aat _ (aat _ (bn (by simp) C2)))
  have pk:=I2.pin (kS,_) (aat _ (aat _ (bn (by simp) KR)))
  have I3:=I2.zQ
  have RA:∀c∈[a,kS],zN X pins H2 c:=λc hc=>by
   obtain⟨_,q⟩:=K8 c hc
   rcases List.mem_cons.mp hc with rfl|hc
   .exact⟨pa.2.1,q⟩
   .rw[List.mem_singleton.mp hc]at q ⊢
    exact⟨pk.2.1,q⟩
  have gk:=pk.1
  have s1:=aaX z2.heap kS (aa1 (·.push (.ref p)))
  refine aab (ab5 gk rfl ?_ (by rw[aaf,aae,aax];omega) (aaZ (adR (Array.size_push ..)) (by rw[aaf,aae,aax];omega)))
  have ej:((ad.map aas).toArray.push (.ref p))=((ad++[p]).map aas).toArray:=by
   apply Array.toList_inj.mp
   rw[Array.toList_push]
   show ad.map aas++[.ref p]=(ad++[p]).map aas
   rw[aaW];rfl
  obtain⟨c2,GJ⟩:∃c2,(z2.heap.update kS (aa1 (·.push (.ref p)))).get? kS=some (seqObj "list" ((ad.map aas).toArray.push (.ref p)) c2):=⟨_,abF gk (·.push (.ref p))⟩
  rw[ej]at GJ
  refine aaj ⟨rfl,H2,c2,ad++[p],I3.El (t':=z2.toks) RA λb o hb g=>(s1.2 b λz=>hb (by simp[z])).trans g,Q.ah sH s2,RA,(s1.2 a hne.symm).trans pa.1,GJ,by simp[la],λi hi=>?_⟩
  by_cases ei:i=j
  .subst ei
   rw[aac,ab3 (by omega),la,Nat.sub_self]
   exact hp
  .have Cc:i<ad.length:=by omega
   rw[aac,aav Cc,<- aac]
   exact Q.aw s2 (hs i (by omega))
 .rintro z ⟨Hi,e,ad,I1,sH,K8,C2,KR,la,hs⟩
  rw[aaY]at la hs
  refine aab (adO KR rfl ?_)
  have pr:∀i,i<vs.length->yC z.heap (ad.getD i 0) (ks.getD i (0,⟨#[]⟩)):=λi hi=>by
   obtain⟨zm,FA,Lh,_⟩:=I1.tuple (hs i hi)
   exact j6 FA Lh
  have fin:∀(h':Heap) (c:Nat) (ix:List Nat),ix.length=vs.length->ix.Nodup->(∀i∈ix,i<vs.length)->ix.Pairwise (λi j=>(if b then AE ks j i else AE ks i j)=true)->h'.get? a=some (seqObj "list" (ix.map λi=>vs.getD i aaO).toArray c)->(∀b o,b≠a->b≠kS->z.heap.get? b=some o->h'.get? b=some o)->P (.done (.ret .none)) {z with heap:=h'}:=λh' c ix i1 i2 i3 i4 i5 i6=>by
   have I2:Inv X pins σ Hi {z with heap:=h'}:=I1.El (t':=z.toks) K8 λb o hb g=>i6 b o (λq=>hb (by simp[q])) (λq=>hb (by simp[q])) g
   have pick:=rv.pick ix λy hy=>by have:=i3 y hy;omega
   refine h _ Hi ix (I2.MN (K8 a (by simp)) ⟨by rw[aae,i1,aax];omega,_,c,pick,i5⟩) sH (K8 a (by simp)).1 ⟨by omega,i2,λi hi=>by have:=i3 i hi;omega,i4⟩
  cases b with
  |false=>exact qU (s:=z) KR C2 hne la (by omega) (by omega) nd pr λh' c ix i1 i2 i3 i4 i5 i6=>fin h' c ix i1 i2 i3 i4 i5 i6
  |true=>exact vd (s:=z) KR C2 hne la (by omega) (by omega) nd pr λh' c ix i1 i2 i3 i4 i5 i6=>fin h' c ix i1 i2 i3 i4 i5 i6
variable{n:Nat}
theorem vg(F:yd X.prog X.w X.K X.mg X.base yQ k f fd ps sp)(hr:yj k X.A.in1.in1)(hb:Binds X.K fd ps [])
  (I:Inv X pins σ H s) (NO:zN X pins H a) (ha:s.heap.get? a=some (seqObj "list" vs.toArray n)) (rv:tO xs vs) (l2:ks.length=xs.length) (zO:xs.length<64) (nd:(ks.map (·.2)).Nodup)
  (turn:∀i,i<xs.length->E4 X sp H (xs.getD i .lT) (ks.getD i k0))
  (h:∀(s':Shared) (H':Hp) (ix:List Nat),Inv X pins σ (upd H' a (.lst (ix.map λi=>xs.getD i .lT))) s'->dO H H'->H' a=none->Kq b ks xs.length ix->P (.done (.ret .none)) s') :
  wpAny (model X.prog X.w) X.A.in1.in1 (ksk_tree a (.ref f) b) P E s:=by
 have lv:vs.length=xs.length:=rv.length.symm
 have Rr:a<s.heap.objs.size:=aak ha
 have s1:=aaX s.heap a (aa1 λ_=>(#[]:Array Value))
 have C2:=abF ha λ_=>(#[]:Array Value)
 unfold ksk_tree
 refine aab (adO ha rfl ?_)
 refine aab (ab5 ha rfl ?_ (by rw[aaf,aax];omega) (aaU _))
 refine aab (ady C2 rfl ?_)
 refine aab (ad5 ?_ (by show vs.length<=_;rw[aax];omega))
 refine aab (ach ?_ (aaU _))
 refine aaT ?_
 generalize hH:((s.heap.update a (aa1 λ_=>(#[]:Array Value))).push (seqObj "tuple" vs.toArray 0))=H1
 have kz:H1.objs.size=s.heap.objs.size+1:=by rw[<- hH,size_push',Heap.size_update]
 have old:∀b o,b∉[a]->s.heap.get? b=some o->(H1.push (seqObj "list" #[] 0)).get? b=some o:=λb o hb g=>by
  rw[<- hH]
  exact aad _ (aad _ ((s1.2 b λz=>hb (by simp[z])).trans g))
 have I1:Inv X pins σ H {s with heap:=H1.push (seqObj "list" #[] 0)}:=I.El (t':=s.toks) (fp:=[a]) (λc hc=>by rw[List.mem_singleton.mp hc];exact NO) old
 have nk:H H1.objs.size=none:=I.ye.fresh (by rw[kz];omega)
 refine vh (kS:=H1.objs.size) F hr hb I1 (λc hc=>?_) (aal _ rfl) ?_ (abQ (aaA Rr (by rw[kz];exact ae5 _))) rv l2 zO nd turn h
 .rcases List.mem_cons.mp hc with rfl|hc
  .exact NO
  .rw[List.mem_singleton.mp hc]
   exact I.DC (by rw[kz];omega) nk
 .rw[<- hH]
  exact aad _ (aad _ C2)
variable{l:Addr}
theorem lb{kw:List (Str×Value)}(F:yd X.prog X.w X.K X.mg X.base yQ k f fd ps sp)(hr:yj k X.A.in1.in1)(hb:Binds X.K fd ps [])
  (Py:(kw=[(aaF "key",.ref f)]/\b=false)\/kw=[(aaF "key",.ref f),(aaF "reverse",.bool b)])
  (I:Inv X pins σ H s) (hl:zp X.K H l xs) (l2:ks.length=xs.length) (zO:xs.length<64) (nd:(ks.map (·.2)).Nodup)
  (turn:∀i,i<xs.length->E4 X sp H (xs.getD i .lT) (ks.getD i k0))
  (h:∀D ix H',dO H H'->H' D=none->Kq b ks xs.length ix->Q (.ref D) (upd H' D (.lst (ix.map λi=>xs.getD i .lT)))) :
  wpAny (model X.prog X.w) X.A (call (.builtin "sorted") [.ref l] kw) (EP X pins σ Q) E s:=by
 obtain⟨gE,rv,pl,hz⟩:=I.list hl
 obtain⟨o,g1,g2,n0,g3⟩:=pl.isList
 have lv:gE.length=xs.length:=rv.length.symm
 have args:argsOk "sorted" ⟨[.ref l],kw⟩:=by
  rcases Py with ⟨rfl,_⟩|rfl
  .exact ksk_s1 _ _
  .exact ksk_s2 _ _ _
 refine call_function_entry_kw aeX aeD aeE args ?_
 unfold ac6.«sorted»
 refine aab (m:=checkCount "sorted" 1 1 _) (aaj ?_)
 refine aab (wpAny_collect_seq l (.inl rfl) g1 g2 g3 (λh1 kk=>?_) (by rw[aaf,aax];omega))
 refine aab (ach ?_ (by show gE.length<=_;rw[aax];omega))
 have DX:(h1.push (seqObj "list" gE.toArray 0)).get? h1.objs.size=some (seqObj "list" gE.toArray 0):=aal _ rfl
 have old:∀b o,s.heap.get? b=some o->(h1.push (seqObj "list" gE.toArray 0)).get? b=some o:=λb o g=>aad _ (kk b o g)
 have I0:Inv X pins σ H {s with heap:=h1}:=I.kept (t':=s.toks) kk
 have I1:Inv X pins σ H {s with heap:=h1.push (seqObj "list" gE.toArray 0)}:=I.kept (t':=s.toks) old
 have na:H h1.objs.size=none:=I0.ye.fresh (aam _)
 have Qu:argsOk "list.sort" ⟨[.ref h1.objs.size],kw⟩:=by
  rcases Py with ⟨rfl,_⟩|rfl
  .exact ksk_l1 _ _
  .exact ksk_l2 _ _ _
 refine aab (aaT (wpAny_call_entry_kw adb ⟨_,DX,rfl⟩ acZ ?_ Qu))
 show wpAny (model X.prog X.w) X.A.in1.in1 (ac6.«list.sort» ⟨[.ref h1.objs.size],kw⟩) _ _ _
 have et:ac6.«list.sort» ⟨[.ref h1.objs.size],kw⟩=ksk_tree h1.objs.size (.ref f) b:=by
  rcases Py with ⟨rfl,rfl⟩|rfl
  .exact ksk_t1 _ _
  .exact ksk_t2 _ _ _
 rw[et]
 refine vg F hr hb I1 (I0.DC (aam _) na) DX rv l2 zO nd turn λs' H' ix I' sH nD ok=>⟨_,rfl,?_⟩
 exact aaj ⟨_,rfl,.ref h1.objs.size,_,I',rfl,h _ ix H' sH nD ok⟩
def D8(X:Cx)(sp:Sp)(b:Bool)(Q:VK):VK:=λv H1=>∃(l:Addr) (xs:List V) (ks:List (Int×Str)),v=.ref l/\zp X.K H1 l xs/\ks.length=xs.length/\xs.length<64/\(ks.map (·.2)).Nodup /\
 (∀i,i<xs.length->E4 X sp H1 (xs.getD i .lT) (ks.getD i k0))/\∀D ix H',dO H1 H'->H' D=none->Kq b ks xs.length ix->Q (.ref D) (upd H' D (.lst (ix.map λi=>xs.getD i .lT)))
def D4(X:Cx)(sp:Sp)(b:Bool)(te:TE):TE:=λσ H Q=>te σ H (D8 X sp b Q)
variable{e:Expr}{te:TE}{x:Str}{p p1 p2 pos Ar BC:Pos}{kd:_}
theorem su(F:yd X.prog X.w X.K X.mg X.base yQ k f fd ps sp)(hr:yj (k+2) X.A)(hb:Binds X.K fd ps [])(hg:Gl X "sorted")(hm:X.mg "sorted" = none)(JT:Gl X x)(JM:X.mg x=some (.ref f))(JV:(x==("__debug__" : Str))=false)(he:PE X e te)
  (hs:aai [e] X.env=(false,eval e X.env)::aai [] X.env:=by rfl)
  (h1:backTo pos (aai [e] X.env)=(false,eval e X.env)::backTo pos (aai [] X.env):=by rfl) (h2:(backTo pos (aai [e] X.env)).any (·.1)=false:=by rfl) :
  PE X (.Call (.Name "sorted" p) [e] [⟨some "key",.Name x p1,Ar⟩] pos) (D4 X sp false te):=by
 intro pins s σ H Q I h
 refine ab4 (cb I hg hm aed ?_)
 refine aeZ (yM ((aM he aW hs) pos pins s σ H (λvs H1=>match vs with|[v]=>D8 X sp false Q v H1|_=>False) I h) λus s1 ⟨vs,H1,I1,r1,q1⟩=>?_) h1 h2
 dsimp only at q1
 split at q1
 case h_2=>exact q1.elim
 obtain⟨l,xs,ks,rfl,hl,l2,zO,nd,turn,hQ⟩:=q1
 obtain⟨u,rfl,ru⟩:=r1.one
 cases ru
 refine yM ((cT (n4 (v:=.ref f) JT JM rfl JV) jm) pos pins s1 σ H1 (λvs H2=>vs=[.ref f]/\H2=H1) I1 ⟨rfl,rfl⟩) λws s2 ⟨zs,H2,I2,rz,e1,e2⟩=>?_
 subst e1 e2
 obtain⟨u,rfl,ru⟩:=rz.one
 cases ru
 show wpAny _ _ (call (.builtin "sorted") [.ref l] [(aaF "key",.ref f)]) _ _ _
 exact lb F hr.in1.in1 hb (.inl ⟨rfl,rfl⟩) I2 hl l2 zO nd turn hQ
theorem qw(F:yd X.prog X.w X.K X.mg X.base yQ k f fd ps sp)(hr:yj (k+2) X.A)(hb:Binds X.K fd ps [])(hg:Gl X "sorted")(hm:X.mg "sorted" = none)(JT:Gl X x)(JM:X.mg x=some (.ref f))(JV:(x==("__debug__" : Str))=false)(he:PE X e te)
  (hs:aai [e] X.env=(false,eval e X.env)::aai [] X.env:=by rfl)
  (h1:backTo pos (aai [e] X.env)=(false,eval e X.env)::backTo pos (aai [] X.env):=by rfl) (h2:(backTo pos (aai [e] X.env)).any (·.1)=false:=by rfl) :
  PE X (.Call (.Name "sorted" p) [e] [⟨some "key",.Name x p1,Ar⟩,⟨some "reverse",.Constant (.bool true) kd p2,BC⟩] pos) (D4 X sp true te):=by
 intro pins s σ H Q I h
 refine ab4 (cb I hg hm aed ?_)
 refine aeZ (yM ((aM he aW hs) pos pins s σ H (λvs H1=>match vs with|[v]=>D8 X sp true Q v H1|_=>False) I h) λus s1 ⟨vs,H1,I1,r1,q1⟩=>?_) h1 h2
 dsimp only at q1
 split at q1
 case h_2=>exact q1.elim
 obtain⟨l,xs,ks,rfl,hl,l2,zO,nd,turn,hQ⟩:=q1
 obtain⟨u,rfl,ru⟩:=r1.one
 cases ru
 refine yM ((cT (n4 (v:=.ref f) JT JM rfl JV) (cT (tZ (b:=true)) jm)) pos pins s1 σ H1 (λvs H2=>vs=[.ref f,.bl true]/\H2=H1) I1 ⟨rfl,rfl⟩) λws s2 ⟨zs,H2,I2,rz,e1,e2⟩=>?_
 subst e1 e2
 obtain⟨u,u2,rfl,ru,OG⟩:=rz.two
 cases ru
 cases OG
 show wpAny _ _ (call (.builtin "sorted") [.ref l] [(aaF "key",.ref f),(aaF "reverse",.bool true)]) _ _ _
 exact lb F hr.in1.in1 hb (.inr rfl) I2 hl l2 zO nd turn hQ
end L2
namespace Q
open PySem L2 PyProof.Rows
def AW(b:Bool)(D:Fd)(f:WE):WE:=λenv P=>f env λx e=>match x with
 |.lst ys=>∃ks:List (Int×Str),ks.length=ys.length/\ys.length<64/\(ks.map (·.2)).Nodup/\(∀i,i<ys.length->D [ys.getD i .lT] λr=>r=.tup [.int (ks.getD i k0).1,.str (ks.getD i k0).2])/\∀ix,Kq b ks ys.length ix->P (.lst (ix.map λi=>ys.getD i .lT)) e
 |_=>False
variable{ob:zl}{X:Cx}{k:Nat}{fa:Addr}{fd:abz}{ps:List Str}{D:Fd}{e:Expr}{f:WE}{x:Str}{p p1 p2 pos Ar BC:Pos}{kd:_}
variable{b:Bool}
theorem jf{te:TE}(Hz:∀(Z:Zn) (F:Hp) (σ:L2.St) (H:Hp) (env:En) (P:PV->En->Prop) (Q:VK),x3 (md ob X) Z F σ H env->f env P->(∀x eQ v F' H',P x eQ->dO F F'->x3 (md ob X) Z F' σ H' eQ->Rep X.K F' v x->Q v H')->te σ H Q)
  (Z:Zn) (F:Hp) (σ:L2.St) (H:Hp) (env:En) (Pp:PV->En->Prop) (Q:VK) (K:x3 (md ob X) Z F σ H env) (hf:AW b D f env Pp)
  (kk:∀(x:PV) (e':En) (v:V) (F' H':Hp),Pp x e'->dO F F'->(∀xs,x≠.set xs)->x3 (md ob X) Z F' (σ++[some v]) H' (e'++[some ⟨1,x⟩])->Q v H'):D4 X (CU (md ob X) 1 D) b te σ H Q:=by
 refine Hz Z F σ H env _ _ K hf λy e1 v F1 H1 p s1 K1 r1=>?_
 split at p
 case h_2=>exact p.elim
 rename_i ys
 obtain⟨ks,l2,zO,nd,hD,p⟩:=p
 obtain⟨q,vs,rfl,h1,h2⟩:=(r1.vw (M:=md ob X) (H:=H1)).lst K1.sF
 have lv:=h2.len
 refine⟨q,vs,ks,rfl,.inl (.inl h1),by omega,by omega,nd,λi hi=>?_,λD' ix H' sH hn ok=>?_⟩
 .intro H' sH
  rw[lv]at hi
  obtain⟨v,hv,rv⟩:=h2.get (i:=i) (show ys[i]?=some (ys.getD i .lT)by rw[aaa hi,aac,aaa hi];rfl)
  have ev:vs.getD i .lT=v:=by rw[aac,hv];rfl
  rw[ev]
  refine⟨F1,[ys.getD i .lT],_,ah K1.sF sH,.cons rv .nil,rfl,hD i hi,λr v' F' H2 hr s2 s3 s4 _ rep=>⟨s2,?_⟩⟩
  subst hr
  cases rep with
  |tup g1 g2=>
   cases g2 with
   |cons g2 g3=>cases g3 with
    |cons g3 g4=>
     cases g4;cases g2;cases g3
     exact⟨_,rfl,aw s4 g1⟩
 .have K2:=K1.move am (ah K1.sF sH) sH λ_ h=>.inl h
  exact kk _ e1 _ F1 _ (p ix (lv ▸ ok)) s1 (λ_=>by simp) (K2.own hn ⟨_,ai,f8 h2 ix λi hi=>lv ▸ ok.lt i hi⟩)
theorem tH(F:yd X.prog X.w X.K X.mg X.base yQ k fa fd ps (CU (md ob X) 1 D))(hr:yj (k+2) X.A)(JM:X.mg x=some (.ref fa))(hb:Binds X.K fd ps [])(hm:X.mg "sorted" = none)(ha:yA ob X e f)(hg:Gl X "sorted" :=by rfl)(JT:Gl X x:=by rfl)(JV:(x==("__debug__" : Str))=false:=by decide)
  (hs:aai [e] X.env=(false,eval e X.env)::aai [] X.env:=by rfl)
  (h1:backTo pos (aai [e] X.env)=(false,eval e X.env)::backTo pos (aai [] X.env):=by rfl) (h2:(backTo pos (aai [e] X.env)).any (·.1)=false:=by rfl) :
  E5 ob X (.Call (.Name "sorted" p) [e] [⟨some "key",.Name x p1,Ar⟩] pos) (AW false D f):=by
 obtain⟨te,JF,Hz⟩:=ha.ex
 exact⟨_,su F hr hb hg hm JT JM JV JF hs h1 h2,jf Hz⟩
theorem rF(F:yd X.prog X.w X.K X.mg X.base yQ k fa fd ps (CU (md ob X) 1 D))(hr:yj (k+2) X.A)(JM:X.mg x=some (.ref fa))(hb:Binds X.K fd ps [])(hm:X.mg "sorted" = none)(ha:yA ob X e f)(hg:Gl X "sorted" :=by rfl)(JT:Gl X x:=by rfl)(JV:(x==("__debug__" : Str))=false:=by decide)
  (hs:aai [e] X.env=(false,eval e X.env)::aai [] X.env:=by rfl)
  (h1:backTo pos (aai [e] X.env)=(false,eval e X.env)::backTo pos (aai [] X.env):=by rfl) (h2:(backTo pos (aai [e] X.env)).any (·.1)=false:=by rfl) :
  E5 ob X (.Call (.Name "sorted" p) [e] [⟨some "key",.Name x p1,Ar⟩,⟨some "reverse",.Constant (.bool true) kd p2,BC⟩] pos) (AW true D f):=by
 obtain⟨te,JF,Hz⟩:=ha.ex
 exact⟨_,qw F hr hb hg hm JT JM JV JF hs h1 h2,jf Hz⟩
end Q
namespace Q
open PySem L2
def Flt:PV->Prop
 |.lT=>True
 |.bl _=>True
 |.int _=>True
 |.str _=>True
 |.yw kvs=>∀p∈kvs,∃s,p.2=.str s
 |_=>False
def Ew(D:Fd)(i:Nat)(f:WE):WE:=λenv P=>f env λx e=>match e[i]? with
 |some (some ⟨1,.lst ys⟩)=>D [x,.lst ys] λr=>Flt r/\P r e
 |_=>False
variable{K:aag}{F F':Hp}{vs:List (Key×V)}{xs:List (Key×PV)}
theorem qo(h:nE K F vs xs)(hs:∀p∈xs,∃s,p.2=PV.str s):nE K F' vs xs:=by
 induction h using nE.ind with
 |nil=>exact .nil
 |@cons k v x vs xs a r ih=>
  obtain⟨s,e⟩:=hs _ aay
  have e:x=.str s:=e
  subst e
  cases a
  exact .cons (.str s) (ih λp hp=>hs p (aar _ hp))
variable{v:V}
theorem tE{r:PV}(hf:Flt r)(k:∀b vs,F b=some (.dK vs)->F' b=some (.dK vs))(h:Rep K F v r):Rep K F' v r:=by
 cases h with
 |lT=>exact .lT
 |bl b=>exact .bl b
 |int i=>exact .int i
 |str x=>exact .str x
 |tup _ _=>exact hf.elim
 |lst _ _=>exact hf.elim
 |yw h1 h2=>exact .yw (k _ _ h1) (qo h2 hf)
 |Ap _=>exact hf.elim
variable{ob:zl}{X:Cx}{k:Nat}{Ad:Addr}{fd:abz}{ps:List Str}{D:Fd}{x y:Str}{p p1 pos:Pos}{e:Expr}{f:WE}
theorem tM(i:Nat)(G:yd X.prog X.w X.K X.mg X.base yQ k Ad fd ps (CU (md ob X) 2 D))(hr:yj k X.A)(hm:X.mg x=some (.ref Ad))(hk:abw X.K (.ref Ad)=true)(hb:Binds X.K fd ps [])(ha:yA ob X e f)(ho:PE X (.Name y p1) (yK i))(hg:Gl X x:=by rfl)
  (A9:(x==("__debug__" : Str))=false:=by decide) (he:aai [e,.Name y p1] X.env=(false,eval e X.env)::aai [.Name y p1] X.env:=by rfl) (PN:aai [.Name y p1] X.env=(false,eval (.Name y p1) X.env)::aai [] X.env:=by rfl) (Ag:(backTo pos (aai [.Name y p1] X.env)).any (·.1)=false:=by rfl) :
  yA ob X (.Call (.Name x p) [e,.Name y p1] [] pos) (Ew D i f):=by
 obtain⟨t,ht,kt⟩:=ha.ex
 refine⟨_,cU (E:=E0) G hr hg hm hk hb .nil CC (aM ht (aM ho aW PN) he) A9 he Ag,λZ F σ H env P Q K hf kk=>kt Z F σ H env _ _ K hf λx1 e1 v1 F1 H1 p s1 K1 r1=>?_⟩
 split at p
 case h_2=>exact p.elim
 rename_i ys ei
 obtain⟨fp,L⟩:=K1.sl
 obtain⟨v0,CJ,ok⟩:=L.at' i _ ei
 rcases ok with ⟨k0,_⟩|⟨_,a,rfl,PH,h0,ws,hw,BA⟩|⟨k0,_⟩|⟨k0,_⟩
 .cases k0
 .have al:=L.al i a (by rw[PH];simp)
  have sU:dO F1 (upd F1 a (.lst ws)):=ay al.2
  refine⟨_,CJ,?_⟩
  show CU (md ob X) 2 D ([v1,.ref a]++[]) H1 Q E0
  rw[abb]
  refine⟨upd F1 a (.lst ws),[x1,.lst ys],λr=>Flt r/\P r e1,λb o h=>?_,.cons (r1.mono sU) (.cons (.lst ai (BA.mono sU)) .nil),rfl,p,λr v F' H' pr sH sF Gc nw rv=>?_⟩
  .by_cases q:b=a
   .subst q;rw[ai]at h;cases h;exact hw
   .rw[af q]at h;exact K1.sF b o h
  .have fa:F' a=some (.lst ws):=sF a _ ai
   have s2:dO F1 (λb=>if b=a then none else F' b):=λb o h=>by
    have q:b≠a:=av h al.2
    show (if b=a then none else F' b)=_
    rw[if_neg q]
    exact sF b o (by rw[af q];exact h)
   refine kk r e1 v (λb=>if b=a then none else F' b) H' pr.2 (ah s1 s2) (K1.move s2 (λb o h=>?_) sH λb h=>?_) (tE pr.1 (λb vs h=>?_) rv)
   .by_cases q:b=a
    .have h:(if b=a then none else F' b)=some o:=h
     rw[if_pos q]at h;cases h
    .have h:(if b=a then none else F' b)=some o:=h
     rw[if_neg q]at h
     exact Gc b o h
   .by_cases q:b=a
    .exact absurd (if_pos q) h
    .have h:(if b=a then none else F' b)≠none:=h
     rw[if_neg q]at h
     have:=nw b h
     rw[af q]at this
     exact this
   .have q:b≠a:=λq=>by rw[q,fa]at h;cases h
    show (if b=a then none else F' b)=_
    rw[if_neg q]
    exact h
 .rcases k0 with k0|k0<;>cases k0
 .cases k0
def J0:PV->PV->Option PV
 |.str s,.str t=>some (.bl (decide (yL t s)))
 |_,_=>none
theorem qI:zf X (aa9 .Gt) (λx y H Q=>∃i j,x=.str i/\y=.str j/\Q (.bl (decide (j.cps.toList<i.cps.toList))) H):=by
 intro pins s σ H x y v u Q I rx ry h
 obtain⟨i,j,rfl,rfl,q⟩:=h
 obtain⟨t,rfl⟩:=rx
 obtain⟨t',rfl⟩:=ry
 exact PySem.P.gt_str ⟨.bl _,H,I,rfl,q⟩
theorem uL:Cz ob X (λx y H Q=>∃i j,x=.str i/\y=.str j/\Q (.bl (decide (j.cps.toList<i.cps.toList))) H) J0:=by
 refine bw (P:=λ_ _ _ _=>True) λF H v u x y z sF rx ry hz=>?_
 unfold J0 at hz
 split at hz
 .cases hz
  rw[rx.str,ry.str]
  exact⟨_,λ_=>.bl _,λQ q=>⟨_,_,rfl,rfl,q⟩⟩
 .cases hz
end Q
namespace Pre
open PySem L2
def top(i:Nat):Stmt:=PySem.Challenge.pw_cheaptree_k42_margins_of_other_ties.main.body.getD i (.Pass ⟨0,0,0,0⟩)
abbrev jU:Stmt:=top 1
abbrev dQ:Stmt:=top 2
abbrev fX:Stmt:=top 3
abbrev Ec:Stmt:=top 4
abbrev ib:Stmt:=top 5
abbrev fu:Stmt:=top 6
abbrev F9:Stmt:=top 7
abbrev cI:Stmt:=top 9
abbrev cG:Stmt:=top 10
abbrev fY:Stmt:=top 11
abbrev dR:Stmt:=top 16
abbrev jX:Stmt:=top 17
abbrev lP:Stmt:=top 18
abbrev Gb:Stmt:=top 20
abbrev Jg:Stmt:=top 21
abbrev nN:Stmt:=top 23
abbrev cH:Stmt:=top 25
abbrev fJ:Stmt:=top 26
abbrev ck:Stmt:=top 27
abbrev jS:Stmt:=top 28
abbrev zH:Stmt:=top 30
abbrev EL:Stmt:=top 31
abbrev Eb:Stmt:=top 32
abbrev Ge:Stmt:=top 33
abbrev Gd:Stmt:=top 34
abbrev Jh:Stmt:=top 35
abbrev FX:Stmt:=top 36
abbrev Jj:Stmt:=top 37
abbrev Ga:Stmt:=top 38
abbrev jT:Stmt:=top 39
abbrev FW:Stmt:=top 40
abbrev Ed:Stmt:=top 41
abbrev nO:Stmt:=top 42
abbrev iH:Stmt:=top 43
abbrev iG:Stmt:=top 44
abbrev Ji:Stmt:=top 45
structure Named(K:aag)(mg:Str->Option Value)(x:Str)(f:Addr):Prop where
 mg:mg x=some (.ref f)
 kp:abw K (.ref f)=true
structure Df(K:aag)(mg:Str->Option Value)(name:Str)(st:Stmt)(ps:List Str) where
 f:Addr
 fd:abz
 F:EC K name name st f fd
 b:Binds K fd ps []
 n:Named K mg name f
abbrev O0:Nat:=15
abbrev O1:Nat:=26
abbrev Me:Nat:=21
abbrev Mf:Nat:=29
section
set_option genInjectivity false
set_option genSizeOf false
structure Ev(K:aag)(mg:Str->Option Value) where
 C5:Df K mg "is_open" jU ["net", "tie"]
 Av:Df K mg "ties_by_name" dQ ["net"]
 Bq:Df K mg "open_ties" fX ["net"]
 Eo:Df K mg "ranks" Ec ["net"]
 DD:Df K mg "cheapest_of" ib ["net", "names"]
 Ah:Df K mg "dearest_of" fu ["net", "names"]
 Kc:Df K mg "out_of" F9 ["net", "side"]
 zj:Df K mg "cheaper_first" cI ["net", "names"]
 zJ:Df K mg "without_round" cG ["net", "names"]
 Br:Df K mg "cheapest" fY ["net"]
 Aw:Df K mg "neighbours" dR ["net"]
 C7:Df K mg "came_by" jX ["beside", "start"]
 GP:Df K mg "reached" lP ["beside", "start"]
 GR:Df K mg "only" Gb ["net", "names"]
 Ka:Df K mg "way" Jg ["net", "forest", "one", "other"]
 HM:Df K mg "side_of" nN ["net", "tree", "tie"]
 zL:Df K mg "greatest_cost" cH ["net", "name", "other"]
 zK:Df K mg "margin_within" fJ ["net", "tree", "tie"]
 zy:Df K mg "margin_without" ck ["net", "tree", "tie"]
 C4:Df K mg "margin" jS ["net", "name"]
 AU:Df K mg "_law_begin" zH ["_law_script"]
 EZ:Df K mg "_law_next" EL ["_law_state", "_law_many"]
 Em:Df K mg "_law_words" Eb ["_law_state", "_law_many"]
 GU:Df K mg "_law_cost" Ge ["_law_state", "_law_sort"]
 GS:Df K mg "_law_ends" Gd ["_law_state", "_law_family", "_law_many", "_law_k"]
 Kd:Df K mg "_law_net" Jh ["_law_state", "_law_most", "_law_ties_most"]
 Ae:Df K mg "_law_same" FX ["_law_found", "_law_due"]
 Es:Df K mg "_law_key" Jj ["_law_tie"]
 Aj:Df K mg "_law_open" Ga ["_law_net_here"]
 Az:Df K mg "_law_labels" jT ["_law_places", "_law_ties"]
 GN:Df K mg "_law_tree" FW ["_law_net_here"]
 Ep:Df K mg "_law_limit" Ed ["_law_name", "_law_other"]
 C6:Df K mg "_law_coming" nO ["_law_net_here", "_law_kept", "_law_tie"]
 Cf:Df K mg "_law_leaving" iH ["_law_net_here", "_law_kept", "_law_tie"]
 Ce:Df K mg "_law_margin" iG ["_law_net_here", "_law_kept", "_law_tie"]
 Er:Df K mg "law" Ji ["_law_script"]
 yi:Addr
 Bb:∃c,Ah.fd.code=.ref c/\abf K c yi=true
 yb:Addr
 Ak:∃c,zj.fd.code=.ref c/\abf K c yb=true
 De:mg "ValueError" = none
 IE:mg "abs" = none
 ID:mg "all" = none
 Dd:mg "bool" = none
 GZ:mg "dict" = none
 GY:mg "int" = none
 yp:mg "isinstance" = none
 CL:mg "len" = none
 E2:mg "max" = none
 MW:mg "min" = none
 Bd:mg "range" = none
 ze:mg "sorted" = none
 GX:mg "str" = none
 zk:mg "tuple" = none
 IC:mg "zip" = none
end
variable{K:aag}{a:Addr}{H:Hp}
theorem u8{l:Addr}{xs:List V}{js:List (Option Nat)}{σ:St}{QQ:Hp->Prop}{g:TG}{tc:TT}{te:TE}(Pv:Nat->List V->Hp->Prop)(h0:Pv 0 [] H)(hl:∀i ys H,i<=xs.length->Pv i ys H->zp K H a xs)
  (hs:∀i x ys H (N:List V->Hp->Prop),xs[i]?=some x->Pv i ys H->(∀ys' H',Pv (i+1) ys' H'->N ys' H')->g x (yD js σ) H λσ4 H4=>tc σ4 H4 λb H5=>if b=true then te σ4 H5 λy H6=>H6 l=some (.lst ys)/\ys.length<sizeLine/\N (ys++[y]) (upd H6 l (.lst (ys++[y])))else N ys H5)
  (hd:∀ys H,Pv xs.length ys H->QQ H) :
  ∃W:Nat->Nat->List V->Hp->Prop,(∃m,W 0 m [] H)/\∀i m ys H2,W i m ys H2 ->
  ((Hl K a).stop i H2/\QQ H2)\/((Hl K a).go i H2/\∀x H3,(Hl K a).yld i H2 x H3->g x (yD js σ) H3 λσ4 H4=>tc σ4 H4 λb H5=>
   if b=true then te σ4 H5 λy H6=>H6 l=some (.lst ys)/\ys.length<sizeLine/\∃m',m'<m/\W (i+1) m' (ys++[y]) (upd H6 l (.lst (ys++[y])))else ∃m',m'<m/\W (i+1) m' ys H5):=by
 refine⟨λi m ys H=>m=xs.length - i/\i<=xs.length/\Pv i ys H,⟨xs.length,by simp,aaU _,h0⟩,?_⟩
 rintro i m ys H2 ⟨rfl,hi,p⟩
 have q:=hl i ys H2 hi p
 by_cases y6:i<xs.length
 .refine .inr ⟨⟨xs,xs[i],q,by simp[y6]⟩,λx H3 y=>?_⟩
  obtain⟨e,y⟩:=y
  subst e
  exact hs i x ys _ (λys' H'=>∃m',m'<xs.length - i/\m'=xs.length - (i+1)/\i+1<=xs.length/\Pv (i+1) ys' H') (y xs q) p λys' H' h=>⟨_,by omega,rfl,y6,h⟩
 .have e:i=xs.length:=by omega
  subst e
  exact .inl ⟨⟨xs,q,aam _⟩,hd ys _ p⟩
theorem uU:(["_law_cell"]:List Str).Nodup:=by decide +kernel
variable{P:aaE}{w:World}{mg:Str->Option Value}{base:Heap}
theorem sq{xs:List V}(h:H a=some (.lst xs)):zp K H a xs:=.inl (.inl h)
theorem FV:az ["_law_state", "_law_many", "_law_digit"] ["_law_state", "_law_many"] (aq EL):=⟨rfl,rfl,rfl,by decide +kernel,rfl,by decide +kernel,by decide +kernel⟩
variable{fd:abz}
theorem uS{f:Addr}(F:EC K "_law_next" "_law_next" EL f fd):yd P w K mg base yQ 1 f fd ["_law_state", "_law_many"] FT:=by
 refine F.ok FV (λvs H Q E h=>?_) (λyx A outer s H vs Q E hr h=>?_)
 .obtain⟨a,b,m,rfl,_⟩:=h
  rfl
 .obtain⟨a,b,m,rfl,S,m0,m1,k⟩:=h
  have hu:=hr.IQ
  refine⟨_,bA (lV aba (PW.pt (pw_and (ed (iQ hu) (bv yH (pv 0) aC (λ_ _=>rfl)) (gc aW) (Bk _)) (pw_and1 (ed xQ (bv yH (bv yH (pv 0) aC (λ_ _=>rfl)) aC (λ_ _=>rfl)) aC (Bk _)))))
    (cS (jZ (ph acH PySem.F.slot_list_pop PySem.F.type_list_pop sO (bv yH (pv 0) aC (λ_ _=>rfl)) (aM aC aW)))))
   (bA (tW (ed (iQ hu) (bv yH (pv 0) aC (λ_ _=>rfl)) (gc aW) (Bk _))
    (bA (ee (i:=2) FV.nd rfl (Or.inl rfl) (bh dn (bv yH (bv yH (pv 0) aC (λ_ _=>rfl)) aC (λ_ _=>rfl)) (pv 1)))
    (bA (jl (bh j9 (bv yH (bv yH (pv 0) aC (λ_ _=>rfl)) aC (λ_ _=>rfl)) (pv 1)) (lY (bv yH (pv 0) aC (λ_ _=>rfl)) aC iC))
    (cS (eh (pv 2)))))
    nV)
   (bA (jl (bh dn (bh gg (bh jn (bv yH (pv 0) aC (λ_ _=>rfl)) aC) aC) aC) (lY (pv 0) aC iC))
   (cS (eh (bh dn (bh j9 (bh dn (bh jn (bv yH (pv 0) aC (λ_ _=>rfl)) (bv yH (pv 0) aC (λ_ _=>rfl))) aC) aC) (pv 1)))))),?_⟩
  refine⟨λn σ' H'=>σ'=[some (.ref a),some (.int m),none]/\DT a b H H'/\∃(ns:List Int) (z:Int),H' a=some (.lst [.ref b,.int z])/\H' b=some (.lst (ns.map V.int))/\(∀n∈ns,0<=n)/\0<=z/\z<2305843009213693951/\ns.length=n,?_,?_⟩
  .obtain⟨ns,z,h1,h2,h3,h4,h5⟩:=S.st
   exact⟨_,rfl,DT.refl a b H,ns,z,h1,h2,h3,h4,h5,rfl⟩
  rintro n σ' H' ⟨rfl,hB,ns,z,ha,hb,hn,z0,z1,hl⟩
  have S':Dg H' a b:=⟨ns,z,ha,hb,hn,z0,z1⟩
  have behind:∀(H1:Hp),DT a b H H1->Dg H1 a b->FQ (Lo (FP (BI (CV K) (BI (BZ K) (yK 0) (tC (.int 0))) (IY FR))) (FQ (D6 (BI (rI (λ_ j=>0<j) λi j=>.int (i % j)) (BI (BZ K) (BI (BZ K) (yK 0) (tC (.int 0))) (tC (.int 0))) (yK 1)) (zD 2))
    (FQ (D6 (BI (rI Kv λi j=>.int (i / j)) (BI (BZ K) (BI (BZ K) (yK 0) (tC (.int 0))) (tC (.int 0))) (yK 1)) (J2 (BI (BZ K) (yK 0) (tC (.int 0))) (tC (.int 0)) EN)) (IX (yK 2)))) Ic)
    (FQ (D6 (BI (rI (λ_ j=>0<j) λi j=>.int (i % j)) (BI (FD λi j=>.int (i+j)) (BI (rI Fw λi j=>.int (i*j)) (BI (BZ K) (yK 0) (tC (.int 1))) (tC (.int 6364136223846793))) (tC (.int 1442695040888963))) (tC (.int 2305843009213693951))) (J2 (yK 0) (tC (.int 1)) EN))
     (IX (BI (rI (λ_ j=>0<j) λi j=>.int (i % j)) (BI (rI Kv λi j=>.int (i / j)) (BI (rI (λ_ j=>0<j) λi j=>.int (i % j)) (BI (rI Fw λi j=>.int (i*j)) (BI (BZ K) (yK 0) (tC (.int 1))) (BI (BZ K) (yK 0) (tC (.int 1)))) (tC (.int 2305843009213693921))) (tC (.int 65537))) (yK 1))))
    {nx:=λ_ H'=>Q .lT H',rt:=Q} [some (.ref a),some (.int m),none] H1:=by
   intro H1 Am S1
   have hne:=S1.ne
   obtain⟨ns,z,ha,hb,hn,z0,z1⟩:=S1.st
   refine⟨_,rfl,a,_,_,_,rfl,rfl,sq ha,au (j:=0) rfl,aaU _,λp hp=>?_⟩
   have HI:∀o,(upd H1 p o) a=some (.lst [.ref b,.int z]):=λo=>by rw[af (av ha hp)];exact ha
   have C1:∀o,(upd H1 p o) b=some (.lst (ns.map V.int)):=λo=>by rw[af (av hb hp)];exact hb
   have S2:=S1.grow (o:=.lst []) hp
   have B2:=Am.grow (o:=.lst []) hp
   refine⟨b,p,_,rfl,rfl,sq (C1 _),sq ai,_,rfl,?_⟩
   cases ns with
   |nil=>
    refine B9 ?_
    refine⟨_,rfl,a,_,_,_,rfl,rfl,sq (HI _),au (j:=1) rfl,_,_,rfl,rfl,.inr ⟨by decide,by decide⟩,_,_,rfl,rfl,_,_,rfl,rfl,(by show (0:Int)<_;decide),_,rfl,a,_,_,1,rfl,rfl,HI _,rfl,?_⟩
    have z2:0<=(z*6364136223846793+1442695040888963) % 2305843009213693951:=ace _ (by decide)
    have z3:(z*6364136223846793+1442695040888963) % 2305843009213693951<2305843009213693951:=abI _ (by decide)
    have S3:=S2.Je z2 z3
    have B3:DT a b H (upd (upd H1 p (.lst [])) a (.lst [.ref b,.int ((z*6364136223846793+1442695040888963) % 2305843009213693951)])):=B2.Je
    refine⟨_,rfl,a,_,_,_,rfl,rfl,sq ai,au (j:=1) rfl,_,rfl,a,_,_,_,rfl,rfl,sq ai,au (j:=1) rfl,_,_,rfl,rfl,.inl ⟨by omega,by omega⟩,_,_,rfl,rfl,(by show (0:Int)<_;decide),_,_,rfl,rfl,⟨by decide,by decide⟩,_,rfl,_,_,rfl,rfl,m0,?_⟩
    exact k _ _ (ace _ (by omega)) (abI _ m0) S3 B3
   |cons x r=>
    refine Ct ?_
    have x0:0<=x:=hn x aay
    refine⟨_,rfl,a,_,_,_,rfl,rfl,sq (HI _),au (j:=0) rfl,b,_,_,_,rfl,rfl,sq (C1 _),au (j:=0) rfl,_,rfl,_,_,rfl,rfl,m0,?_⟩
    refine⟨_,rfl,a,_,_,_,rfl,rfl,sq (HI _),au (j:=0) rfl,b,_,_,_,rfl,rfl,sq (C1 _),au (j:=0) rfl,_,rfl,_,_,rfl,rfl,⟨m0,m1⟩,_,rfl,a,_,_,_,rfl,rfl,sq (HI _),au (j:=0) rfl,b,_,_,0,rfl,rfl,C1 _,(by simp[G8]),_,rfl,?_⟩
    refine k _ _ (ace _ (by omega)) (abI _ m0) (S2.Hs (ns:=x / m::r) λn hm=>?_) B2.Hs
    rcases List.mem_cons.mp hm with rfl|hm
    .exact Int.ediv_nonneg x0 (by omega)
    .exact hn n (aar _ hm)
  refine⟨_,rfl,a,_,_,_,rfl,rfl,sq ha,au (j:=0) rfl,aaU _,λp hp=>?_⟩
  have HI:∀o,(upd H' p o) a=some (.lst [.ref b,.int z]):=λo=>by rw[af (av ha hp)];exact ha
  have C1:∀o,(upd H' p o) b=some (.lst (ns.map V.int)):=λo=>by rw[af (av hb hp)];exact hb
  have S2:=S'.grow (o:=.lst []) hp
  have B2:=hB.grow (o:=.lst []) hp
  refine⟨b,p,_,rfl,rfl,sq (C1 _),sq ai,_,rfl,?_⟩
  cases ns with
  |nil=>
   refine B9 (B9 ?_)
   exact behind _ B2 S2
  |cons x r=>
   refine Ct ?_
   refine⟨_,rfl,a,_,_,_,rfl,rfl,sq (HI _),au (j:=0) rfl,b,_,_,_,rfl,rfl,sq (C1 _),au (j:=0) rfl,rfl,_,rfl,?_⟩
   refine Mj (λ_=>?_) (λ_=>behind _ B2 S2)
   refine⟨λσ' N7=>σ'=[some (.ref a),some (.int m),none]/\DT a b H N7/\N7 a=some (.lst [.ref b,.int z])/\N7 b=some (.lst (r.map V.int)),λσ' N7 h=>⟨r.length,by rw[<- hl,aaR];exact abu _,h.1,h.2.1,r,z,h.2.2.1,h.2.2.2,λn hm=>hn n (aar _ hm),z0,z1,rfl⟩,?_⟩
   refine⟨_,rfl,a,_,_,_,rfl,rfl,sq (HI _),au (j:=0) rfl,.inl ⟨rfl,_,zp.of (C1 _)⟩,b,_,0,0,_,rfl,rfl,C1 _,by decide,by decide,?_,rfl,rfl,B2.Hs,by rw[af S'.ne];exact HI _,ai⟩
   simp[seqIndex?]
structure Bt(mg:Str->Option Value):Prop where
 len:mg "len" = none
 abs:mg "abs" = none
 range:mg "range" = none
 max:mg "max" = none
 sorted:mg "sorted" = none
 tuple:mg "tuple" = none
theorem BQ:az ["_law_script", "_law_seed", "_law_cell"] ["_law_script"] (aq zH):=⟨rfl,rfl,rfl,by decide +kernel,rfl,by decide +kernel,by decide +kernel⟩
theorem sK{f:Addr}(F:EC K "_law_begin" "_law_begin" zH f fd)(B:Bt mg):yd P w K mg base yQ 1 f fd ["_law_script"] (gG K):=by
 refine F.ok BQ (λvs H Q E h=>?_) (λyx A outer s H vs Q E hr h=>?_)
 .obtain⟨a,ns,rfl,_⟩:=h
  rfl
 .obtain⟨a,ns,rfl,hS,hlen,k⟩:=h
  refine⟨_,bA (ee (i:=1) BQ.nd rfl (Or.inl rfl) (bh gg (bT gz (by rfl) B.len adc (aM (pv 0) aW)) aC))
   (bA (qp aba rfl (nW (iO jR (pv 0) j4 (j0 aC))) (aU (i:=2) BQ.nd rfl (Or.inl rfl))
    (cS (ee (i:=1) BQ.nd rfl (Or.inl rfl) (bh dn (bh gg (bh gg (bh jn (pv 1) aC) (bh dn (pv 2) (bh mh aC aC))) aC) aC))))
   (cS (eh (gc (aM (tY (N:=["_law_cell"]) (js:=[none]) (nW (iO jR (pv 0) j4 (j0 aC))) (λ_ _ _ _ _=>aU (i:=0) uU rfl (Or.inl rfl))
    (λ_ _ _ _ _=>qu (ed xP (bT m4 (by rfl) B.abs PyProof.Rows.boot_abs (aM (pv 0) aW)) (bh mh aC aC) (Bk _)))
    (λ_ _ _ _ _=>bT m4 (by rfl) B.abs PyProof.Rows.boot_abs (aM (pv 0) aW)) gP) (aM (pv 1) aW)))))),?_⟩
  refine⟨_,rfl,a,_,rfl,.inl hS,_,_,rfl,rfl,?_⟩
  have cut:∀(H':Hp),dO H H'->Bv (ns.map V.int) none (some 63)=ns.map V.int:=λ_ _=>by
   unfold Bv
   rw[HT.Dr]
   have e:HT.yR (ns.map V.int).length (ns.map V.int).length (some 63)=(ns.map V.int).length:=by
    have:=HT.EM (ns.map V.int).length (ns.map V.int).length 63
    refine this.trans ?_
    rw[aae];omega
   rw[e,Nat.sub_zero,List.drop_zero,abm]
  have grow:∀{H':Hp} {p:Addr} {o:HO},dO H H'->H' p=none->dO H (upd H' p o):=λ{H' p o} hs hp c u h=>by
   have q:=hs c u h
   rw[af (av q hp)];exact q
  refine⟨_,rfl,63,rfl,a,_,rfl,hS,λp hp=>?_⟩
  rw[cut H (dO.refl H)]
  have NM:zp K (upd H p (.lst (ns.map V.int))) p (ns.map V.int):=sq ai
  refine⟨p,rfl,⟨_,NM⟩,tB (K:=K) (a:=p) (xs:=ns.map V.int) (λi σ H2=>∃(z:Int) (v:Option V),σ=[some (.ref a),some (.int z),v]/\H2=upd H p (.lst (ns.map V.int))/\0<=z/\z<2305843009213693951)
   ⟨_,none,rfl,rfl,by show (0:Int)<=((ns.map V.int).length:Nat)+3;omega,by show ((ns.map V.int).length:Nat)+(3:Int)<_;rw[aae];omega⟩ (λi σ H2 _ ⟨_,_,_,e,_⟩=>by rw[e];exact NM) ?_ ?_⟩
  .rintro i y σ H2 hi ⟨z,v,rfl,rfl,z0,z1⟩
   obtain⟨c,rfl⟩:∃c,y=V.int c:=by
    rw[aah]at hi
    cases e:ns[i]? with
    |none=>rw[e]at hi;cases hi
    |some c=>rw[e]at hi;exact⟨c,(aao hi).symm⟩
   refine⟨_,rfl,_,_,rfl,rfl,.inr ⟨by decide,by decide⟩,_,rfl,_,_,rfl,rfl,⟨by decide,by decide,by decide⟩,_,_,rfl,rfl,(by show (0:Int)<10 ^ 30;decide),_,_,rfl,rfl,_,_,rfl,rfl,_,_,rfl,rfl,(by show (0:Int)<_;decide),?_⟩
   exact⟨_,_,rfl,rfl,ace _ (by decide),abI _ (by decide)⟩
  .rintro σ H2 ⟨z,v,rfl,rfl,z0,z1⟩
   have Rc:dO H (upd H p (.lst (ns.map V.int))):=grow (dO.refl H) hp
   refine⟨_,rfl,63,rfl,a,_,rfl,Rc.seq hS,λp2 KO=>?_⟩
   rw[cut H (dO.refl H)]
   have HB:dO H (upd (upd H p (.lst (ns.map V.int))) p2 (.lst (ns.map V.int))):=grow Rc KO
   refine⟨p2,rfl,⟨_,sq ai⟩,λl hl=>?_⟩
   generalize HJ:upd (upd H p (.lst (ns.map V.int))) p2 (.lst (ns.map V.int))=H3 at HB hl ⊢
   have Mw:H3 p2=some (.lst (ns.map V.int)):=by rw[<- HJ];exact ai
   refine u8 (K:=K) (a:=p2) (l:=l) (xs:=ns.map V.int) (λi ys H4=>∃ms:List Int,ys=ms.map V.int/\(∀n∈ms,0<=n)/\ms.length<=i/\H4=upd H3 l (.lst ys))
    ⟨[],rfl,(λ_ h=>nomatch h),aam _,rfl⟩ (λi ys H4 _ ⟨_,_,_,_,e⟩=>by rw[e];exact sq (by rw[af (av Mw hl)];exact Mw)) ?_ ?_
   .rintro i x ys H4 N hi ⟨ms,rfl,hm,SO,rfl⟩ hN
    obtain⟨c,rfl⟩:∃c,x=V.int c:=by
     rw[aah]at hi
     cases e:ns[i]? with
     |none=>rw[e]at hi;cases hi
     |some c=>rw[e]at hi;exact⟨c,(aao hi).symm⟩
    have Hd:i<(ns.map V.int).length:=(List.getElem?_eq_some_iff.mp hi).1
    rw[aae]at Hd
    refine⟨_,rfl,_,rfl,_,_,rfl,rfl,⟨by decide,by decide,by decide⟩,_,_,rfl,rfl,_,rfl,?_⟩
    refine Mj (λ_=>?_) (λ_=>hN _ _ ⟨ms,rfl,hm,by omega,rfl⟩)
    refine⟨_,rfl,c,rfl,ai,by rw[aae,aax];omega,hN _ _ ⟨ms++[if c<0 then -c else c],by simp,λn hn=>?_,by rw[aaQ,List.length_singleton];omega,by rw[ue]⟩⟩
    rcases List.mem_append.mp hn with q|q
    .exact hm n q
    .have:n=if c<0 then -c else c:=by simpa using q
     rw[this];split<;>omega
   .rintro ys H4 ⟨ms,rfl,hm,SO,rfl⟩
    refine⟨_,rfl,(by show 2<=sizeLine;decide),λq hq=>?_⟩
    have MB:l≠q:=λe=>by rw[e,ai]at hq;cases hq
    refine k q l _ ((grow HB hl).free hq) (HB.free hl) ⟨ms,z,ai,by rw[af MB,ai],hm,z0,z1⟩ (grow (grow HB hl) hq)
end Pre
namespace Pre
open PySem L2 Q
structure zB(x:Str):Prop where
 lo:1<=x.cps.toList.length
 hi:x.cps.toList.length<=8
 ok:∀c∈x.cps.toList,97<=c/\c<=122
def ch(i:Nat):Str:=⟨#[97+i]⟩
def wl(b s t f n k:Nat):List Nat:=if n<8/\s=6 then aaC (k+1) (97+b)else (aaC t (97+b)++[97+(f+5*k) % 26,97+(f+k / 26) % 26])++aaC (s - t) (97+b)
def wd(b s t f n k:Nat):Str:=⟨(wl b s t f n k).toArray⟩
variable{b s t f n k:Nat}
theorem ud(hb:b<26)(hs:s<7)(ht:t<=s)(hk:k<n):zB (wd b s t f n k):=by
 have e:(wd b s t f n k).cps.toList=wl b s t f n k:=by simp[wd]
 refine⟨?_,?_,?_⟩
 .rw[e];unfold wl;split
  .simp
  .simp;omega
 .rw[e];unfold wl;split
  .simp;omega
  .simp;omega
 .rw[e];unfold wl
  intro c hc
  split at hc
  .have:=adt hc
   omega
  .rcases List.mem_append.mp hc with h|h
   .rcases List.mem_append.mp h with h|h
    .have:=adt h;omega
    .simp only[aaK,aaV,or_false]at h
     have:=Nat.mod_lt (f+5*k) (show 0<26 by decide)
     have:=Nat.mod_lt (f+k / 26) (show 0<26 by decide)
     omega
   .have:=adt h;omega
theorem n9(f a b:Nat)(h:(f+a) % 26=(f+b) % 26):a % 26=b % 26:=by omega
theorem vU:∀k:Nat,k<60->∀k':Nat,k'<60->(5*k) % 26=(5*k') % 26->(k / 26) % 26=(k' / 26) % 26->k=k':=by decide +kernel
theorem vS{k':Nat}(hk:k<60)(SX:k'<60)(h:wd b s t f n k=wd b s t f n k'):k=k':=by
 have e:wl b s t f n k=wl b s t f n k':=by
  have:=congrArg (λx:Str=>x.cps.toList) h
  simpa[wd]using this
 unfold wl at e
 split at e
 .have:=congrArg acN e
  rw[ab7,ab7]at this
  exact aa3 this
 .have e1:=List.append_cancel_right e
  have e2:=List.append_cancel_left e1
  simp only[List.cons.injEq,and_true]at e2
  exact vU k hk k' SX (n9 f _ _ (Nat.add_left_cancel e2.1)) (n9 f _ _ (Nat.add_left_cancel e2.2))
def Fx(b s t f n:Nat)(m:Nat):List Str:=(aaS m).map (wd b s t f n)
variable{m:Nat}
theorem pZ(hm:m<=60):(Fx b s t f n m).Nodup:=by
 unfold Fx
 rw[ab2,aex]
 have:=(List.nodup_iff_pairwise_ne.mp (acR (n:=m)))
 refine abH (λ{x y} hx hy hne e=>?_) this
 exact hne (vS (by have:=List.mem_range.mp hx;omega) (by have:=List.mem_range.mp hy;omega) e)
theorem rU(hb:b<26)(hs:s<7)(ht:t<=s):∀x∈Fx b s t f n n,zB x:=λx hx=>by
 obtain⟨k,hk,rfl⟩:=List.mem_map.mp hx
 exact ud hb hs ht (List.mem_range.mp hk)
theorem rV(b s t f n m:Nat):Fx b s t f n (m+1)=Fx b s t f n m++[wd b s t f n m]:=by
 unfold Fx
 rw[adS,aaW];rfl
variable{x y:Str}
theorem jO(h:x.cps.toList=y.cps.toList):x=y:=by
 obtain⟨x⟩:=x
 obtain⟨y⟩:=y
 exact congrArg Str.mk (Array.toList_inj.mp h)
theorem ji(b m:Nat):(BJ (ch b) m).cps.toList=aaC m (97+b):=by
 unfold BJ ch
 induction m with
 |zero=>rfl
 |succ m ih=>
  simp only[aa6,abU]at ih ⊢
  simpa using ih
theorem fG(x y:Str):(x++y).cps.toList=x.cps.toList++y.cps.toList:=by
 show (x.cps++y.cps).toList=_
 simp
def Kn:Str := "abcdefghijklmnopqrstuvwxyz"
theorem xJ:∀i:Nat,i<26->Kn.cps.toList[i]?=some (97+i):=by decide +kernel
structure iF where
 nm:Str
 one:Str
 x8:Str
 cost:Int
def t0:iF:=⟨⟨#[]⟩,⟨#[]⟩,⟨#[]⟩,0⟩
structure IG(t:iF):Prop where
 nm:zB t.nm
 one:zB t.one
 x8:zB t.x8
 lt:yL t.one t.x8
 lo : -(10 ^ 30)<t.cost
 hi:t.cost<10 ^ 30
structure Ax(ps:List Str)(ts:List iF):Prop where
 rise:ps.Pairwise yL
 word:∀x∈ps,zB x
 names:(ts.map iF.nm).Pairwise yL
 tie:∀t∈ts,IG t
theorem my(h1:¬ yL y x)(h2:x≠y):yL x y:=by
 unfold yL at *
 rcases List.le_iff_lt_or_eq.mp (List.not_lt.mp h1)with z|z
 .exact z
 .exact absurd (jO z) h2
variable{l:List Str}
theorem vX(hp:l.Perm [x,y])(hs:l.Pairwise λa b=>¬ yL b a)(hn:x≠y):∃u v,l=[u,v]/\yL u v/\(u=x\/u=y)/\(v=x\/v=y):=by
 have hl:=hp.length_eq
 match l,hl with
 |[u,v],_=>
  have hu:u=x\/u=y:=by simpa using hp.mem_iff.mp (show u∈[u,v]by simp)
  have hv:v=x\/v=y:=by simpa using hp.mem_iff.mp (show v∈[u,v]by simp)
  have nd:[u,v].Nodup:=hp.nodup_iff.mpr (by simp[hn])
  have hne:u≠v:=by simpa using nd
  refine⟨u,v,rfl,my ?_ hne,hu,hv⟩
  have:=List.rel_of_pairwise_cons hs (show v∈[v]by simp)
  exact this
theorem nR(hs:l.Pairwise λa b=>¬ yL b a)(hn:l.Nodup):l.Pairwise yL:=by
 have:=List.nodup_iff_pairwise_ne.mp hn
 exact(hs.and this).imp λ⟨h1,h2⟩=>my h1 h2
def aT(t:iF):PV:=.tup [.str t.nm,.str t.one,.str t.x8,.int t.cost]
def iN(ps:List Str)(ts:List iF):PV:=.tup [.tup (ps.map .str),.tup (ts.map aT)]
def dI:BO:=λc xs P=>c=.lT/\∃n:Nat,xs=[.int n]/\n<=60/\∀ws:List Str,ws.length=n->ws.Nodup->(∀x∈ws,zB x)->P (.lst (ws.map .str)) .lT
def ja:BO:=λc xs P=>c=.lT/\∃q:Int,xs=[.int q]/\∀c:Int,-(10 ^ 30)<c->c<10 ^ 30->P (.int c) .lT
def kL:BO:=λc xs P=>c=.lT/\∃M T:Int,xs=[.int M,.int T]/\0<=M/\M<=40/\0<=T/\T<=50/\∀(ps:List Str) (ts:List iF),Ax ps ts->(ps.length:Int)<=M->(ts.length:Int)<=T->P (iN ps ts) .lT
def i9:BO:=λc xs P=>c=.lT/\∃f m k:Int,xs=[.int f,.int m,.int k]/\2<=m/\m<=100/\∀i j:Int,0<=i->i<m->0<=j->j<m->i≠j->P (.tup [.int i,.int j]) .lT
variable{P:aaE}{w:World}{K:aag}{mg:Str->Option Value}{base:Heap}
theorem vB(Y:Ev K mg):Bt mg:=⟨Y.CL,Y.IE,Y.Bd,Y.E2,Y.ze,Y.zk⟩
theorem aI(Y:Ev K mg):yd P w K mg base yQ 1 Y.EZ.f Y.EZ.fd ["_law_state", "_law_many"] (G5 ⟨P,w,K,zW K⟩ 2 aE):=sN (uS Y.EZ.F)
theorem rm(Y:Ev K mg):yd P w K mg base yQ 1 Y.AU.f Y.AU.fd ["_law_script"] (gG K):=sK Y.AU.F (vB Y)
end Pre
namespace Pre
open PySem L2
def yg(ps:List Str)(t:iF):Bool:=decide (t.one∈ps) && decide (t.x8∈ps)
variable{ps:List Str}{t:iF}
theorem yW:yg ps t=true↔t.one∈ps/\t.x8∈ps:=by unfold yg;simp
def zX(ns:List Str)(t:iF):Bool:=decide (t.nm∈ns)
variable{ns:List Str}
theorem B6:zX ns t=true↔t.nm∈ns:=by unfold zX;simp
variable{x y:Str}
theorem gh(h:yL x y):x≠y:=λe=>by subst e;exact ad8 _ h
variable{ts:List iF}
theorem bU(h:Ax ps ts):(ts.map iF.nm).Nodup:=List.nodup_iff_pairwise_ne.mpr (h.names.imp λz=>gh z)
variable{α:Type}{i:Nat}
theorem nI{f:α->Bool}{ts:List α}(hi:i<ts.length):(ts.take (i+1)).filter f=(ts.take i).filter f++(if f ts[i]=true then [ts[i]]else []):=by
 rw[abx,aaa hi,List.filter_append]
 congr 1
 show List.filter f [ts[i]]=_
 rw[acS]
 rfl
def ends(p:Str)(t:iF):List (Str×Str):=(if t.one=p then [(t.nm,t.x8)]else [])++(if t.x8=p then [(t.nm,t.one)]else [])
def yO(ps:List Str)(ts:List iF)(p:Str):List (Str×Str):=(ts.filter (yg ps)).flatMap (ends p)
theorem tU(hi:i<ts.length)(p:Str):yO ps (ts.take (i+1)) p=yO ps (ts.take i) p++(if yg ps ts[i]=true then ends p ts[i]else []):=by
 unfold yO
 rw[nI (f:=yg ps) hi,List.flatMap_append]
 congr 1
 split<;>simp
theorem nC(p:Str)(t:iF):(ends p t).length<=2:=by
 unfold ends
 split<;>split<;>simp
theorem pF(ps:List Str)(ts:List iF)(p:Str):(yO ps ts p).length<=2*ts.length:=by
 unfold yO
 have h1:∀us:List iF,(us.flatMap (ends p)).length<=2*us.length:=λus=>by
  induction us with
  |nil=>simp
  |cons t r ih=>
   rw[List.flatMap_cons,aaQ,aaR]
   have:=nC p t
   omega
 have h2:=h1 (ts.filter (yg ps))
 have h3:=aa5 (yg ps) ts
 omega
inductive yr (g:Str->List (Str×Str)) (s:Str):Str->Prop where
 |refl:yr g s s
 |step {x y nm:Str}:yr g s x->(nm,y)∈g x->yr g s y
abbrev Cs:=List (Str×Option (Str×Str))
abbrev zM(cs:Cs):List Str:=cs.map (·.1)
structure By(g:Str->List (Str×Str))(start:Str)(cs:Cs):Prop where
 nd:(zM cs).Nodup
 tree:∀(i:Nat) (c:Str×Option (Str×Str)),cs[i]?=some c->(i=0/\c=(start,none))\/(0<i/\∃nm x,c.2=some (nm,x)/\(nm,c.1)∈g x/\x∈zM (cs.take i))
 ne:cs≠[]
variable{g:Str->List (Str×Str)}{cs:Cs}
theorem By.start{start:Str}(x:By g start cs):start∈zM cs:=by
 cases cs with
 |nil=>exact absurd rfl x.ne
 |cons c r=>
  rcases x.tree 0 c rfl with ⟨_,e⟩|⟨e,_⟩
  .subst e;exact aay
  .exact absurd e (abd _)
theorem By.sound{start:Str}(x:By g start cs):∀(i:Nat),∀y∈zM (cs.take i),yr g start y
 |0,y,h=>by simp at h
 |i+1,y,h=>by
  rw[abx]at h
  unfold zM at h
  rw[aaW]at h
  rcases List.mem_append.mp h with h|h
  .exact By.sound x i y h
  .cases e:cs[i]? with
   |none=>rw[e]at h;simp at h
   |some c=>
    rw[e]at h
    have hy:y=c.1:=by simpa using h
    subst hy
    rcases x.tree i c e with ⟨_,e⟩|⟨_,nm,z,e1,e2,e3⟩
    .subst e;exact .refl
    .exact .step (By.sound x i z e3) e2
theorem By.iff{start:Str}(x:By g start cs)(cl:∀y∈zM cs,∀q∈g y,q.2∈zM cs):y∈zM cs↔yr g start y:=by
 constructor
 .intro h
  refine x.sound cs.length y ?_
  rw[abm];exact h
 .intro h
  induction h with
  |refl=>exact x.start
  |step _ h ih=>exact cl _ ih _ h
variable{nm:Str}
theorem By.snoc{start:Str}(h:By g start cs)(hy:y∉zM cs)(hx:x∈zM cs)(hg:(nm,y)∈g x):By g start (cs++[(y,some (nm,x))]):=by
 refine⟨?_,λi c hc=>?_,by simp⟩
 .unfold zM
  rw[aaW,adq]
  refine⟨h.nd,by simp,λa ha b hb=>?_⟩
  have:b=y:=by simpa using hb
  rw[this]
  intro z
  exact hy (by rw[<- z];exact ha)
 .rcases adp i cs.length with z|z|z
  .rw[aav z]at hc
   rw[aeM (by omega)]
   exact h.tree i c hc
  .subst z
   rw[ab3 (aam _),Nat.sub_self]at hc
   have e:c=(y,some (nm,x)):=by simpa using hc.symm
   subst e
   refine .inr ⟨?_,nm,x,rfl,hg,?_⟩
   .cases cs with
    |nil=>exact absurd rfl h.ne
    |cons _ _=>simp
   .rw[aeM (aam _),abm];exact hx
  .rw[aaq (by rw[aaQ];simp;omega)]at hc
   cases hc
theorem bu[DecidableEq α]:∀{xs ys:List α},xs.Nodup->(∀x∈xs,x∈ys)->xs.length<=ys.length
 |[],_,_,_=>aaU _
 |x::r,ys,nd,h=>by
  obtain⟨n1,n2⟩:=List.nodup_cons.mp nd
  have hx:=h x aay
  have:=bu (xs:=r) (ys:=ys.erase x) n2 λz hz=>by
   have So:z≠x:=λe=>n1 (by rw[<- e];exact hz)
   exact(List.mem_erase_of_ne So).mpr (h z (aar _ hz))
  rw[List.length_erase_of_mem hx]at this
  have hp:=adJ hx
  rw[aaR]
  omega
variable{z:Str}
theorem eD(a:yL x y)(b:yL y z):yL x z:=List.lt_trans a b
theorem gL(x:Str):¬ yL x x:=ad8 _
theorem du(a:yL x y):¬ yL y x:=λb=>gL x (eD a b)
theorem bX(x y:Str):yL x y\/x=y\/yL y x:=by
 by_cases h:yL y x
 .exact .inr (.inr h)
 .by_cases e:x=y
  .exact .inr (.inl e)
  .exact .inl (my h e)
theorem cR{xs:List Str}(h:xs.Pairwise yL):xs.Nodup:=List.nodup_iff_pairwise_ne.mpr (h.imp λz=>gh z)
open Classical in
noncomputable def rb(g:Str->List (Str×Str))(s y:Str):Bool:=decide (yr g s y)
variable{s:Str}
theorem jk:rb g s y=true↔yr g s y:=by unfold rb;simp
theorem yr.DW(h:yr g s y)(hs:s∈ps)(Dx:∀p∈ps,∀q∈g p,q.2∈ps):y∈ps:=by
 induction h with
 |refl=>exact hs
 |step _ h ih=>exact Dx _ ih _ h
noncomputable def root(ps:List Str)(g:Str->List (Str×Str))(s:Str):Bool:=!ps.any λp=>decide (yL p s) && rb g p s
theorem yS:root ps g s=true↔∀p∈ps,yr g p s->¬ yL p s:=by
 unfold root
 rw[aeC,List.any_eq_false]
 constructor
 .intro h p hp hr hl
  exact h p hp (by rw[aa2,jk];exact⟨decide_eq_true hl,hr⟩)
 .intro h p hp z
  rw[aa2,jk]at z
  exact h p hp z.2 (of_decide_eq_true z.1)
noncomputable def G7(ps:List Str)(g:Str->List (Str×Str)):List (List Str):=(ps.filter (root ps g)).map λs=>ps.filter (rb g s)
variable{p:Str}
theorem E3{q:Str}:(nm,q)∈yO ps ts p↔∃t∈ts,yg ps t=true/\nm=t.nm/\((t.one=p/\t.x8=q)\/(t.x8=p/\t.one=q)):=by
 unfold yO
 rw[List.mem_flatMap]
 constructor
 .rintro⟨t,ht,h⟩
  obtain⟨h1,h2⟩:=List.mem_filter.mp ht
  unfold ends at h
  rcases List.mem_append.mp h with z|z
  .split at z
   .rename_i e
    have:(nm,q)=(t.nm,t.x8):=by simpa using z
    cases this
    exact⟨t,h1,h2,rfl,.inl ⟨e,rfl⟩⟩
   .simp at z
  .split at z
   .rename_i e
    have:(nm,q)=(t.nm,t.one):=by simpa using z
    cases this
    exact⟨t,h1,h2,rfl,.inr ⟨e,rfl⟩⟩
   .simp at z
 .rintro⟨t,h1,h2,rfl,h3⟩
  refine⟨t,List.mem_filter.mpr ⟨h1,h2⟩,?_⟩
  unfold ends
  rcases h3 with ⟨e1,e2⟩|⟨e1,e2⟩
  .exact abo _ (by rw[if_pos e1,e2];simp)
  .exact aat _ (by rw[if_pos e1,e2];simp)
theorem vQ:∀q∈yO ps ts p,q.2∈ps:=λ⟨nm,q⟩ h=>by
 obtain⟨t,h1,h2,h3,h4⟩:=E3.mp h
 obtain⟨o1,o2⟩:=yW.mp h2
 rcases h4 with ⟨a,b⟩|⟨a,b⟩
 .rw[<- b];exact o2
 .rw[<- b];exact o1
def EV(x y:Str):Prop:=¬ yL y x
theorem dw(x:Str):EV x x:=gL x
theorem cB(a:EV x y)(b:EV y z):EV x z:=λh=>by
 rcases bX x y with c|c|c
 .exact b (eD h c)
 .subst c;exact b h
 .exact a c
theorem qN(x y:Str):EV (B7 x y) x:=by
 unfold B7
 split
 .rename_i h;exact du h
 .exact dw x
theorem qM(x y:Str):EV (B7 x y) y:=by
 unfold B7
 split
 .exact dw y
 .rename_i h;exact h
theorem oe(x y:Str):B7 x y=x\/B7 x y=y:=by
 unfold B7
 split
 .exact .inr rfl
 .exact .inl rfl
theorem sV(a:EV x y)(b:EV y x):x=y:=by
 rcases bX x y with c|c|c
 .exact absurd c b
 .exact c
 .exact absurd c a
def zC(t:iF)(L:Str->Str):Str->Str:=λx=>if x=t.x8 then B7 (L t.one) (L t.x8)else if x=t.one then B7 (L t.one) (L t.x8)else L x
def round(os:List iF)(L:Str->Str):Str->Str:=os.foldl (λL t=>zC t L) L
def zt(os:List iF):Nat->Str->Str
 |0=>id
 |n+1=>round os (zt os n)
theorem iK(t:iF)(L:Str->Str)(x:Str):EV (zC t L x) (L x):=by
 unfold zC
 split
 .rename_i h;subst h;exact qM _ _
 .split
  .rename_i h;subst h;exact qN _ _
  .exact dw _
theorem fw:∀(os:List iF) (L:Str->Str) (x:Str),EV (round os L x) (L x)
 |[],_,_=>dw _
 |t::r,L,x=>cB (fw r (zC t L) x) (iK t L x)
theorem jh:∀(os:List iF) (L:Str->Str),∀t∈os,EV (round os L t.one) (L t.x8)/\EV (round os L t.x8) (L t.one)
 |[],_,t,h=>nomatch h
 |u::r,L,t,h=>by
  rcases List.mem_cons.mp h with rfl|h
  .have a:=fw r (zC t L) t.one
   have b:=fw r (zC t L) t.x8
   have m1:zC t L t.x8=B7 (L t.one) (L t.x8):=by unfold zC;rw[if_pos rfl]
   have m2:zC t L t.one=B7 (L t.one) (L t.x8):=by
    unfold zC
    split
    .rfl
    .rw[if_pos rfl]
   rw[m2]at a
   rw[m1]at b
   exact⟨cB a (qM _ _),cB b (qN _ _)⟩
  .obtain⟨a,b⟩:=jh r (zC u L) t h
   exact⟨cB a (iK u L _),cB b (iK u L _)⟩
def Rk(g:Str->List (Str×Str)):Nat->Str->Str->Prop
 |0,x,y=>x=y
 |k+1,x,y=>Rk g k x y\/∃nm z,(nm,z)∈g x/\Rk g k z y
structure AY(ps:List Str)(os:List iF)(g:Str->List (Str×Str)):Prop where
 mem:∀p nm q,(nm,q)∈g p↔∃t∈os,nm=t.nm/\((t.one=p/\t.x8=q)\/(t.x8=p/\t.one=q))
 DW:∀t∈os,t.one∈ps/\t.x8∈ps
variable{os:List iF}
theorem AY.sym(G:AY ps os g){q:Str}(h:(nm,q)∈g p):(nm,p)∈g q:=by
 obtain⟨t,a,b,c⟩:=(G.mem _ _ _).mp h
 refine(G.mem _ _ _).mpr ⟨t,a,b,?_⟩
 rcases c with ⟨x,y⟩|⟨x,y⟩
 .exact .inr ⟨y,x⟩
 .exact .inl ⟨y,x⟩
theorem AY.Mm(G:AY ps os g):∀q∈g p,q.2∈ps:=λ⟨nm,q⟩ h=>by
 obtain⟨t,a,b,c⟩:=(G.mem _ _ _).mp h
 rcases c with ⟨x,y⟩|⟨x,y⟩
 .rw[<- y];exact(G.DW t a).2
 .rw[<- y];exact(G.DW t a).1
theorem yr.trans(a:yr g x y)(b:yr g y z):yr g x z:=by
 induction b with
 |refl=>exact a
 |step _ h ih=>exact .step ih h
theorem AY.zV(G:AY ps os g)(h:yr g x y):yr g y x:=by
 induction h with
 |refl=>exact .refl
 |step _ h ih=>exact yr.trans (.step .refl (G.sym h)) ih
theorem eU(ps:List Str)(ts:List iF):AY ps (ts.filter (yg ps)) (yO ps ts):=by
 refine⟨λp nm q=>?_,λt ht=>yW.mp (List.mem_filter.mp ht).2⟩
 rw[E3]
 constructor
 .rintro⟨t,a,b,c⟩;exact⟨t,List.mem_filter.mpr ⟨a,b⟩,c⟩
 .rintro⟨t,a,c⟩
  obtain⟨a,b⟩:=List.mem_filter.mp a
  exact⟨t,a,b,c⟩
theorem dS(G:AY ps os g):∀(k:Nat) (x y:Str),Rk g k x y->EV (zt os k x) y
 |0,x,y,h=>by cases h;exact dw _
 |k+1,x,y,h=>by
  rcases h with h|⟨nm,z,hz,h⟩
  .exact cB (fw os (zt os k) x) (dS G k x y h)
  .have ih:=dS G k z y h
   obtain⟨t,ht,_,c⟩:=(G.mem _ _ _).mp hz
   obtain⟨a,b⟩:=jh os (zt os k) t ht
   rcases c with ⟨e1,e2⟩|⟨e1,e2⟩
   .subst e1 e2;exact cB a ih
   .subst e1 e2;exact cB b ih
variable{L:Str->Str}
theorem ng(G:AY ps os g)(ht:t∈os)(h:∀x,yr g x (L x)):∀x,yr g x (zC t L x):=by
 have e1:yr g t.one t.x8:=.step .refl ((G.mem _ _ _).mpr ⟨t,ht,rfl,.inl ⟨rfl,rfl⟩⟩)
 have e2:yr g t.x8 t.one:=.step .refl ((G.mem _ _ _).mpr ⟨t,ht,rfl,.inr ⟨rfl,rfl⟩⟩)
 intro x
 unfold zC
 split
 .rename_i e
  subst e
  rcases oe (L t.one) (L t.x8)with z|z<;>rw[z]
  .exact e2.trans (h _)
  .exact h _
 .split
  .rename_i e
   subst e
   rcases oe (L t.one) (L t.x8)with z|z<;>rw[z]
   .exact h _
   .exact e1.trans (h _)
  .exact h x
theorem ic(G:AY ps os g):∀(us:List iF) (L:Str->Str),(∀t∈us,t∈os)->(∀x,yr g x (L x))->∀x,yr g x (round us L x)
 |[],L,_,h=>h
 |t::r,L,hs,h=>ic G r (zC t L) (λu hu=>hs u (aar _ hu)) (ng G (hs t aay) h)
theorem dg(G:AY ps os g):∀(k:Nat) (x:Str),yr g x (zt os k x)
 |0,x=>.refl
 |k+1,x=>ic G os _ (λ_ h=>h) (dg G k) x
open Classical in
theorem MV(G:AY ps os g)(nd:ps.Nodup)(hy:y∈ps):∀k:Nat,(∀x,yr g y x->Rk g k x y)\/k<(ps.filter λx=>decide (Rk g k x y)).length
 |0=>by
  right
  have:y∈ps.filter λx=>decide (Rk g 0 x y):=List.mem_filter.mpr ⟨hy,by simp[Rk]⟩
  exact adJ this
 |k+1=>by
  rcases MV G nd hy k with h|h
  .exact .inl λx hx=>.inl (h x hx)
  .by_cases c:∃x∈ps,Rk g (k+1) x y/\¬ Rk g k x y
   .right
    obtain⟨x,hx,c1,c2⟩:=c
    have:=bu (xs:=x::(ps.filter λx=>decide (Rk g k x y))) (ys:=ps.filter λx=>decide (Rk g (k+1) x y))
     (List.nodup_cons.mpr ⟨λz=>c2 (by have:=(List.mem_filter.mp z).2;simpa using this),nd.sublist abY⟩)
     (λz hz=>by
      rcases List.mem_cons.mp hz with rfl|hz
      .exact List.mem_filter.mpr ⟨hx,by simpa using c1⟩
      .obtain⟨z1,z2⟩:=List.mem_filter.mp hz
       exact List.mem_filter.mpr ⟨z1,by simp only[decide_eq_true_eq]at z2 ⊢;exact .inl z2⟩)
    rw[aaR]at this
    omega
   .left
    have key:∀x,yr g y x->x∈ps/\Rk g k x y:=λx hx=>by
     induction hx with
     |refl=>
      refine⟨hy,?_⟩
      have:∀j,Rk g j y y:=λj=>by
       induction j with
       |zero=>rfl
       |succ j ih=>exact .inl ih
      exact this k
     |@step u v nm _ hv ih=>
      have GC:v∈ps:=G.Mm _ hv
      refine⟨GC,?_⟩
      have:Rk g (k+1) v y:=.inr ⟨nm,u,G.sym hv,ih.2⟩
      exact abE λz=>c ⟨v,GC,this,z⟩
    exact λx hx=>.inl (key x hx).2
theorem o9(G:AY ps os g)(nd:ps.Nodup)(hy:y∈ps)(h:yr g y x):Rk g ps.length x y:=by
 rcases MV G nd hy ps.length with a|a
 .exact a x h
 .exact absurd a (Nat.not_lt.mpr (aa5 _ _))
structure G1(ps:List Str)(g:Str->List (Str×Str))(L:Str->Str):Prop where
 DW:∀x∈ps,L x∈ps
 Jo:∀x,yr g x (L x)
 least:∀x∈ps,∀y∈ps,yr g x y->EV (L x) y
theorem fZ(G:AY ps os g)(nd:ps.Nodup):G1 ps g (zt os ps.length) where
 DW:=λx hx=>(dg G ps.length x).DW hx λp _=>G.Mm
 Jo:=dg G ps.length
 least:=λx hx y hy h=>dS G ps.length x y (o9 G nd hy (G.zV h))
theorem G1.root(G:AY ps os g)(h:G1 ps g L)(hs:s∈ps):L s=s↔root ps g s=true:=by
 rw[yS]
 constructor
 .intro e p hp hr y6
  have:=h.least s hs p hp (G.zV hr)
  rw[e]at this
  exact this y6
 .intro hr
  refine sV (h.least s hs s hs .refl) ?_
  exact hr _ (h.DW s hs) (G.zV (h.Jo s))
theorem lg(G:AY ps os g)(nd:ps.Nodup):(ps.filter λp=>decide (zt os ps.length p=p)).length=(G7 ps g).length:=by
 unfold G7
 rw[aae]
 congr 1
 refine abV λs hs=>?_
 rw[aaL,decide_eq_true_eq]
 exact(fZ G nd).root G hs
theorem ls(ps ns:List Str)(ts:List iF):(ts.filter (yg ps)).filter (zX ns)=(ts.filter (zX ns)).filter (yg ps):=by
 rw[acK,acK]
 exact abV λt _=>Bool.and_comm _ _
variable{CD:List iF}{g':Str->List (Str×Str)}
theorem cP(G:AY ps os g)(G':AY ps CD g')(h:∀t∈os,t∈CD)(r:yr g x y):yr g' x y:=by
 induction r with
 |refl=>exact .refl
 |step _ e ih=>
  obtain⟨t,a,b,c⟩:=(G.mem _ _ _).mp e
  exact .step ih ((G'.mem _ _ _).mpr ⟨t,h t a,b,c⟩)
theorem sf(G:AY ps os g)(G':AY ps CD g')(h:∀t∈os,t∈CD)(r:root ps g' s=true):root ps g s=true:=by
 rw[yS]at r ⊢
 exact λp hp e=>r p hp (cP G G' h e)
theorem fA{p q:α->Bool}:∀{l:List α},(∀x∈l,p x=true->q x=true)->(l.filter p).Sublist (l.filter q)
 |[],_=>List.Sublist.refl _
 |x::l,h=>by
  have ih:=fA (l:=l) λy hy=>h y (by simp[hy])
  rw[acS,acS]
  cases e:p x with
  |false=>
   rw[if_neg (by simp)]
   split
   .exact ih.cons _
   .exact ih
  |true=>
   rw[if_pos rfl,if_pos (h x (by simp) e)]
   exact ih.cons_cons _
theorem lQ(G:AY ps os g){r:Str}(hr:r∈ps)(hs:s∈ps)(h1:root ps g r=true)(h2:root ps g s=true)(h:yr g r s):r=s:=by
 rw[yS]at h1 h2
 rcases bX r s with z|z|z
 .exact absurd z (h2 r hr h)
 .exact z
 .exact absurd z (h1 s hs (G.zV h))
theorem dt(G:AY ps os g)(G':AY ps CD g')(h:∀u,u∈CD↔u∈os\/u=t)(r:yr g' x y):yr g x y\/(yr g x t.one/\yr g t.x8 y)\/(yr g x t.x8/\yr g t.one y):=by
 induction r with
 |refl=>exact .inl .refl
 |step _ e ih=>
  obtain⟨u,a,b,c⟩:=(G'.mem _ _ _).mp e
  rcases(h u).mp a with a|rfl
  .have e':=(G.mem _ _ _).mpr ⟨u,a,b,c⟩
   rcases ih with ih|⟨i1,i2⟩|⟨i1,i2⟩
   .exact .inl (.step ih e')
   .exact .inr (.inl ⟨i1,.step i2 e'⟩)
   .exact .inr (.inr ⟨i1,.step i2 e'⟩)
  .rcases c with ⟨c1,c2⟩|⟨c1,c2⟩
   .subst c1 c2
    rcases ih with ih|⟨i1,i2⟩|⟨i1,i2⟩
    .exact .inr (.inl ⟨ih,.refl⟩)
    .exact .inr (.inl ⟨i1,.refl⟩)
    .exact .inl i1
   .subst c1 c2
    rcases ih with ih|⟨i1,i2⟩|⟨i1,i2⟩
    .exact .inr (.inr ⟨ih,.refl⟩)
    .exact .inl i1
    .exact .inr (.inr ⟨i1,.refl⟩)
theorem kW(nd:ps.Nodup)(G:AY ps os g)(G':AY ps CD g')(h:∀u,u∈CD↔u∈os\/u=t)(hc:yr g t.one t.x8)(r:yr g' x y):yr g x y:=by
 rcases dt G G' h r with z|⟨z1,z2⟩|⟨z1,z2⟩
 .exact z
 .exact z1.trans (hc.trans z2)
 .exact z1.trans ((G.zV hc).trans z2)
theorem sP(nd:ps.Nodup)(G:AY ps os g)(G':AY ps CD g')(h:∀u,u∈CD↔u∈os\/u=t)(h1:t.one∈ps)(h2:t.x8∈ps)(hc:¬ yr g t.one t.x8):(G7 ps g').length+1=(G7 ps g).length:=by
 have L:=fZ G nd
 have JI:∀u∈os,u∈CD:=λu hu=>(h u).mpr (.inl hu)
 have Qm:yr g' t.one t.x8:=.step .refl ((G'.mem _ _ _).mpr ⟨t,(h t).mpr (.inr rfl),rfl,.inl ⟨rfl,rfl⟩⟩)
 generalize NL:zt os ps.length t.one=ra
 generalize NK:zt os ps.length t.x8=FC
 have a1:ra∈ps:=by rw[<- NL];exact L.DW _ h1
 have b1:FC∈ps:=by rw[<- NK];exact L.DW _ h2
 have a2:yr g t.one ra:=by rw[<- NL];exact L.Jo _
 have b2:yr g t.x8 FC:=by rw[<- NK];exact L.Jo _
 have rt:∀x∈ps,root ps g (zt os ps.length x)=true:=λx hx=>yS.mpr λp hp e lt=>L.least x hx p hp ((L.Jo x).trans (G.zV e)) lt
 have a3:root ps g ra=true:=by rw[<- NL];exact rt _ h1
 have b3:root ps g FC=true:=by rw[<- NK];exact rt _ h2
 have hne:ra≠FC:=λe=>hc (a2.trans (e ▸ G.zV b2))
 have both:yr g' ra FC:=(cP G G' JI (G.zV a2)).trans (Qm.trans (cP G G' JI b2))
 obtain⟨hi,hh,Mu,Pw⟩:∃hi,hi∈ps/\root ps g hi=true/\∀s∈ps,(root ps g' s=true↔root ps g s=true/\s≠hi):=by
  have main:∀lo hi,lo∈ps->hi∈ps->yL lo hi->yr g' lo hi->(∀s∈ps,root ps g s=true->s≠hi->∀p∈ps,yr g' p s->¬ yL p s)->∀s∈ps,(root ps g' s=true↔root ps g s=true/\s≠hi):=λlo hi hl hh lt hr key s hs=>by
   constructor
   .intro r
    refine⟨sf G G' JI r,λe=>?_⟩
    subst e
    exact yS.mp r lo hl hr lt
   .rintro⟨r,ne⟩
    exact yS.mpr (key s hs r ne)
  have isA:∀s∈ps,root ps g s=true->yr g t.one s->s=ra:=λs hs r e=>(lQ G a1 hs a3 r ((G.zV a2).trans e)).symm
  have Ra:∀s∈ps,root ps g s=true->yr g t.x8 s->s=FC:=λs hs r e=>(lQ G b1 hs b3 r ((G.zV b2).trans e)).symm
  have Sj:∀p∈ps,yr g p t.one->¬ yL p ra:=λp hp e lt=>by
   have:=L.least t.one h1 p hp (G.zV e)
   rw[NL]at this
   exact this lt
  have leB:∀p∈ps,yr g p t.x8->¬ yL p FC:=λp hp e lt=>by
   have:=L.least t.x8 h2 p hp (G.zV e)
   rw[NK]at this
   exact this lt
  rcases bX ra FC with z|z|z
  .refine⟨FC,b1,b3,main ra FC a1 b1 z both λs hs r ne p hp e lt=>?_⟩
   rcases dt G G' h e with w|⟨w1,w2⟩|⟨w1,w2⟩
   .exact yS.mp r p hp w lt
   .exact ne (Ra s hs r w2)
   .have:=isA s hs r w2
    subst this
    rcases bX p FC with q|q|q
    .exact leB p hp w1 q
    .subst q;exact du z lt
    .exact du z (eD q lt)
  .exact absurd z hne
  .refine⟨ra,a1,a3,main FC ra b1 a1 z (G'.zV both) λs hs r ne p hp e lt=>?_⟩
   rcases dt G G' h e with w|⟨w1,w2⟩|⟨w1,w2⟩
   .exact yS.mp r p hp w lt
   .have:=Ra s hs r w2
    subst this
    rcases bX p ra with q|q|q
    .exact Sj p hp w1 q
    .subst q;exact du z lt
    .exact du z (eD q lt)
   .exact ne (isA s hs r w2)
 unfold G7
 rw[aae,aae]
 have e1:ps.filter (root ps g')=(ps.filter (root ps g)).filter λs=>decide (s≠hi):=by
  rw[acK]
  refine abV λs hs=>?_
  rw[aaL,Pw s hs,aa2,decide_eq_true_eq,and_comm]
 have Sh:(ps.filter (root ps g)).Nodup:=nd.sublist abY
 have hm:hi∈ps.filter (root ps g):=List.mem_filter.mpr ⟨hh,Mu⟩
 have e2:((ps.filter (root ps g)).filter λs=>decide (s≠hi))=(ps.filter (root ps g)).erase hi:=by
  rw[Sh.erase_eq_filter]
  refine abV λs _=>?_
  rw[aaL]
  simp
 rw[e1,e2,List.length_erase_of_mem hm]
 have:=adJ hm
 omega
end Pre
namespace Pre
open PySem L2 Q
def yn(q:Str×Str):PV:=.tup [.str q.1,.str q.2]
def AH(ps:List Str)(g:Str->List (Str×Str)):PV:=.yw (ps.map λp=>(aan p,.lst ((g p).map yn)))
def DF:Option (Str×Str)->PV
 |none=>.lT
 |some q=>yn q
def zi(cs:Cs):PV:=.yw (cs.map λc=>(aan c.1,DF c.2))
structure Nt(ps:List Str)(ts:List iF):Prop where
 rise:ps.Pairwise yL
 ne:∀t∈ts,t.one≠t.x8
 pl:ps.length<=60
 tl:ts.length<=1000
def er(ps:List Str)(ts:List iF):List Str:=(ts.filter (yg ps)).map iF.nm
def bR:Fd:=λxs P=>∃(ps:List Str) (ts:List iF) (t:iF),xs=[iN ps ts,aT t]/\P (.bl (yg ps t))
def cJ:Fd:=λxs P=>∃(ps:List Str) (ts:List iF),xs=[iN ps ts]/\ts.length<=1000/\P (.tup ((er ps ts).map .str))
def cw:Fd:=λxs P=>∃(ps:List Str) (ts:List iF),xs=[iN ps ts]/\Nt ps ts/\P (AH ps (yO ps ts))
def dX:Fd:=λxs P=>∃(ps:List Str) (g:Str->List (Str×Str)) (start:Str),xs=[AH ps g,.str start]/\ps.Nodup/\start∈ps/\(∀p∈ps,∀q∈g p,q.2∈ps)/\ps.length<=1000 /\
 ∀cs,By g start cs->(∀y∈zM cs,y∈ps)->(∀y∈zM cs,∀q∈g y,q.2∈zM cs)->P (zi cs)
def fH:Fd:=λxs P=>∃(ps:List Str) (ts:List iF),xs=[iN ps ts]/\ts.length<=1000/\P (.lst ((ts.filter (yg ps)).map aT))
def yN(ps:List Str)(L:Str->Str):PV:=.yw (ps.map λp=>(aan p,.str (L p)))
def BK(ps:List Str)(us:List iF):Nat:=(ps.filter λp=>decide (zt us ps.length p=p)).length
def Bz(ps ns:List Str)(ts:List iF):List iF:=(ts.filter (yg ps)).filter (zX ns)
variable{ps:List Str}{ts:List iF}
theorem ba:∀{l:List iF},(l.map iF.nm).Nodup->∀{a b:iF},a∈l->b∈l->a.nm=b.nm->a=b
 |t::l,h,a,b,ha,hb,e=>by
  rw[aau,ac2]at h
  rcases List.mem_cons.mp ha with h1|h1
  .rcases List.mem_cons.mp hb with h2|h2
   .exact h1.trans h2.symm
   .exact absurd (h1 ▸ e ▸ abv (f:=iF.nm) h2) h.1
  .rcases List.mem_cons.mp hb with h2|h2
   .exact absurd (h2 ▸ e ▸ abv (f:=iF.nm) h1) h.1
   .exact ba h.2 h1 h2 e
theorem mJ(ps ns:List Str)(ts:List iF):AY ps (Bz ps ns ts) (yO ps (ts.filter (zX ns))):=by
 unfold Bz
 rw[ls]
 exact eU ps _
variable{g:Str->List (Str×Str)}
theorem qz{g':Str->List (Str×Str)}(h:∀x y,yr g x y↔yr g' x y):G7 ps g=G7 ps g':=by
 have e1:root ps g=root ps g':=by
  funext s
  rw[aaL,yS,yS]
  exact⟨λk p hp e=>k p hp ((h _ _).mpr e),λk p hp e=>k p hp ((h _ _).mp e)⟩
 have e2:∀s,rb g s=rb g' s:=λs=>by
  funext y
  rw[aaL,jk,jk]
  exact h s y
 unfold G7
 rw[e1]
 refine aaH λs _=>?_
 rw[e2]
def zP(t u:iF):Prop:=t.cost<u.cost\/(t.cost=u.cost/\yL t.nm u.nm)
theorem bG(t:iF):¬ zP t t:=by
 rintro(h|⟨_,h⟩)
 .omega
 .exact gL _ h
variable{t u v:iF}
theorem eS(h:zP t u)(k:zP u v):zP t v:=by
 rcases h with h|⟨h1,h2⟩<;>rcases k with k|⟨k1,k2⟩
 .exact .inl (by omega)
 .exact .inl (by omega)
 .exact .inl (by omega)
 .exact .inr ⟨by omega,eD h2 k2⟩
theorem oQ(h:t.nm≠u.nm):zP t u\/zP u t:=by
 rcases Int.lt_trichotomy t.cost u.cost with z|z|z
 .exact .inl (.inl z)
 .rcases bX t.nm u.nm with w|w|w
  .exact .inl (.inr ⟨z,w⟩)
  .exact absurd w h
  .exact .inr (.inr ⟨z.symm,w⟩)
 .exact .inr (.inl z)
theorem jH(h:zP t u):¬ zP u t:=λk=>bG t (eS h k)
instance (t u:iF):Decidable (zP t u):=inferInstanceAs (Decidable (t.cost<u.cost\/(t.cost=u.cost/\yL t.nm u.nm)))
def below(os:List iF)(t:iF):List iF:=os.filter λu=>decide (zP u t)
variable{os:List iF}
theorem x9:u∈below os t↔u∈os/\zP u t:=by
 unfold below
 rw[ac3,decide_eq_true_eq]
def Min(ps:List Str)(os:List iF)(t:iF):Prop:=¬ yr (yO ps (below os t)) t.one t.x8
theorem Au(h:∀u∈os,yg ps u=true):AY ps os (yO ps os):=by
 have:=eU ps os
 rwa [List.filter_eq_self.mpr h]at this
variable{x y:Str}
theorem bx{CD:List iF}(h:∀u∈os,yg ps u=true)(h':∀u∈CD,yg ps u=true)(k:∀u∈os,u∈CD)(r:yr (yO ps os) x y):yr (yO ps CD) x y:=cP (Au h) (Au h') k r
theorem fx(h:∀u∈os,yg ps u=true)(ht:t∈os):yr (yO ps os) t.one t.x8:=.step .refl (((Au h).mem _ _ _).mpr ⟨t,ht,rfl,.inl ⟨rfl,rfl⟩⟩)
def less(os:List iF)(t:iF):List iF:=os.filter λu=>decide (u.nm≠t.nm)
theorem ya:u∈less os t↔u∈os/\u.nm≠t.nm:=by
 unfold less
 rw[ac3,decide_eq_true_eq]
variable{L:List iF}
theorem iJ{B:List iF}(hL:∀u∈L,yg ps u=true)(ht:t∈L)(hB:∀u∈B,u∈L):∀D:List iF,(D.map iF.nm).Nodup->(∀d∈D,d∈L/\(∀u∈B,u.nm≠d.nm)/\t.nm≠d.nm/\¬ yr (yO ps (less L d)) d.one d.x8)->yr (yO ps (B++D)) t.one t.x8->yr (yO ps B) t.one t.x8
 |[],_,_,r=>by rwa [abb]at r
 |d::D,nd,hD,r=>by
  rw[aau,ac2]at nd
  have Qa:=λu hu=>hD u (aar d hu)
  obtain⟨d1,d2,d3,d4⟩:=hD d aay
  have Nz:∀u∈B++D,yg ps u=true:=λu hu=>hL u (by
   rcases List.mem_append.mp hu with z|z
   .exact hB u z
   .exact(Qa u z).1)
  have OR:∀u∈B++d::D,yg ps u=true:=λu hu=>by
   rcases List.mem_append.mp hu with z|z
   .exact Nz u (abo _ z)
   .rcases List.mem_cons.mp z with rfl|z
    .exact hL _ d1
    .exact Nz u (aat _ z)
  have hm:∀u,u∈B++d::D↔u∈B++D\/u=d:=λu=>by
   simp only[acr,aaK]
   constructor
   .rintro(h|h|h)
    .exact .inl (.inl h)
    .exact .inr h
    .exact .inl (.inr h)
   .rintro((h|h)|h)
    .exact .inl h
    .exact .inr (.inr h)
    .exact .inr (.inl h)
  have OQ:∀u∈less L d,yg ps u=true:=λu hu=>hL u (ya.mp hu).1
  have up:∀{x y:Str},yr (yO ps (B++D)) x y->yr (yO ps (less L d)) x y:=bx Nz OQ λu hu=>ya.mpr (by
   rcases List.mem_append.mp hu with z|z
   .exact⟨hB u z,d2 u z⟩
   .exact⟨(Qa u z).1,λe=>nd.1 (by rw[<- e];exact abv z)⟩)
  have te:yr (yO ps (less L d)) t.one t.x8:=fx OQ (ya.mpr ⟨ht,d3⟩)
  have G:=Au OQ
  rcases dt (Au Nz) (Au OR) hm r with z|⟨z1,z2⟩|⟨z1,z2⟩
  .exact iJ hL ht hB D nd.2 Qa z
  .exact absurd ((G.zV (up z1)).trans (te.trans (G.zV (up z2)))) d4
  .exact absurd ((up z2).trans ((G.zV te).trans (up z1))) d4
theorem mC(pn:ps.Nodup)(hL:∀u∈L,yg ps u=true)(nd:(L.map iF.nm).Nodup)(ht:t∈L):BK ps (less L t)=BK ps L↔yr (yO ps (less L t)) t.one t.x8:=by
 have oL:∀u∈less L t,yg ps u=true:=λu hu=>hL u (ya.mp hu).1
 have G:=Au oL
 have G':=Au hL
 have hm:∀u,u∈L↔u∈less L t\/u=t:=λu=>by
  rw[ya]
  constructor
  .intro h
   by_cases e:u.nm=t.nm
   .exact .inr (ba nd h ht e)
   .exact .inl ⟨h,e⟩
  .rintro(⟨h,_⟩|rfl)
   .exact h
   .exact ht
 have e1:BK ps (less L t)=(G7 ps (yO ps (less L t))).length:=lg G pn
 have e2:BK ps L=(G7 ps (yO ps L)).length:=lg G' pn
 rw[e1,e2]
 have o:=yW.mp (hL t ht)
 constructor
 .intro h
  refine abE λhc=>?_
  have:=sP pn G G' hm o.1 o.2 hc
  omega
 .intro hc
  rw[qz λx y=>⟨cP G G' λu hu=>(hm u).mpr (.inl hu),kW pn G G' hm hc⟩]
structure II(ps:List Str)(os done L:List iF):Prop where
 sub:L.Sublist os
 mem:∀u∈os,u∈L↔u∉done\/Min ps os u
 Qr:∀d∈L,d∈done->¬ yr (yO ps (less L d)) d.one d.x8
 Qf:BK ps L=BK ps os
theorem II.step{done:List iF}(pn:ps.Nodup)(ho:∀u∈os,yg ps u=true)(nd:(os.map iF.nm).Nodup)(R:II ps os done L)(ht:t∈os)(hn:t∉done)(hd:∀d∈done,d∈os/\zP t d)(hu:∀u∈os,u∉done->u=t\/zP u t):
  (BK ps (less L t)=BK ps os->II ps os (t::done) (less L t))/\(BK ps (less L t)≠BK ps os->II ps os (t::done) L):=by
 have tL:t∈L:=(R.mem t ht).mpr (.inl hn)
 have oL:∀u∈L,yg ps u=true:=λu h=>ho u (R.sub.subset h)
 have Q7:(L.map iF.nm).Nodup:=nd.sublist (R.sub.map _)
 have oB:∀u∈below os t,yg ps u=true:=λu h=>ho u (x9.mp h).1
 have Gj:∀u∈less L t,yg ps u=true:=λu h=>oL u (ya.mp h).1
 have Gp:∀{u v:iF},u∈os->v∈os->u≠v->u.nm≠v.nm:=λh1 h2 h e=>h (ba nd h1 h2 e)
 have bL:∀u∈below os t,u∈L:=λu h=>by
  obtain⟨h1,h2⟩:=x9.mp h
  refine(R.mem u h1).mpr (.inl λz=>?_)
  exact jH h2 (hd u z).2
 have key:yr (yO ps (less L t)) t.one t.x8↔¬ Min ps os t:=by
  unfold Min
  rw[Classical.not_not]
  constructor
  .intro r
   classical
   let D:=L.filter λd=>decide (d∈done)
   refine iJ (L:=L) (B:=below os t) (t:=t) oL tL bL D (Q7.sublist (List.filter_sublist.map _)) (λd h=>?_) ?_
   .obtain⟨h1,h2⟩:=List.mem_filter.mp h
    rw[decide_eq_true_eq]at h2
    have h3:=hd d h2
    refine⟨h1,λu hu=>Gp (x9.mp hu).1 h3.1 λe=>?_,Gp ht h3.1 λe=>hn (e ▸ h2),R.Qr d h1 h2⟩
    subst e
    exact jH (x9.mp hu).2 h3.2
   .refine bx Gj (λu Mr=>?_) (λu Mr=>?_) r
    .rcases List.mem_append.mp Mr with z|z
     .exact oB u z
     .exact oL u (List.mem_filter.mp z).1
    .obtain⟨h1,h2⟩:=ya.mp Mr
     by_cases z:u∈done
     .exact aat _ (List.mem_filter.mpr ⟨h1,decide_eq_true z⟩)
     .exact abo _ (x9.mpr ⟨R.sub.subset h1,(hu u (R.sub.subset h1) z).resolve_left λe=>h2 (by rw[e])⟩)
  .refine bx oB Gj λu h=>ya.mpr ⟨bL u h,Gp (x9.mp h).1 ht λe=>?_⟩
   rw[e]at h
   exact bG t (x9.mp h).2
 have iff:=mC pn oL Q7 tL
 rw[R.Qf]at iff
 constructor
 .intro e
  have nm:=key.mp (iff.mp e)
  refine⟨List.filter_sublist.trans R.sub,λu h=>?_,λd h1 h2 r=>?_,e⟩
  .rw[ya,R.mem u h,aaK,not_or]
   by_cases z:u=t
   .subst z
    exact⟨λx=>absurd rfl x.2,λx=>(x.elim (λy=>absurd rfl y.1) λy=>absurd y nm)⟩
   .constructor
    .rintro⟨x|x,_⟩
     .exact .inl ⟨z,x⟩
     .exact .inr x
    .rintro(x|x)
     .exact⟨.inl x.2,Gp h ht z⟩
     .exact⟨.inr x,Gp h ht z⟩
  .obtain⟨d1,d2⟩:=ya.mp h1
   rcases List.mem_cons.mp h2 with rfl|h2
   .exact absurd rfl d2
   .refine R.Qr d d1 h2 (bx (λu hu=>Gj u (ya.mp hu).1) (λu hu=>oL u (ya.mp hu).1) (λu hu=>?_) r)
    exact ya.mpr ⟨(ya.mp (ya.mp hu).1).1,(ya.mp hu).2⟩
 .intro e
  have hc:¬ yr (yO ps (less L t)) t.one t.x8:=λr=>e (iff.mpr r)
  have mn:Min ps os t:=abE λz=>hc (key.mpr z)
  refine⟨R.sub,λu h=>?_,λd h1 h2 r=>?_,R.Qf⟩
  .rw[R.mem u h,aaK,not_or]
   by_cases z:u=t
   .subst z
    exact⟨λ_=>.inr mn,λ_=>.inr mn⟩
   .exact⟨λx=>x.imp (λy=>⟨z,y⟩) id,λx=>x.imp (λy=>y.2) id⟩
  .rcases List.mem_cons.mp h2 with rfl|h2
   .exact hc r
   .exact R.Qr d h1 h2 r
def Kr(ps:List Str)(X:List iF)(G:Str->Str):Prop:=∀x∈ps,∀y∈ps,G x=G y↔yr (yO ps X) x y
theorem Kr.nil:Kr ps [] id:=λx _ y _=>by
 constructor
 .intro e
  have:x=y:=e
  subst this
  exact .refl
 .intro r
  induction r with
  |refl=>rfl
  |step _ e _=>cases e
variable{X:List iF}{G:Str->Str}
theorem Kr.step(oX:∀u∈X,yg ps u=true)(ot:yg ps t=true)(pn:ps.Nodup)(h:Kr ps X G):
  (G t.one=G t.x8->Kr ps (X++[t]) G)/\(G t.one≠G t.x8->Kr ps (X++[t]) λp=>if G p=G t.x8 then G t.one else G p):=by
 have OP:∀u∈X++[t],yg ps u=true:=λu hu=>by
  rcases List.mem_append.mp hu with z|z
  .exact oX u z
  .rw[List.mem_singleton.mp z];exact ot
 have A:=Au oX
 have A':=Au OP
 have hm:∀u,u∈X++[t]↔u∈X\/u=t:=λu=>by rw[acr,List.mem_singleton]
 have up:∀{x y:Str},yr (yO ps X) x y->yr (yO ps (X++[t])) x y:=bx oX OP λu hu=>abo _ hu
 have te:yr (yO ps (X++[t])) t.one t.x8:=fx OP (by simp)
 obtain⟨o1,o2⟩:=yW.mp ot
 refine⟨λe x hx y hy=>(h x hx y hy).trans ⟨up,kW pn A A' hm ((h _ o1 _ o2).mp e)⟩,λe x hx y hy=>?_⟩
 constructor
 .intro q
  by_cases x1:G x=G t.x8<;>by_cases y1:G y=G t.x8
  .exact up ((h x hx y hy).mp (x1.trans y1.symm))
  .simp only[if_pos x1,if_neg y1]at q
   exact(up ((h x hx _ o2).mp x1)).trans ((A'.zV te).trans (up ((h _ o1 y hy).mp q)))
  .simp only[if_neg x1,if_pos y1]at q
   exact(up ((h x hx _ o1).mp q)).trans (te.trans (up ((h _ o2 y hy).mp y1.symm)))
  .simp only[if_neg x1,if_neg y1]at q
   exact up ((h x hx y hy).mp q)
 .intro r
  show (if G x=G t.x8 then G t.one else G x)=if G y=G t.x8 then G t.one else G y
  rcases dt A A' hm r with z|⟨z1,z2⟩|⟨z1,z2⟩
  .rw[(h x hx y hy).mpr z]
  .have a:=(h x hx _ o1).mpr z1
   have b:=(h _ o2 y hy).mpr z2
   rw[if_neg (by rw[a];exact e),if_pos b.symm,a]
  .have a:=(h x hx _ o2).mpr z1
   have b:=(h _ o1 y hy).mpr z2
   rw[if_pos a,if_neg (by rw[<- b];exact e),b]
theorem Kr.min(oX:∀u∈X,yg ps u=true)(oo:∀u∈os,yg ps u=true)(ot:yg ps t=true)(h:Kr ps X G)(hm:∀u,u∈X↔u∈below os t):G t.one≠G t.x8↔Min ps os t:=by
 obtain⟨o1,o2⟩:=yW.mp ot
 have oB:∀u∈below os t,yg ps u=true:=λu hu=>oo u (x9.mp hu).1
 unfold Min
 rw[Ne,h _ o1 _ o2]
 exact⟨λk r=>k (bx oB oX (λu hu=>(hm u).mpr hu) r),λk r=>k (bx oX oB (λu hu=>(hm u).mp hu) r)⟩
abbrev OZ:Str := "cheaper_first.<locals>.<lambda>"
abbrev Mc:Str := "dearest_of.<locals>.<lambda>"
def y9(T:Addr×Addr):PV:=.tup [yY Mc O0 O1 T.1,yY OZ Me Mf T.2]
open Classical in
noncomputable def zZ(ps:List Str)(os:List iF)(t:iF):Bool:=decide (Min ps os t)
noncomputable def AM(ps:List Str)(ts:List iF):List Str:=((ts.filter (yg ps)).filter (zZ ps (ts.filter (yg ps)))).map iF.nm
theorem zv:zZ ps os t=true↔Min ps os t:=by unfold zZ;simp
theorem nS:∀{a b:List Str},a.Perm b->a.Pairwise yL->b.Pairwise yL->a=b
 |[],b,p,_,_=>(List.nil_perm.mp p).symm
 |x::a,[],p,_,_=>by have:=p.length_eq;simp at this
 |x::a,y::b,p,ha,hb=>by
  have e:x=y:=abE λne=>by
   rw[List.pairwise_cons]at ha hb
   have h1:x∈b:=by
    rcases List.mem_cons.mp (p.mem_iff.mp aay)with z|z
    .exact absurd z ne
    .exact z
   have h2:y∈a:=by
    rcases List.mem_cons.mp (p.mem_iff.mpr aay)with z|z
    .exact absurd z.symm ne
    .exact z
   exact gL _ (eD (ha.1 y h2) (hb.1 x h1))
  subst e
  rw[nS (List.perm_cons _ |>.mp p) (List.pairwise_cons.mp ha).2 (List.pairwise_cons.mp hb).2]
def bg:Fd:=λxs P=>∃(ps:List Str) (ts:List iF),xs=[iN ps ts]/\ts.length<=1000/\(ts.map iF.nm).Nodup/\P (.yw (ts.map λt=>(aan t.nm,aT t)))
def dH:Fd:=λxs P=>∃(ps:List Str) (ts:List iF),xs=[iN ps ts]/\ts.length<=1000/\(ts.map iF.nm).Nodup/\P (.yw (ts.map λt=>(aan t.nm,.tup [.int t.cost,.str t.nm])))
def bN(T:Addr×Addr):BO:=λc xs P=>c=y9 T/\∃(ps:List Str) (ts us:List iF),xs=[iN ps ts,.tup ((us.map iF.nm).map .str)]/\ts.length<=1000/\(ts.map iF.nm).Nodup/\us.length<64/\(us.map iF.nm).Nodup/\(∀u∈us,u∈ts) /\
 ∀vs:List iF,vs.Perm us->vs.Pairwise zP->P (.lst ((vs.map iF.nm).map .str)) (y9 T)
def bK:Fd:=λxs P=>∃(ps:List Str) (ts vs:List iF),xs=[iN ps ts,.lst ((vs.map iF.nm).map .str)]/\Ax ps ts/\ps.length<=60/\ts.length<=60/\vs.Perm (ts.filter (yg ps))/\vs.Pairwise zP/\P (.tup ((AM ps ts).map .str))
def dB(T:Addr×Addr):BO:=λc xs P=>c=y9 T/\∃(ps:List Str) (ts:List iF),xs=[iN ps ts]/\Ax ps ts/\ps.length<=60/\ts.length<=60/\P (.tup ((AM ps ts).map .str)) (y9 T)
variable{α:Type}
theorem dy{g:WG}{fk ff:WE}{js:List (Option Nat)}{P:PV->En->Prop}{env:En}(f:α->Str)(v:α->PV)(X:α->PV):∀{l done:List α},((done++l).map f).Nodup ->
  (∀a∈l,∀R:PV->PV->En->Prop,R (.str (f a)) (v a) env->g (X a) (C9 js env) λb1=>fk b1 λkk b3=>ff b3 λy b4=>R kk y (yZ js env b4))->done.length+l.length<=100000 ->
  P (.yw ((done++l).map λx=>((aan (f x):Key),v x))) env->Bu g E8 fk ff js P (l.map X) env (done.map λx=>((aan (f x):Key),v x))
 |[],done,_,_,_,k=>by rw[abb]at k;exact k
 |a::l,done,nd,h,hl,k=>by
  have Fk:done.length+l.length+1<=100000:=by simpa[acX]using hl
  rw[aau]
  simp only[Bu,E8,if_true]
  refine h a (by simp) (λkk y e=>(done.map λx=>((aan (f x):Key),v x)).length<=100000/\opt (A7 kk) λkey=>Bu g E8 fk ff js P (l.map X) e (AL (done.map λx=>((aan (f x):Key),v x)) key y)) ⟨by rw[aae];omega,ae (z:=aan (f a)) rfl ?_⟩
  have hn:f a∉done.map f:=λz=>by
   rw[aaW,adq]at nd
   exact nd.2.2 _ z _ (by simp) rfl
  rw[iL hn]
  have e:(done.map λx=>((aan (f x):Key),v x))++[(aan (f a),v a)]=(done++[a]).map λx=>((aan (f x):Key),v x):=by rw[aaW];rfl
  rw[e]
  refine dy f v X (by rwa [aez]) (λb hb=>h b (aar _ hb)) (by simp;omega) ?_
  rw[aez];exact k
def Ends(t:iF)(a c:Str):Prop:=(t.one=a/\t.x8=c)\/(t.x8=a/\t.one=c)
def Wk(os:List iF):Str->List Str->Str->Prop
 |a,[],b=>a=b
 |a,n::ns,b=>∃t∈os,t.nm=n/\∃c,Ends t a c/\Wk os c ns b
variable{a c:Str}
theorem Ends.sym(h:Ends t a c):Ends t c a:=by
 rcases h with ⟨h1,h2⟩|⟨h1,h2⟩
 .exact .inr ⟨h2,h1⟩
 .exact .inl ⟨h2,h1⟩
theorem Ends.one{d:Str}(hn:t.one≠t.x8)(h:Ends t a c)(k:Ends t a d):c=d:=by
 rcases h with ⟨h1,h2⟩|⟨h1,h2⟩<;>rcases k with ⟨k1,k2⟩|⟨k1,k2⟩
 .exact h2.symm.trans k2
 .exact absurd (h1.trans k1.symm) hn
 .exact absurd (k1.trans h1.symm) hn
 .exact h2.symm.trans k2
theorem Ends.two{e f:Str}(h:Ends t a c)(k:Ends t e f):(e=a/\f=c)\/(e=c/\f=a):=by
 rcases h with ⟨h1,h2⟩|⟨h1,h2⟩<;>rcases k with ⟨k1,k2⟩|⟨k1,k2⟩
 .exact .inl ⟨k1.symm.trans h1,k2.symm.trans h2⟩
 .exact .inr ⟨k1.symm.trans h2,k2.symm.trans h1⟩
 .exact .inr ⟨k1.symm.trans h2,k2.symm.trans h1⟩
 .exact .inl ⟨k1.symm.trans h1,k2.symm.trans h2⟩
theorem iB{n:Str}:∀{l:List Str},n∈l->∃p q,l=p++n::q/\n∉p
 |x::l,h=>by
  by_cases e:x=n
  .exact⟨[],l,by rw[e];rfl,by simp⟩
  .obtain⟨p,q,rfl,hp⟩:=iB ((List.mem_cons.mp h).resolve_left λz=>e z.symm)
   exact⟨x::p,q,rfl,λz=>by rcases List.mem_cons.mp z with z|z;exact e z.symm;exact hp z⟩
theorem Wk.app:∀{ns ms:List Str} {a b c:Str},Wk os a ns b->Wk os b ms c->Wk os a (ns++ms) c
 |[],_,_,_,_,h,k=>by cases h;exact k
 |n::ns,_,_,_,_,⟨t,ht,e,c,q,h⟩,k=>⟨t,ht,e,c,q,h.app k⟩
theorem Wk.rev:∀{ns:List Str} {a b:Str},Wk os a ns b->Wk os b ns.reverse a
 |[],_,_,h=>Eq.symm h
 |n::ns,a,_,⟨t,ht,e,c,q,h⟩=>by
  rw[List.reverse_cons]
  exact h.rev.app ⟨t,ht,e,a,q.sym,rfl⟩
theorem Wk.cut:∀{ns ms:List Str} {a c:Str},Wk os a (ns++ms) c->∃b,Wk os a ns b/\Wk os b ms c
 |[],_,a,_,h=>⟨a,rfl,h⟩
 |n::ns,_,_,_,⟨t,ht,e,c,q,h⟩=>by
  obtain⟨b,h1,h2⟩:=h.cut
  exact⟨b,⟨t,ht,e,c,q,h1⟩,h2⟩
theorem Wk.mem:∀{ns:List Str} {a b:Str},Wk os a ns b->∀n∈ns,∃t∈os,t.nm=n
 |n::ns,_,_,⟨t,ht,e,c,q,h⟩,m,hm=>by
  rcases List.mem_cons.mp hm with rfl|hm
  .exact⟨t,ht,e⟩
  .exact h.mem m hm
def Nf(os:List iF):Prop:=∀a n ns,Wk os a (n::ns) a->n∉ns->False
theorem pY(nd:(os.map iF.nm).Nodup)(ne:∀t∈os,t.one≠t.x8)(ac:Nf os):∀{ns ms:List Str} {a b:Str},Wk os a ns b->Wk os a ms b->ns.Nodup->ms.Nodup->ns=ms
 |[],[],_,_,_,_,_,_=>rfl
 |[],m::ms,a,_,h,k,_,d=>by cases h;exact(ac a m ms k (List.nodup_cons.mp d).1).elim
 |n::ns,[],a,_,h,k,d,_=>by cases k;exact(ac a n ns h (List.nodup_cons.mp d).1).elim
 |n::ns,m::ms,a,b,h,k,d1,d2=>by
  have h0:=h
  have k0:=k
  obtain⟨t,ht,e1,c,q1,h⟩:=h
  obtain⟨u,hu,e2,d,q2,k⟩:=k
  obtain⟨n1,n2⟩:=List.nodup_cons.mp d1
  obtain⟨m1,m2⟩:=List.nodup_cons.mp d2
  by_cases e:m=n
  .have:t=u:=ba nd ht hu (e1.trans (e.symm.trans e2.symm))
   subst this
   have:c=d:=q1.one (ne t ht) q2
   subst this
   rw[e,pY nd ne ac h k n2 m2]
  .exfalso
   by_cases hn:n∈ms
   .obtain⟨p,q,rfl,np⟩:=iB hn
    obtain⟨x,w1,w2⟩:=(show Wk os a ((m::p)++n::q) b from k0).cut
    obtain⟨t',JH,e3,f,q3,_⟩:=w2
    have:t=t':=ba nd ht JH (e1.trans e3.symm)
    subst this
    rcases q1.two q3 with ⟨rfl,_⟩|⟨rfl,_⟩
    .exact ac _ m p w1 λz=>m1 (abo _ z)
    .refine ac a n (m::p).reverse ⟨t,ht,e1,_,q1,w1.rev⟩ λz=>?_
     rw[List.mem_reverse,aaK]at z
     rcases z with z|z
     .exact e z.symm
     .exact np z
   .refine ac a n (ns++(m::ms).reverse) ⟨t,ht,e1,c,q1,h.app k0.rev⟩ λz=>?_
    rw[acr,List.mem_reverse,aaK]at z
    rcases z with z|z|z
    .exact n1 z
    .exact e z.symm
    .exact hn z
theorem fN(G:AY ps os g):∀{ns:List Str} {a b:Str},Wk os a ns b->yr g a b
 |[],_,_,h=>by cases h;exact .refl
 |n::ns,a,b,⟨t,ht,e,c,q,h⟩=>yr.trans (.step .refl ((G.mem _ _ _).mpr ⟨t,ht,e.symm,q⟩)) (fN G h)
noncomputable def x4(ps:List Str)(ts:List iF):List iF:=(ts.filter (yg ps)).filter (zZ ps (ts.filter (yg ps)))
theorem aN(h:t∈x4 ps ts):t∈ts/\yg ps t=true/\zZ ps (ts.filter (yg ps)) t=true:=by
 obtain⟨h1,h2⟩:=List.mem_filter.mp h
 obtain⟨h3,h4⟩:=List.mem_filter.mp h1
 exact⟨h3,h4,h2⟩
theorem cz:∀t∈x4 ps ts,yg ps t=true:=λt h=>(aN h).2.1
theorem dC(ps:List Str)(ts:List iF):AM ps ts=(x4 ps ts).map iF.nm:=rfl
theorem iA(ps:List Str)(ts:List iF):(x4 ps ts).length<=ts.length:=aaZ (aa5 _ _) (aa5 _ _)
theorem jc(nd:(ts.map iF.nm).Nodup):ts.filter (zX (AM ps ts))=x4 ps ts:=by
 unfold x4
 rw[acK]
 refine abV λu hu=>?_
 rw[aaL,B6,aa2]
 constructor
 .intro h
  obtain⟨v,hv,e⟩:=List.mem_map.mp (dC ps ts ▸ h)
  obtain⟨v1,v2,v3⟩:=aN hv
  rw[<- ba nd v1 hu e]
  exact⟨v3,v2⟩
 .rintro⟨h1,h2⟩
  rw[dC]
  exact List.mem_map.mpr ⟨u,List.mem_filter.mpr ⟨List.mem_filter.mpr ⟨hu,h2⟩,h1⟩,rfl⟩
theorem dZ(nd:(ts.map iF.nm).Nodup):((x4 ps ts).map iF.nm).Nodup:=nd.sublist ((List.filter_sublist.trans abY).map _)
theorem vG{d:iF}(hd:d∈L)(h:zP t d):(L.filter λu=>decide (zP d u)).length<(L.filter λu=>decide (zP t u)).length:=by
 have s:(L.filter λu=>decide (zP d u)).Sublist (L.filter λu=>decide (zP t u)):=fA λx _ q=>decide_eq_true (eS h (of_decide_eq_true q))
 rcases aa4 (L.filter λu=>decide (zP d u)).length (L.filter λu=>decide (zP t u)).length with z|z
 .exact z
 .have e:=s.eq_of_length_le z
  have m:d∈L.filter λu=>decide (zP t u):=List.mem_filter.mpr ⟨hd,decide_eq_true h⟩
  rw[<- e]at m
  exact absurd (of_decide_eq_true (List.mem_filter.mp m).2) (bG _)
theorem dP(nd:(ts.map iF.nm).Nodup):∀(n:Nat) (t:iF),t∈x4 ps ts->((x4 ps ts).filter λu=>decide (zP t u)).length<n->¬ yr (yO ps (less (x4 ps ts) t)) t.one t.x8
 |0,_,_,h=>by omega
 |n+1,t,ht,h=>by
  intro r
  have tn:=dZ (ps:=ps) nd
  have oL:∀u∈x4 ps ts,yg ps u=true:=cz
  have oB:∀u∈below (x4 ps ts) t,u∈x4 ps ts:=λu hu=>(x9.mp hu).1
  have hne:∀u∈x4 ps ts,∀d∈x4 ps ts,zP u d->u.nm≠d.nm:=λu hu d hd c e=>by
   have:=ba tn hu hd e
   subst this
   exact bG _ c
  have r2:yr (yO ps (below (x4 ps ts) t++(x4 ps ts).filter λu=>decide (zP t u))) t.one t.x8:=by
   refine bx (λu hu=>oL u (ya.mp hu).1) (λu hu=>?_) (λu hu=>?_) r
   .rcases List.mem_append.mp hu with z|z
    .exact oL u (oB u z)
    .exact oL u (List.mem_filter.mp z).1
   .obtain⟨u1,u2⟩:=ya.mp hu
    rcases oQ u2 with z|z
    .exact abo _ (x9.mpr ⟨u1,z⟩)
    .exact aat _ (List.mem_filter.mpr ⟨u1,decide_eq_true z⟩)
  have r3:=iJ oL ht oB _ (tn.sublist (List.filter_sublist.map _)) (λd hd=>by
   obtain⟨d1,d2⟩:=List.mem_filter.mp hd
   have d2:=of_decide_eq_true d2
   refine⟨d1,λu hu=>?_,hne t ht d d1 d2,dP nd n d d1 ?_⟩
   .obtain⟨u1,u2⟩:=x9.mp hu
    exact hne u u1 d d1 (eS u2 d2)
   .have:=vG d1 d2
    omega) r2
  have mn:=zv.mp (aN ht).2.2
  refine mn (bx (λu hu=>oL u (oB u hu)) (λu hu=>(List.mem_filter.mp (x9.mp hu).1).2) (λu hu=>?_) r3)
  obtain⟨u1,u2⟩:=x9.mp hu
  exact x9.mpr ⟨(List.mem_filter.mp u1).1,u2⟩
theorem gC:∀{ns:List Str} {a b:Str},Wk os a ns b->t.nm∉ns->Wk (less os t) a ns b
 |[],_,_,h,_=>h
 |n::ns,a,b,⟨u,hu,e,c,q,h⟩,hn=>by
  rw[aaK,not_or]at hn
  exact⟨u,ya.mpr ⟨hu,λz=>hn.1 (z ▸ e)⟩,e,c,q,gC h hn.2⟩
theorem qd(nd:(ts.map iF.nm).Nodup):Nf (x4 ps ts):=by
 rintro a n ns ⟨t,ht,e,c,q,w⟩ hn
 have oL:∀u∈less (x4 ps ts) t,yg ps u=true:=λu hu=>cz u (ya.mp hu).1
 have r:=fN (Au oL) (gC w (e ▸ hn))
 refine dP nd _ t ht (abu _) ?_
 rcases q with ⟨rfl,rfl⟩|⟨rfl,rfl⟩
 .exact(Au oL).zV r
 .exact r
theorem qj(nd:(ts.map iF.nm).Nodup):Bz ps (AM ps ts) ts=x4 ps ts:=by
 unfold Bz
 rw[ls,jc nd]
 exact List.filter_eq_self.mpr cz
variable{ns:List Str}
theorem vV{b:Str}(w:Wk os a ns b)(d:ns.Nodup):ns.length<=os.length:=by
 have:=bu d λn hn=>(by obtain⟨t,ht,e⟩:=w.mem n hn;exact List.mem_map.mpr ⟨t,ht,e⟩:n∈os.map iF.nm)
 rwa [aae]at this
theorem di(oX:∀u∈X,yg ps u=true)(sym:∀{x y},yr g x y->yr g y x)(h:∀u∈X,yr g u.one u.x8)(r:yr (yO ps X) x y):yr g x y:=by
 induction r with
 |refl=>exact .refl
 |step _ e ih=>
  obtain⟨t,ht,_,z⟩:=((Au oX).mem _ _ _).mp e
  rcases z with ⟨rfl,rfl⟩|⟨rfl,rfl⟩
  .exact ih.trans (h t ht)
  .exact ih.trans (sym (h t ht))
noncomputable def upTo(ps:List Str)(os:List iF)(u:iF):List iF:=os.filter λv=>zZ ps os v && !decide (zP u v)
theorem zr:v∈upTo ps os u↔v∈os/\zZ ps os v=true/\¬ zP u v:=by
 unfold upTo
 rw[ac3,aa2,aeC,decide_eq_false_iff_not]
theorem tS(hv:v∈below os u):(below os v).length<(below os u).length:=by
 have s:(below os v).Sublist (below os u):=fA λx _ h=>decide_eq_true (eS (of_decide_eq_true h) (x9.mp hv).2)
 rcases aa4 (below os v).length (below os u).length with z|z
 .exact z
 .have e:=s.eq_of_length_le z
  rw[<- e]at hv
  exact absurd (x9.mp hv).2 (bG _)
theorem iV(oo:∀u∈os,yg ps u=true):∀(n:Nat) (u:iF),u∈os->(below os u).length<n->yr (yO ps (upTo ps os u)) u.one u.x8
 |0,_,_,h=>by omega
 |n+1,u,hu,h=>by
  have oU:∀v∈upTo ps os u,yg ps v=true:=λv hv=>oo v (zr.mp hv).1
  by_cases hm:Min ps os u
  .exact fx oU (zr.mpr ⟨hu,zv.mpr hm,bG u⟩)
  .have r:yr (yO ps (below os u)) u.one u.x8:=abE hm
   refine di (λv hv=>oo v (x9.mp hv).1) (λr=>(Au oU).zV r) (λv hv=>?_) r
   have hb:=x9.mp hv
   have ih:=iV oo n v hb.1 (by have:=tS hv;omega)
   exact bx (λw hw=>oo w (zr.mp hw).1) oU (λw hw=>by
    obtain⟨a,b,c⟩:=zr.mp hw
    exact zr.mpr ⟨a,b,λz=>c (eS hb.2 z)⟩) ih
theorem kJ(ps:List Str)(ts:List iF):yO ps (ts.filter (yg ps))=yO ps ts:=by
 funext p
 unfold yO
 rw[acK]
 simp only[Bool.and_self]
def EU(ts:List iF)(t:iF):List iF:=ts.filter λu=>decide (u.nm≠t.nm) && decide (zP u t)
noncomputable def Hy(ps:List Str)(ts:List iF)(t:iF):List Str:=((x4 ps ts).filter λu=>decide (zP u t)).map iF.nm
structure DR(ps:List Str)(ts:List iF)(one x8:Str)(ns:List Str)(t:iF):Prop where
 w:Wk (x4 ps ts) one ns x8
 nd:ns.Nodup
 ht:t∈x4 ps ts
 hn:t.nm∈ns
 mx:∀u∈x4 ps ts,u.nm∈ns->u.nm≠t.nm->zP u t
theorem Bl:u∈EU ts t↔u∈ts/\u.nm≠t.nm/\zP u t:=by
 unfold EU
 rw[ac3,aa2,decide_eq_true_eq,decide_eq_true_eq]
theorem mW(nd:(ts.map iF.nm).Nodup)(hu:u∈ts)(ht:t∈ts)(c:zP u t):u.nm≠t.nm:=λe=>by
 have:=ba nd hu ht e
 subst this
 exact bG _ c
theorem KC(r:yr (yO ps X) x y):yr (yO ps X) y x:=(eU ps X).zV r
theorem cm{Y:List iF}(h:∀u∈X,yg ps u=true->u∈Y)(r:yr (yO ps X) x y):yr (yO ps Y) x y :=
 cP (eU ps X) (eU ps Y) (λu hu=>by
  obtain⟨a,b⟩:=List.mem_filter.mp hu
  exact List.mem_filter.mpr ⟨h u a b,b⟩) r
theorem ER{n:Str}:n∈Hy ps ts t↔∃u∈x4 ps ts,zP u t/\u.nm=n:=by
 unfold Hy
 rw[List.mem_map]
 constructor
 .rintro⟨u,hu,e⟩
  obtain⟨a,b⟩:=List.mem_filter.mp hu
  exact⟨u,a,of_decide_eq_true b,e⟩
 .rintro⟨u,a,b,e⟩
  exact⟨u,List.mem_filter.mpr ⟨a,decide_eq_true b⟩,e⟩
theorem mz(nd:(ts.map iF.nm).Nodup)(hu:u∈ts.filter (zX (Hy ps ts t))):u∈x4 ps ts/\zP u t:=by
 obtain⟨a,b⟩:=List.mem_filter.mp hu
 obtain⟨v,hv,c,e⟩:=ER.mp (B6.mp b)
 have:=ba nd (aN hv).1 a e
 subst this
 exact⟨hv,c⟩
theorem u5(nd:(ts.map iF.nm).Nodup)(ht:t∈ts):yr (yO ps (ts.filter (zX (Hy ps ts t)))) x y↔yr (yO ps (EU ts t)) x y:=by
 constructor
 .refine cm λu hu _=>?_
  obtain⟨a,b⟩:=mz nd hu
  exact Bl.mpr ⟨(aN a).1,mW nd (aN a).1 ht b,b⟩
 .intro r
  rw[<- kJ]at r
  refine di (λu hu=>(List.mem_filter.mp hu).2) KC (λu hu=>?_) r
  obtain⟨a,b⟩:=List.mem_filter.mp hu
  obtain⟨a1,_,a3⟩:=Bl.mp a
  have oo:∀u∈ts.filter (yg ps),yg ps u=true:=λu hu=>(List.mem_filter.mp hu).2
  have:=iV oo _ u (List.mem_filter.mpr ⟨a1,b⟩) (abu _)
  refine cm (λv hv _=>?_) this
  obtain⟨v1,v2,v3⟩:=zr.mp hv
  have vt:v∈x4 ps ts:=List.mem_filter.mpr ⟨v1,v2⟩
  refine List.mem_filter.mpr ⟨(List.mem_filter.mp v1).1,B6.mpr (ER.mpr ⟨v,vt,?_,rfl⟩)⟩
  by_cases e:v.nm=u.nm
  .have:=ba nd (List.mem_filter.mp v1).1 a1 e
   subst this;exact a3
  .exact eS ((oQ e).resolve_right v3) a3
theorem FO:yr (yO ps (x4 ps ts)) x y↔yr (yO ps ts) x y:=by
 constructor
 .exact cm λu hu _=>(aN hu).1
 .intro r
  rw[<- kJ]at r
  have oo:∀u∈ts.filter (yg ps),yg ps u=true:=λu hu=>(List.mem_filter.mp hu).2
  refine di oo KC (λu hu=>?_) r
  refine cm (λv hv _=>?_) (iV oo _ u hu (abu _))
  obtain⟨v1,v2,v3⟩:=zr.mp hv
  exact List.mem_filter.mpr ⟨v1,v2⟩
theorem DR.no{one x8:Str}(nd:(ts.map iF.nm).Nodup)(d:DR ps ts one x8 ns t):¬ yr (yO ps (EU ts t)) one x8:=by
 intro r
 have r:=(u5 nd (aN d.ht).1).mpr r
 have tn:=dZ (ps:=ps) nd
 have r2:yr (yO ps (less (x4 ps ts) t)) one x8:=cm (λu hu _=>by
  obtain⟨a,b⟩:=mz nd hu
  exact ya.mpr ⟨a,mW nd (aN a).1 (aN d.ht).1 b⟩) r
 obtain⟨p,q,rfl,hp⟩:=iB d.hn
 obtain⟨x,w1,t',JH,e',y,q',w2⟩:=d.w.cut
 have:t'=t:=ba tn JH d.ht e'
 subst this
 have hq:t'.nm∉q:=λz=>by
  have:=(List.nodup_append.mp d.nd).2.1
  exact(List.nodup_cons.mp this).1 z
 have oL:∀u∈less (x4 ps ts) t',yg ps u=true:=λu hu=>cz u (ya.mp hu).1
 have s1:=fN (Au oL) (gC w1 hp)
 have s2:=fN (Au oL) (gC w2 hq)
 have s3:yr (yO ps (less (x4 ps ts) t')) x y:=((KC s1).trans r2).trans (KC s2)
 refine dP nd _ t' d.ht (abu _) ?_
 rcases q' with ⟨rfl,rfl⟩|⟨rfl,rfl⟩
 .exact s3
 .exact KC s3
theorem pX{CD:List iF}:∀{ns:List Str} {a b:Str},(∀u∈os,u.nm∈ns->u∈CD)->Wk os a ns b->Wk CD a ns b
 |[],_,_,_,h=>h
 |n::ns,a,b,k,⟨u,hu,e,c,q,h⟩=>⟨u,k u hu (by rw[e];exact aay),e,c,q,pX (λv hv hn=>k v hv (aar _ hn)) h⟩
def Gq(G:Str->Str)(t:iF):Str->Str:=λp=>if G p=G t.x8 then G t.one else G p
def Af(us:List iF):Str->Str:=us.foldl Gq id
theorem qS(us:List iF)(t:iF):Af (us++[t])=Gq (Af us) t:=by
 unfold Af
 rw[ads];rfl
theorem Kr.Gq(oX:∀u∈X,yg ps u=true)(ot:yg ps t=true)(pn:ps.Nodup)(h:Kr ps X G):Kr ps (X++[t]) (Gq G t):=by
 by_cases e:G t.one=G t.x8
 .have:Pre.Gq G t=G:=by
   funext p
   unfold Pre.Gq
   by_cases z:G p=G t.x8
   .rw[if_pos z,e,z]
   .rw[if_neg z]
  rw[this]
  exact(Kr.step oX ot pn h).1 e
 .exact(Kr.step oX ot pn h).2 e
theorem om(pn:ps.Nodup):∀{us X:List iF} {G:Str->Str},(∀u∈X++us,yg ps u=true)->Kr ps X G->Kr ps (X++us) (us.foldl Gq G)
 |[],X,G,_,h=>by rw[abb];exact h
 |t::us,X,G,o,h=>by
  have e:X++t::us=(X++[t])++us:=by simp
  rw[e]at o ⊢
  exact om pn (X:=X++[t]) o (h.Gq (λu hu=>o u (by simp[hu])) (o t (by simp)) pn)
variable{us:List iF}
theorem mF(pn:ps.Nodup)(o:∀u∈us,yg ps u=true):Kr ps us (Af us):=om (X:=[]) pn o Kr.nil
theorem je[DecidableEq iF]:∀{L os:List iF},L.Sublist os->os.Nodup->L=os.filter λu=>decide (u∈L):=by
 intro L os h
 induction h with
 |slnil=>intro _;rfl
 |@cons l₁ l₂ a s ih=>
  intro nd
  rw[ac2]at nd
  rw[List.filter_cons_of_neg (by simpa using λz=>nd.1 (s.subset z))]
  exact ih nd.2
 |@cons_cons l₁ l₂ a s ih=>
  intro nd
  rw[ac2]at nd
  rw[List.filter_cons_of_pos (by simp)]
  congr 1
  refine(ih nd.2).trans (abV λu hu=>?_)
  rw[decide_eq_decide,aaK]
  exact⟨.inr,λz=>z.resolve_left λe=>nd.1 (e ▸ hu)⟩
theorem wa{M:List iF}(nd:os.Nodup)(h1:L.Sublist os)(h2:M.Sublist os)(e:∀u,u∈L↔u∈M):L=M:=by
 classical
 rw[je h1 nd,je h2 nd]
 exact abV λu _=>by rw[decide_eq_decide];exact e u
theorem rY(pn:ps.Nodup):x4 ps ts=(ts.filter (yg ps)).filter λt=>!decide (Af (below (ts.filter (yg ps)) t) t.one=Af (below (ts.filter (yg ps)) t) t.x8):=by
 unfold x4
 refine abV λt ht=>?_
 have oo:∀u∈below (ts.filter (yg ps)) t,yg ps u=true:=λu hu=>(List.mem_filter.mp (x9.mp hu).1).2
 obtain⟨o1,o2⟩:=yW.mp (List.mem_filter.mp ht).2
 rw[aaL,zv,aeC,decide_eq_false_iff_not]
 unfold Min
 rw[mF pn oo _ o1 _ o2]
def i0:Fd:=λxs P=>∃(ps ns:List Str) (ts:List iF),(xs=[iN ps ts,.tup (ns.map .str)]\/xs=[iN ps ts,.lst (ns.map .str)])/\ts.length<=1000/\ns.length<=1000/\P (iN ps (ts.filter (zX ns)))
def kK:Fd:=λxs P=>∃(ps:List Str) (ts:List iF) (fs:List Str) (one x8:Str),xs=[iN ps ts,.tup (fs.map .str),.str one,.str x8]/\Nt ps ts/\(ts.map iF.nm).Nodup/\fs.length<=1000/\one∈ps/\x8∈ps /\
 (¬ yr (yO ps (ts.filter (zX fs))) x8 one->P .lT)/\∀ns:List Str,Wk (Bz ps fs ts) one ns x8->ns.Nodup->ns.length<=1000->P (.tup (ns.map .str))
def Top(us:List iF)(t:iF):Prop:=t∈us/\∀u∈us,u.nm≠t.nm->zP u t
def cx(T:Addr×Addr):BO:=λc xs P=>c=y9 T/\∃(ps:List Str) (ts us:List iF),xs=[iN ps ts,.tup ((us.map iF.nm).map .str)]/\ts.length<=1000/\(ts.map iF.nm).Nodup/\us.length<64/\(us.map iF.nm).Nodup/\(∀u∈us,u∈ts)/\us≠[] /\
 ∀t,Top us t->P (.str t.nm) (y9 T)
def Tr:Nat->PV->Prop
 |0,_=>False
 |d+1,x=>(∃s,x=.str s)\/(∃n,x=.int n)\/x=.lT\/∃l,x=.tup l/\l.length<=1000/\∀y∈l,Tr d y
def g0:Fd:=λxs P=>∃t:iF,xs=[aT t]/\P (.tup [.int t.cost,.str t.nm])
def cO:Fd:=λxs P=>∃(ps:List Str) (us:List iF),xs=[.tup (ps.map .str),.lst (us.map aT)]/\ps.Nodup/\ps.length<=60/\us.length<=60/\(∀t∈us,yg ps t=true)/\P (yN ps (Af us))
def i7:Fd:=λxs P=>∃(ps:List Str) (ts:List iF),xs=[iN ps ts]/\Ax ps ts/\ps.length<=60/\ts.length<=60/\P (.lst ((x4 ps ts).map aT))
instance Ou:DecidableEq iF:=λa b=>decidable_of_iff (a.nm=b.nm/\a.one=b.one/\a.x8=b.x8/\a.cost=b.cost) ⟨λh=>by
 cases a
 cases b
 obtain⟨h1,h2,h3,h4⟩:=h
 cases h1;cases h2;cases h3;cases h4;rfl,λh=>by subst h;exact⟨rfl,rfl,rfl,rfl⟩⟩
def gB:Fd:=λxs P=>∃a,xs=[a,a]/\Tr 1 a/\P (.bl true)
def i8:Fd:=λxs P=>∃a,xs=[a,a]/\Tr 2 a/\P (.bl true)
def lim(n:Str)(d:iF):Int:=if decide (yL n d.nm)=true then d.cost else d.cost - 1
def cZ(t d:iF):PV:=.tup [.str "comes",.int (lim t.nm d),.str d.nm]
structure Out(ps:List Str)(ts:List iF)(t:iF):Prop where
 ok:Ax ps ts
 pl:ps.length<=60
 tl:ts.length<=60
 mem:t∈ts
 yg:yg ps t=true
 out:t∉x4 ps ts
def bM:Fd:=λxs P=>∃(ps:List Str) (ts:List iF) (n:Str) (d:iF),xs=[iN ps ts,.str n,.str d.nm]/\ts.length<=1000/\(ts.map iF.nm).Nodup/\d∈ts/\P (.int (lim n d))
def bE(T:Addr×Addr):BO:=λc xs P=>c=y9 T/\∃(ps:List Str) (ts:List iF) (t:iF),xs=[iN ps ts,.tup ((AM ps ts).map .str),aT t]/\Out ps ts t/\∀ns d,DR ps ts t.one t.x8 ns d->P (cZ t d) (y9 T)
def cN(T:Addr×Addr):BO:=λc xs P=>c=y9 T/\∃(ps:List Str) (ts:List iF) (t:iF),xs=[iN ps ts,.str t.nm]/\Out ps ts t/\∀ns d,DR ps ts t.one t.x8 ns d->P (cZ t d) (y9 T)
def dJ:Fd:=λxs P=>∃(n:Str) (d:iF),xs=[.str n,aT d]/\n≠d.nm/\P (.int (lim n d))
def dY:Fd:=λxs P=>∃(ps:List Str) (ts:List iF) (t:iF),xs=[iN ps ts,.lst ((x4 ps ts).map aT),aT t]/\Out ps ts t/\∃ns d,DR ps ts t.one t.x8 ns d/\P (aT d)
def fI:Fd:=λxs P=>∃(ps:List Str) (ts:List iF) (t:iF),xs=[iN ps ts,.lst ((x4 ps ts).map aT),aT t]/\Out ps ts t/\∃ns d,DR ps ts t.one t.x8 ns d/\P (cZ t d)
def cK:Fd:=λ_ _=>False
def jK:Fd:=λ_ _=>False
def dL:WS :=
  (ym (Ex (x5 A8 (x5 lE (eV 1) (eC (.int 1))) (x5 lE (eV 0) (eC (.int 0)))) (x5 A8 (x5 lE (eV 1) (eC (.int 2))) (x5 lE (eV 0) (eC (.int 0))))))
def bS:WS :=
  (ym (HR (iS (x5 lE (eV 0) (eC (.int 1)))) (.nm 0) E8 (x5 lE (eV 0) (eC (.int 0))) (eV 0) [none]))
def cF:WS :=
  (ym (Cg bW (aS (HQ (iS (x5 lE (eV 0) (eC (.int 1)))) (.nm 0) (BU (yu bR (aS (eV 1) (aS (eV 0) iD)))) (x5 lE (eV 0) (eC (.int 0))) [none,some 0]) iD)))
def fQ:WS :=
  (ym (HR (iS (x5 lE (eV 0) (eC (.int 1)))) (.nm 0) E8 (x5 lE (eV 0) (eC (.int 0))) (zc (aS (x5 lE (eV 0) (eC (.int 3))) (aS (x5 lE (eV 0) (eC (.int 0))) iD))) [none]))
def ci(T:Addr×Addr):WS :=
  (oR (yz 2 (yu dH (aS (eV 0) iD)))
  (ym (Eu 3 2 "dearest_of.<locals>.<lambda>" 15 26 T.1 (eV 1))))
def bJ(T:Addr×Addr):WS :=
  (oR (yz 2 (yu dH (aS (eV 0) iD)))
  (ym (kG 3 2 "cheaper_first.<locals>.<lambda>" 21 29 T.2 (eV 1))))
def bH:WS :=
  (oR (yz 2 (yu bg (aS (eV 0) iD)))
  (oR (zU 3 (HR (iS (x5 lE (eV 0) (eC (.int 0)))) (.nm 0) E8 (eV 0) (eV 0) [none]))
  (oR (zU 4 (Cv iD))
  (oR (A0 (iS (eV 1)) (gN 5) (oR (yz 6 (x5 lE (eV 2) (y8 5)))
  (oR (Gf (zc (aS (Bs lE 3 (x5 lE (eV 6) (eC (.int 1)))) (aS (Bs lE 3 (x5 lE (eV 6) (eC (.int 2)))) iD))) (gT (yX (gN 7) (yX (gN 8) BD))))
  (AX (yl (x5 Eg (eV 7) (y8 8))) (oR (A3 (FG br 4 (aS (eV 5) iD)))
  (zU 3 (HR (ko 3) (.tp [0,1]) E8 (eV 0) (NX (yl (x5 yU (eV 1) (y8 3))) (eV 2) (eV 1)) [none,none,some 7,some 8]))) zh))))
  (ym (Cg bW (aS (AV (a1 (y8 4))) iD)))))))
def da(T:Addr×Addr):WS :=
  (ym (yu bK (aS (eV 0) (aS (zd (bN T) 1 (aS (eV 0) (aS (yu cJ (aS (eV 0) iD)) iD))) iD))))
def cg:WS :=
  (oR (jW 1 (iS (x5 lE (eV 0) (eC (.int 0)))))
  (oR (A0 (iS (x5 lE (eV 0) (eC (.int 1)))) (gN 2) (AX (BU (yu bR (aS (eV 0) (aS (eV 2) iD)))) (oR (d0 1 (x5 lE (eV 2) (eC (.int 1))) (zc (aS (x5 lE (eV 2) (eC (.int 0))) (aS (x5 lE (eV 2) (eC (.int 2))) iD))))
  (d0 1 (x5 lE (eV 2) (eC (.int 2))) (zc (aS (x5 lE (eV 2) (eC (.int 0))) (aS (x5 lE (eV 2) (eC (.int 1))) iD))))) zh))
  (jV 1)))
def dM:WS :=
  (oR (zU 2 (IA (((eV 1),(eC .lT))::[])))
  (oR (zU 3 (Cv (aS (eV 1) iD)))
  (oR (Bi (BU (y8 3)) (oR (yz 4 (FG Hx 3 iD))
  (A0 (iS (x5 lE (eV 0) (y8 4))) (gT (yX (gN 5) (yX (gN 6) BD))) (AX (yl (x5 AD (eV 6) (y8 2))) (oR (FZ 2 (zc (aS (eV 5) (aS (eV 4) iD))) (eV 6))
  (A3 (FG br 3 (aS (eV 6) iD)))) zh))))
  (ym (eV 2)))))
def ir:WS :=
  (ym (zc (aS (x5 lE (eV 0) (eC (.int 0))) (aS (Cg bW (aS (HQ (iS (x5 lE (eV 0) (eC (.int 1)))) (.nm 0) (yl (x5 A8 (x5 lE (eV 0) (eC (.int 0))) (y8 1))) (eV 0) [none,some 1]) iD)) iD))))
def jL:WS :=
  (oR (yz 4 (yu dX (aS (yu cw (aS (yu i0 (aS (eV 0) (aS (eV 1) iD))) iD)) (aS (eV 3) iD))))
  (oR (AX (yl (x5 AD (eV 2) (y8 4))) (ym (eC .lT)) zh)
  (oR (zU 5 (Cv iD))
  (oR (yz 6 (eV 2))
  (oR (Bi (yl (x5 Eg (eV 6) (y8 3))) (oR (Gf (x5 lE (eV 4) (y8 6)) (gT (yX (gN 7) (yX (gN 6) BD))))
  (A3 (FG br 5 (aS (eV 7) iD)))))
  (ym (Cg bW (a1 (y8 5)))))))))
def bI:WS :=
  (oR (yz 3 (x5 lE (x5 lE (yu bg (aS (eV 0) iD)) (y8 2)) (eC (.int 3))))
  (ym (NX (yl (x5 Gs (eV 1) (y8 2))) (eV 3) (x5 zS (eV 3) (eC (.int 1))))))
def bz(T:Addr×Addr):WS :=
  (oR (yz 3 (zd (cx T) 4 (aS (eV 0) (aS (yu kK (aS (eV 0) (aS (eV 1) (aS (x5 lE (eV 2) (eC (.int 1))) (aS (x5 lE (eV 2) (eC (.int 2))) iD))))) iD))))
  (ym (zc (aS (eC (.str "comes")) (aS (yu bM (aS (eV 0) (aS (x5 lE (eV 2) (eC (.int 0))) (aS (eV 3) iD)))) (aS (eV 3) iD))))))
def e9(T:Addr×Addr):WS :=
  (oR (yz 2 (yu bg (aS (eV 0) iD)))
  (oR (AX (yl (x5 AD (eV 1) (y8 2))) Lz zh)
  (oR (yz 3 (x5 lE (eV 2) (y8 1)))
  (oR (AX (D5 (BU (yu bR (aS (eV 0) (aS (eV 3) iD))))) (ym (zc (aS (eC (.str "waits")) iD))) zh)
  (oR (yz 4 (zd (dB T) 5 (aS (eV 0) iD)))
  (oR (AX (yl (x5 A8 (eV 1) (y8 4))) (ym (yu cK (aS (eV 0) (aS (eV 4) (aS (eV 3) iD))))) zh)
  (ym (zd (bE T) 5 (aS (eV 0) (aS (eV 4) (aS (eV 3) iD)))))))))))
def fR:WS :=
  (oR (yz 2 (eC (.str "abcdefghijklmnopqrstuvwxyz")))
  (oR (yz 3 (x5 lE (eV 2) (yh aE 0 (aS (eC (.int 26)) iD))))
  (oR (yz 4 (yh aE 0 (aS (eC (.int 7)) iD)))
  (oR (yz 5 (yh aE 0 (aS (x5 yB (eV 4) (eC (.int 1))) iD)))
  (oR (yz 6 (yh aE 0 (aS (eC (.int 26)) iD)))
  (oR (zU 7 (Cv iD))
  (oR (A0 (KH (aS (eV 1) iD)) (gN 8) (oR (yz 9 (x5 yB (x5 lE (eV 2) (x5 BB (x5 yB (eV 6) (x5 zY (eC (.int 5)) (y8 8))) (eC (.int 26)))) (x5 lE (eV 2) (x5 BB (x5 yB (eV 6) (x5 E1 (eV 8) (eC (.int 26)))) (eC (.int 26))))))
  (AX (D7 (yl (x5 Gs (eV 1) (eC (.int 8)))) (yl (x5 yU (eV 4) (eC (.int 6))))) (A3 (FG br 7 (aS (x5 zY (eV 3) (x5 yB (eV 8) (eC (.int 1)))) iD))) (A3 (FG br 7 (aS (x5 yB (x5 yB (x5 zY (eV 3) (y8 5)) (y8 9)) (x5 zY (eV 3) (x5 zS (eV 4) (y8 5)))) iD))))))
  (ym (eV 7)))))))))
def iz:WS :=
  (oR (AX (yl (x5 yU (eV 1) (eC (.int 0)))) (ym (eC (.int 5))) zh)
  (oR (AX (yl (x5 yU (eV 1) (eC (.int 1)))) (ym (x5 zS (yh aE 0 (aS (eC (.int 3)) iD)) (eC (.int 1)))) zh)
  (oR (AX (yl (x5 yU (eV 1) (eC (.int 2)))) (ym (x5 zS (yh aE 0 (aS (eC (.int 200)) iD)) (eC (.int 100)))) zh)
  (ym (x5 lE (Cv (aS (x5 zS (x5 B0 (eC (.int 10)) (eC (.int 30))) (eC (.int 1))) (aS (x5 zS (eC (.int 1)) (x5 B0 (eC (.int 10)) (eC (.int 30)))) (aS (eC (.int 0)) (aS (yh aE 0 (aS (x5 B0 (eC (.int 10)) (eC (.int 9))) iD)) iD))))) (yh aE 0 (aS (eC (.int 4)) iD)))))))
def iy:WS :=
  (oR (AX (yl (x5 yU (eV 1) (eC (.int 2)))) (ym (zc (aS (x5 BB (eV 3) (y8 2)) (aS (x5 BB (x5 yB (eV 3) (eC (.int 1))) (y8 2)) iD)))) zh)
  (oR (AX (yl (x5 yU (eV 1) (eC (.int 3)))) (ym (zc (aS (eC (.int 0)) (aS (x5 yB (eC (.int 1)) (yh aE 0 (aS (x5 zS (eV 2) (eC (.int 1))) iD))) iD)))) zh)
  (oR (AX (D7 (yl (x5 yU (eV 1) (eC (.int 4)))) (yl (x5 HK (eV 2) (eC (.int 3))))) (oR (yz 4 (x5 E1 (eV 2) (eC (.int 2))))
  (oR (yz 5 (yh aE 0 (aS (eC (.int 2)) iD)))
  (oR (yz 6 (yh aE 0 (aS (eV 4) iD)))
  (ym (zc (aS (x5 yB (x5 zY (eV 5) (y8 4)) (y8 6)) (aS (x5 yB (x5 zY (eV 5) (y8 4)) (x5 BB (x5 yB (x5 yB (eV 6) (eC (.int 1))) (yh aE 0 (aS (x5 zS (eV 4) (eC (.int 1))) iD))) (y8 4))) iD))))))) zh)
  (oR (yz 6 (yh aE 0 (aS (eV 2) iD)))
  (ym (zc (aS (eV 6) (aS (x5 BB (x5 yB (x5 yB (eV 6) (eC (.int 1))) (yh aE 0 (aS (x5 zS (eV 2) (eC (.int 1))) iD))) (y8 2)) iD))))))))
def jM:WS :=
  (oR (yz 3 (yh aE 0 (aS (x5 yB (eV 1) (eC (.int 1))) iD)))
  (oR (yz 4 (yh dI 0 (aS (x5 yB (eV 3) (eC (.int 2))) iD)))
  (oR (yz 5 (Lc (eV 4) CG (CF (Cg ES (aS (eC (.int 2)) (aS (x5 yB (eV 3) (yh aE 0 (aS (eC (.int 3)) iD))) iD))))))
  (oR (yz 6 (yh aE 0 (aS (x5 yB (eV 2) (eC (.int 1))) iD)))
  (oR (yz 7 (yh dI 0 (aS (eV 6) iD)))
  (oR (F8 8 9 (aS (yh aE 0 (aS (eC (.int 5)) iD)) (aS (yh aE 0 (aS (eC (.int 4)) iD)) iD)))
  (oR (zU 10 (Cv iD))
  (oR (A0 (KH (aS (eV 6) iD)) (gN 11) (oR (Gf (yh i9 0 (aS (eV 8) (aS (Cg B8 (a1 (y8 5))) (aS (eV 11) iD)))) (gT (yX (gN 12) (yX (gN 13) BD))))
  (oR (yz 14 (AV (aS (Cv (aS (x5 lE (eV 5) (y8 12)) (aS (x5 lE (eV 5) (y8 13)) iD))) iD)))
  (A3 (FG br 10 (aS (zc (aS (x5 lE (eV 7) (y8 11)) (aS (x5 lE (eV 14) (eC (.int 0))) (aS (x5 lE (eV 14) (eC (.int 1))) (aS (yh ja 0 (aS (eV 9) iD)) iD))))) iD))))))
  (ym (zc (aS (Cg bW (aS (AV (aS (Lc (eV 4) CG (CF (y8 3))) iD)) iD)) (aS (Cg bW (aS (Et (a1 (y8 10))) iD)) iD))))))))))))
def cj(D:Fd):WS :=
  (oR (AX (BU (Cw "tuple" (y8 1))) (oR (AX (Lk (D5 (BU (Cw "tuple" (y8 0)))) (yl (x5 Eg (Cg B8 (a1 (y8 0))) (Cg B8 (a1 (y8 1)))))) (ym (eC (.bl false))) zh)
  (ym (Cg DJ (aS (HQ (iZ (aS (eV 0) (aS (eV 1) iD))) (.tp [0,1]) E8 (yu D (aS (eV 0) (aS (eV 1) iD))) [none,none]) iD)))) zh)
  (oR (AX (yl (x5 Gx (eV 1) (eC .lT))) (ym (x5 Gx (eV 0) (eC .lT))) zh)
  (oR (AX (BU (Cw "bool" (y8 1))) (ym (Ex (Cw "bool" (y8 0)) (x5 yU (eV 0) (y8 1)))) zh)
  (oR (AX (BU (Cw "str" (y8 1))) (ym (Ex (Cw "str" (y8 0)) (x5 yU (eV 0) (y8 1)))) zh)
  (ym (Ex (Cw "int" (y8 0)) (Ex (Ki (Cw "bool" (y8 0))) (x5 yU (eV 0) (y8 1)))))))))
def jN:WS :=
  (ym (zc (aS (x5 lE (eV 0) (eC (.int 3))) (aS (x5 lE (eV 0) (eC (.int 0))) iD))))
def fg:WS :=
  (FY (HQ (iS (x5 lE (eV 0) (eC (.int 1)))) (.nm 0) (D7 (yl (x5 A8 (x5 lE (eV 0) (eC (.int 1))) (x5 lE (eV 1) (eC (.int 0))))) (yl (x5 A8 (x5 lE (eV 0) (eC (.int 2))) (x5 lE (eV 1) (eC (.int 0)))))) (eV 0) [none,some 0]))
def fj:WS :=
  (oR (zU 2 (Cg C8 (aS (HQ (iS (eV 0)) (.nm 0) E8 (zc (aS (eV 0) (aS (eV 0) iD))) [none]) iD)))
  (oR (A0 (iS (eV 1)) (gT (yX (gN 3) (yX (gN 4) (yX (gN 5) (yX (gN 6) BD))))) (oR (F8 7 8 (aS (Bs lE 2 (y8 4)) (aS (Bs lE 2 (y8 5)) iD)))
  (A0 (iS (eV 0)) (gN 9) (AX (yl (x5 yU (Bs lE 2 (y8 9)) (y8 8))) (FZ 2 (eV 7) (eV 9)) zh))))
  (ym (eV 2))))
def iu:WS :=
  (oR (yz 1 (yu fH (aS (eV 0) iD)))
  (oR (A0 (iS (AW true g0 (eV 1))) (gN 2) (oR (yz 3 (HQ (iS (eV 1)) (.nm 0) (yl (x5 neT (eV 0) (y8 1))) (eV 0) [none,some 2]))
  (oR (yz 4 (yu cO (aS (x5 lE (eV 0) (eC (.int 0))) (aS (eV 3) iD))))
  (AX (yl (x5 yU (x5 lE (eV 4) (x5 lE (eV 2) (eC (.int 1)))) (x5 lE (eV 4) (x5 lE (eV 2) (eC (.int 2)))))) (yz 1 (eV 3)) zh))))
  (ym (eV 1))))
def fS:WS :=
  (ym (x5 zS (x5 lE (eV 1) (eC (.int 3))) (Cg Gz (aS (x5 J0 (eV 0) (x5 lE (eV 1) (eC (.int 0)))) iD))))
def dN:WS :=
  (oR (zU 3 (Cv iD))
  (oR (A0 (iS (AW false g0 (eV 1))) (gN 4) (oR (A3 (FG br 3 (aS (eV 4) iD)))
  (oR (yz 5 (Ew cO 3 (x5 lE (eV 0) (eC (.int 0)))))
  (AX (yl (x5 yU (x5 lE (eV 5) (x5 lE (eV 2) (eC (.int 1)))) (x5 lE (eV 5) (x5 lE (eV 2) (eC (.int 2)))))) (ym (eV 4)) zh))))
  (ym (eC .lT))))
def fh:WS :=
  (oR (AX (yl (x5 AD (eV 2) (y8 1))) (oR (yz 3 (yu dY (aS (eV 0) (aS (eV 1) (aS (eV 2) iD)))))
  (ym (zc (aS (eC (.str "comes")) (aS (yu dJ (aS (x5 lE (eV 2) (eC (.int 0))) (aS (eV 3) iD))) (aS (x5 lE (eV 3) (eC (.int 0))) iD)))))) zh)
  (oR (yz 3 (yu jK (aS (eV 0) (aS (eV 1) (aS (eV 2) iD)))))
  (oR (AX (yl (x5 Gx (eV 3) (eC .lT))) (ym (zc (aS (eC (.str "stays")) (aS (eC .lT) (aS (eC .lT) iD))))) zh)
  (ym (zc (aS (eC (.str "stays")) (aS (yu dJ (aS (x5 lE (eV 2) (eC (.int 0))) (aS (eV 3) iD))) (aS (x5 lE (eV 3) (eC (.int 0))) iD))))))))
def gD(T:Addr×Addr):WS :=
  (oR (Q.zH 1 0)
  (oR (A0 (KH (aS (x5 yB (eC (.int 2)) (Cg B8 (aS (Lc (eV 0) CG (CF (eC (.int 6)))) iD))) iD)) (gN 2) (oR (yz 3 (yh kL 1 (aS (eC (.int 12)) (aS (eC (.int 30)) iD))))
  (oR (yz 4 (yu i7 (aS (eV 3) iD)))
  (A0 (iS (yu fH (aS (eV 3) iD))) (gN 5) (oR (AX (yl (x5 A8 (eV 5) (y8 4))) Jk zh)
  (AX (D5 (BU (yu i8 (aS (zd (cN T) 6 (aS (eV 3) (aS (x5 lE (eV 5) (eC (.int 0))) iD))) (aS (yu fI (aS (eV 3) (aS (eV 4) (aS (eV 5) iD)))) iD))))) (ym (eC (.bl false))) zh))))))
  (oR (yz 3 (zc (aS (zc (aS (eC (.str "a")) (aS (eC (.str "b")) (aS (eC (.str "c")) iD)))) (aS (zc (aS (zc (aS (eC (.str "x")) (aS (eC (.str "a")) (aS (eC (.str "b")) (aS (eC (.int 5)) iD))))) (aS (zc (aS (eC (.str "y")) (aS (eC (.str "b")) (aS (eC (.str "c")) (aS (eC (.int 5)) iD))))) (aS (zc (aS (eC (.str "z")) (aS (eC (.str "a")) (aS (eC (.str "c")) (aS (eC (.int 7)) iD))))) iD)))) iD))))
  (ym (x5 yU (zd (cN T) 6 (aS (eV 3) (aS (eC (.str "z")) iD))) (zc (aS (eC (.str "comes")) (aS (eC (.int 4)) (aS (eC (.str "y")) iD)))))))))
theorem b7(i j:Int):yU (.int i) (.int j)=some (.bl (decide (i=j))):=by
 show some (PV.bl (i==j))=_
 rfl
variable{i j:Int}
theorem eB(h:0<j):BB (.int i) (.int j)=some (.int (i % j)):=if_pos (decide_eq_true h)
theorem rK(h:0<j)(h2:j<1073741824):E1 (.int i) (.int j)=some (.int (i / j)):=if_pos (by simp[h,h2])
theorem mt(h : -(2 ^ 64)<j)(h2:j<2 ^ 64):zY (.int i) (.int j)=some (.int (i*j)):=if_pos (by unfold Kl;simp only[ad0,aa2,decide_eq_true_eq];exact .inr ⟨h,h2⟩)
theorem qq(h:(decide (0<=j) && decide (j<=1000000) && decide (i.natAbs<2 ^ 64))=true):B0 (.int i) (.int j)=some (.int (i ^ j.toNat)):=if_pos h
theorem bO:zS (.int i) (.int j)=some (.int (i - j)):=rfl
theorem bb:yB (.int i) (.int j)=some (.int (i+j)):=rfl
variable{k:Nat}
theorem m8(h:i=k)(hk:k<26):lE (.str Kn) (.int i)=some (.str (ch k)):=by
 subst h
 show (if Kn.length<=100000 then (Ey Kn.cps.toList (k:Int)).map (λc=>PV.str ⟨#[c]⟩)else none)=_
 rw[if_pos (by decide +kernel),au (xJ k hk)];rfl
theorem jY(b m:Nat):(BJ (ch b) m).length=m:=by
 have:=congrArg acN (ji b m)
 rw[ab7]at this
 show (BJ (ch b) m).cps.size=m
 rw[<- abe];exact this
theorem u7(x y:Str):(x++y).length=x.length+y.length:=by show (x.cps++y.cps).size=_;exact Array.size_append
theorem add_str(h:x.length+y.length<=100000):yB (.str x) (.str y)=some (.str (x++y)):=if_pos h
variable{b m:Nat}
theorem mv(h:i=m)(hm:m<=1000):zY (.str (ch b)) (.int i)=some (.str (BJ (ch b) m)):=by
 subst h
 refine(if_pos ⟨by omega,by omega,?_⟩).trans ?_
 .rw[show ((m:Int)).toNat=m by omega]
 .show 1<=1000;decide
variable{n:Nat}
theorem qm{j:Nat}{x:PV}(h:(BY 0 n)[j]?=some x):j<n/\x=.int j:=by
 unfold BY at h
 rw[aah]at h
 rcases aa4 j n with z|z
 .rw[abX z]at h
  refine⟨z,?_⟩
  have:x=.int (0+(j:Int)):=by simpa using h.symm
  rw[this];congr 1;omega
 .rw[aaq (by simpa using z)]at h;cases h
theorem nQ(n:Nat):(BY 0 n).length=n:=by unfold BY;rw[aae,adr]
theorem draw{m:Int}{P:PV->PV->Prop}(h0:0<m)(h1:m<1073741824)(k:∀r:Nat,(r:Int)<m->P (.int r) .lT):aE .lT [.int m] P :=
 ⟨rfl,m,rfl,h0,h1,λr r0 r1=>by
  obtain⟨i,rfl⟩:∃i:Nat,r=(i:Int):=⟨r.toNat,by omega⟩
  exact k i r1⟩
theorem qB(c:PV)(xs:List PV)(P:PV->PV->Prop)(h:dI c xs P):Q.Fb 10 fR c xs P:=by
 obtain⟨rfl,n,rfl,hn,h⟩:=h
 unfold fR
 refine ao λN hN=>?_
 try lia
 subst hN
 refine ao λN hN=>?_
 lia
 refine draw (by decide) (by decide) λb hb=>?_
 refine ae (m8 rfl (by omega)) ?_
 try lia
 subst hN
 refine ao λN hN=>?_
 lia
 refine draw (by decide) (by decide) λs hs=>?_
 try lia
 subst hN
 refine ao λN hN=>?_
 lia
 refine ae bb ?_
 refine draw (by omega) (by omega) λt ht=>?_
 try lia
 subst hN
 refine ao λN hN=>?_
 lia
 refine draw (by decide) (by decide) λf hf=>?_
 try lia
 subst hN
 refine ao λN hN=>?_
 try lia
 subst hN
 refine ao λN hN=>bt λG B hG hB=>?_
 lia
 refine⟨by omega,by omega,?_⟩
 subst hG
 refine aV (λi e=>∃v8 v9,e=[some ⟨2,.lT⟩,some ⟨0,.int n⟩,some ⟨0,.str Kn⟩,some ⟨0,.str (ch b)⟩,some ⟨0,.int s⟩,some ⟨0,.int t⟩,some ⟨0,.int f⟩,some ⟨1,.lst ((Fx b s t f n i).map .str)⟩,v8,v9]) (i:=0) ⟨none,none,rfl⟩ ?_ ?_
 case refine_2=>
  rintro e ⟨v8,v9,rfl⟩
  show N _
  subst hN
  rw[nQ,show ((n:Int)).toNat=n by omega,aaY]
  lia
  exact h _ (by unfold Fx;rw[aae,adr]) (pZ hn) (rU (by omega) (by omega) (by omega))
 rintro j x e M hj ⟨v8,v9,rfl⟩ k
 obtain⟨SY,rfl⟩:=qm hj
 rw[aaY]at k ⊢
 subst hB
 have JS:j<n:=by omega
 refine ao λN' AS=>?_
 lia
 refine ae (mt (by omega) (by omega)) ?_
 refine ae bb ?_
 refine ae (eB (by decide)) ?_
 refine ae (m8 (k:=(f+5*j) % 26) (by omega) (by omega)) ?_
 refine ae (rK (by decide) (by decide)) ?_
 refine ae bb ?_
 refine ae (eB (by decide)) ?_
 refine ae (m8 (k:=(f+j / 26) % 26) (by omega) (by omega)) ?_
 refine ae (add_str (by show 1+1<=100000;decide)) ?_
 subst AS
 have push:∀y:Str,y=wd b s t f n j->M [some ⟨2,.lT⟩,some ⟨0,.int n⟩,some ⟨0,.str Kn⟩,some ⟨0,.str (ch b)⟩,some ⟨0,.int s⟩,some ⟨0,.int t⟩,some ⟨0,.int f⟩,some ⟨1,.lst ((Fx b s t f n j).map .str++[.str y])⟩,some ⟨0,.int j⟩,some ⟨0,.str (ch ((f+5*j) % 26)++ch ((f+j / 26) % 26))⟩]:=λy hy=>by
  refine k _ ⟨some ⟨0,.int j⟩,some ⟨0,.str (ch ((f+5*j) % 26)++ch ((f+j / 26) % 26))⟩,?_⟩
  rw[hy,rV,aaW];rfl
 have len:((Fx b s t f n j).map PV.str).length<=100000:=by rw[aae];unfold Fx;rw[aae,adr];omega
 have two:(ch ((f+5*j) % 26)++ch ((f+j / 26) % 26)).cps.toList=[97+(f+5*j) % 26,97+(f+j / 26) % 26]:=by rw[fG];rfl
 lia
 by_cases c:n<8/\s=6
 .have c1:((n:Int)<8):=by omega
  have c2:((s:Int)=6):=by omega
  rw[decide_eq_true c1]
  lia
  refine ae (b7 _ _) ?_
  rw[decide_eq_true c2]
  lia
  refine ae bb ?_
  refine ae (mv (m:=j+1) (by omega) (by omega)) ?_
  refine ae (Eh len) ?_
  refine push _ (jO ?_)
  rw[ji]
  unfold wd wl
  rw[if_pos c]
 .have word:BJ (ch b) t++(ch ((f+5*j) % 26)++ch ((f+j / 26) % 26))++BJ (ch b) (s - t)=wd b s t f n j:=by
   refine jO ?_
   rw[fG,fG,two,ji,ji]
   unfold wd wl
   rw[if_neg c]
  have l2:(ch ((f+5*j) % 26)++ch ((f+j / 26) % 26)).length=2:=rfl
  have RD:opt (zY (.str (ch b)) (.int t)) λz=>opt (yB z (.str (ch ((f+5*j) % 26)++ch ((f+j / 26) % 26)))) λz=>opt (zS (.int s) (.int t)) λz1=>opt (zY (.str (ch b)) z1) λz1=>opt (yB z z1) λz=>opt (br ((Fx b s t f n j).map .str) [z]) λr=>M [some ⟨2,.lT⟩,some ⟨0,.int n⟩,some ⟨0,.str Kn⟩,some ⟨0,.str (ch b)⟩,some ⟨0,.int s⟩,some ⟨0,.int t⟩,some ⟨0,.int f⟩,some ⟨1,.lst r.2⟩,some ⟨0,.int j⟩,some ⟨0,.str (ch ((f+5*j) % 26)++ch ((f+j / 26) % 26))⟩]:=by
   refine ae (mv rfl (by omega)) (ae (add_str (by rw[jY,l2];omega)) (ae bO (ae (mv (m:=s - t) (by omega) (by omega)) (ae (add_str ?_) (ae (Eh len) (push _ word))))))
   rw[u7,jY,jY,l2];omega
  by_cases c1:(n:Int)<8
  .have c2:¬ ((s:Int)=6):=by omega
   rw[decide_eq_true c1]
   lia
   refine ae (b7 _ _) ?_
   rw[decide_eq_false c2]
   lia
   exact RD
  .rw[decide_eq_false c1]
   lia
   exact RD
theorem sE(c:PV)(xs:List PV)(P:PV->PV->Prop)(h:ja c xs P):Q.Fb 2 iz c xs P:=by
 obtain⟨rfl,q,rfl,h⟩:=h
 have UW:(1000000000:Int)<10 ^ 30:=by decide
 unfold iz
 refine ao λN hN=>?_
 lia
 refine ae (b7 _ _) ?_
 lia
 split
 .exact h _ (by omega) (by omega)
 subst hN
 refine ao λN hN=>?_
 lia
 refine ae (b7 _ _) ?_
 lia
 split
 .refine draw (by decide) (by decide) λr hr=>?_
  exact ae bO (h _ (by omega) (by omega))
 subst hN
 refine ao λN hN=>?_
 lia
 refine ae (b7 _ _) ?_
 lia
 split
 .refine draw (by decide) (by decide) λr hr=>?_
  exact ae bO (h _ (by omega) (by omega))
 subst hN
 lia
 have c30:(10:Int) ^ (30:Int).toNat=10 ^ 30:=by decide
 have c9:(10:Int) ^ (9:Int).toNat=1000000000:=by decide
 have pw:B0 (.int 10) (.int 30)=some (.int (10 ^ 30)):=(qq (by decide)).trans (by rw[c30])
 have p9:B0 (.int 10) (.int 9)=some (.int 1000000000):=(qq (by decide)).trans (by rw[c9])
 refine ae pw (ae bO (ae pw (ae bO (ae p9 ?_))))
 refine draw (by decide) (by decide) λr hr=>?_
 try lia
 refine draw (by decide) (by decide) λx hx=>?_
 match x,hx with
 |0,_=>exact ae (au (j:=0) rfl) (h _ (by omega) (by omega))
 |1,_=>exact ae (au (j:=1) rfl) (h _ (by omega) (by omega))
 |2,_=>exact ae (au (j:=2) rfl) (h _ (by omega) (by omega))
 |3,_=>exact ae (au (j:=3) rfl) (h _ (by omega) (by omega))
 |n+4,h=>omega
theorem turn(x d t:Int)(h0:0<t)(h1:0<=x)(h2:x<t)(h3:0<=d)(h4:d<t - 1):0<=(x+1+d) % t/\(x+1+d) % t<t/\x≠(x+1+d) % t:=by
 refine⟨ace _ (by omega),abI _ h0,λe=>?_⟩
 have q:=Int.emod_add_mul_ediv (x+1+d) t
 rw[<- e]at q
 have:t*((x+1+d) / t)=1+d:=by omega
 generalize (x+1+d) / t=y at this
 rcases(show y<=0\/1<=y by omega)with z|z
 .have:t*y<=0:=Int.mul_nonpos_of_nonneg_of_nonpos (by omega) (by omega)
  omega
 .have:t*1<=t*y:=aeP z (by omega)
  omega
theorem BE{m:Int}{P:PV->PV->Prop}(h0:0<m)(h1:m<1073741824)(k:∀r:Int,0<=r->r<m->P (.int r) .lT):aE .lT [.int m] P:=⟨rfl,m,rfl,h0,h1,k⟩
theorem sD(c:PV)(xs:List PV)(P:PV->PV->Prop)(h:i9 c xs P):Q.Fb 7 iy c xs P:=by
 obtain⟨rfl,f,m,kk,rfl,m2,m9,h⟩:=h
 have m0:(0:Int)<m:=by omega
 unfold iy
 refine ao λN hN=>?_
 lia
 refine ae (b7 _ _) ?_
 lia
 split
 .refine ae (eB m0) (ae bb (ae (eB m0) ?_))
  refine h _ _ (ace _ (by omega)) (abI _ m0) (ace _ (by omega)) (abI _ m0) λe=>?_
  refine(turn (kk % m) 0 m m0 (ace _ (by omega)) (abI _ m0) (by omega) (by omega)).2.2 (e.trans ?_)
  rw[Int.add_zero,Int.emod_add_emod]
 subst hN
 refine ao λN hN=>?_
 lia
 refine ae (b7 _ _) ?_
 lia
 split
 .refine ae bO ?_
  refine BE (by omega) (by omega) λr p0 q0=>?_
  exact ae bb (h _ _ (by omega) m0 (by omega) (by omega) (by omega))
 subst hN
 refine ao λN hN=>aL λA B hA hB=>?_
 have last:B {HP P with nx:=N} [some ⟨2,.lT⟩,some ⟨0,.int f⟩,some ⟨0,.int m⟩,some ⟨0,.int kk⟩,none,none,none]:=by
  subst hB
  show N _
  subst hN
  refine ao λN hN=>?_
  lia
  refine BE (by omega) (by omega) λr p0 q0=>?_
  try lia
  subst hN
  lia
  refine ae bb (ae bO ?_)
  refine BE (by omega) (by omega) λd p1 q1=>?_
  try lia
  refine ae bb (ae (eB m0) ?_)
  have t:=turn r d m m0 p0 q0 p1 q1
  exact h _ _ p0 q0 t.1 t.2.1 t.2.2
 lia
 refine ae (b7 _ _) ?_
 lia
 by_cases c1:f=4
 case neg=>
  rw[decide_eq_false c1]
  exact last
 rw[decide_eq_true c1]
 lia
 by_cases c2:3<m
 case neg=>
  rw[decide_eq_false c2]
  exact last
 rw[decide_eq_true c2]
 lia
 subst hA
 refine ao λN hN=>?_
 lia
 refine ae (rK (by decide) (by decide)) ?_
 subst hN
 refine ao λN hN=>?_
 lia
 refine BE (by omega) (by omega) λr p0 q0=>?_
 try lia
 subst hN
 refine ao λN hN=>?_
 lia
 refine BE (by omega) (by omega) λr2 p2 q2=>?_
 try lia
 subst hN
 have bd:∀y:Int,0<=y->y<m / 2->0<=r*(m / 2)+y/\r*(m / 2)+y<m:=λy y0 y1=>by
  have:r=0\/r=1:=by omega
  rcases this with rfl|rfl<;>omega
 lia
 refine ae (mt (by omega) (by omega)) (ae bb (ae (mt (by omega) (by omega)) (ae bb (ae bO ?_))))
 refine BE (by omega) (by omega) λr3 p3 q3=>?_
 try lia
 refine ae bb (ae (eB (by omega)) (ae bb ?_))
 have t:=turn r2 r3 (m / 2) (by omega) p2 q2 p3 q3
 exact h _ _ (bd _ p2 q2).1 (bd _ p2 q2).2 (bd _ t.1 t.2.1).1 (bd _ t.1 t.2.1).2 λe=>t.2.2 (by omega)
theorem wP(h:(if j > i then j else i)=k):ES [.int i,.int j]=some (.int k):=by rw[<- h];rfl
variable{l:List Str}
theorem lN{i:Nat}(h:i<l.length):lE (.lst (l.map .str)) (.int i)=some (.str l[i]):=au (by rw[aah,aaa h];rfl)
theorem qh:∀ss:List Str,(ss.map PV.str).mapM Dq=some ss
 |[]=>rfl
 |s::ss=>by rw[aau,abt,qh ss];rfl
theorem qf:∀ts:List iF,(ts.map aT).mapM HL=some (ts.map iF.nm)
 |[]=>rfl
 |t::ts=>by rw[aau,abt,qf ts];rfl
variable{ix:List Nat}
theorem lW{β:Type}{f:α->β}{l:List α}{a:α}{b:β}(h:∀i∈ix,i<l.length):(ix.map λi=>(l.map f).getD i b)=(ix.map λi=>l.getD i a).map f:=by
 rw[aaG]
 refine aaH λi hi=>?_
 show _=f (l.getD i a)
 rw[aac,aac,aah,aaa (h i hi)];rfl
theorem uG(c:PV)(xs:List PV)(P:PV->PV->Prop)(h:kL c xs P):Q.Fb 15 jM c xs P:=by
 obtain⟨rfl,M,T,rfl,M0,M1,T0,T1,h⟩:=h
 unfold jM
 refine ao λN hN=>?_
 lia
 refine ae bb ?_
 refine draw (by omega) (by omega) λmm UM=>?_
 subst hN
 refine ao λN hN=>?_
 lia
 refine ae bb ?_
 refine⟨rfl,mm+2,rfl,by omega,λws wl wn ww=>?_⟩
 subst hN
 refine ao λN hN=>?_
 lia
 refine draw (by decide) (by decide) λr hr=>?_
 refine ae bb ?_
 obtain⟨pn,SE,KO,UK⟩:∃pn:Nat,(if (mm:Int)+r > 2 then (mm:Int)+r else 2)=(pn:Int)/\2<=pn/\pn<=mm+2:=by
  refine⟨(if (mm:Int)+r > 2 then (mm:Int)+r else 2).toNat,?_,?_,?_⟩<;>split<;>omega
 refine ae (wP SE) ?_
 try lia
 rw[gY,<- List.map_take]
 subst hN
 have pl:(ws.take pn).length=pn:=by rw[aaI,wl];omega
 have QX:(ws.take pn).Nodup:=wn.sublist (aew _ _)
 have pw:∀x∈ws.take pn,zB x:=λx hx=>ww x (abM hx)
 generalize ws.take pn=Dt at pl QX pw ⊢
 refine ao λN hN=>?_
 lia
 refine ae bb ?_
 refine draw (by omega) (by omega) λcc PU=>?_
 subst hN
 refine ao λN hN=>?_
 lia
 refine⟨rfl,cc,rfl,by omega,λns nl nn nw=>?_⟩
 subst hN
 refine ao λN hN=>?_
 simp only[F8]
 lia
 refine BE (by decide) (by decide) λRB p0 q0=>?_
 refine BE (by decide) (by decide) λQP p1 q1=>?_
 subst hN
 refine ao λN hN=>?_
 lia
 subst hN
 refine ao λN hN=>bt λG B hG hB=>?_
 lia
 refine⟨by omega,by omega,?_⟩
 subst hG
 refine aV (λi e=>∃ts v11 Om Ol Oj,e=[some ⟨2,.lT⟩,some ⟨0,.int M⟩,some ⟨0,.int T⟩,some ⟨0,.int mm⟩,some ⟨0,.lst (ws.map .str)⟩,some ⟨0,.lst (Dt.map .str)⟩,some ⟨0,.int cc⟩,some ⟨0,.lst (ns.map .str)⟩,some ⟨0,.int RB⟩,some ⟨0,.int QP⟩,some ⟨1,.lst (ts.map aT)⟩,v11,Om,Ol,Oj]/\ts.map iF.nm=ns.take i/\ts.length=i/\∀t∈ts,IG t) (i:=0) ⟨[],none,none,none,none,rfl,rfl,rfl,by simp⟩ ?_ ?_
 case refine_2=>
  rintro e ⟨ts,v11,Om,Ol,Oj,rfl,g1,g2,g3⟩
  rw[nQ,show ((cc:Int)).toNat=cc by omega,aaY]at g1 g2
  show N _
  subst hN
  have Pr:ts.map iF.nm=ns:=by rw[g1,<- nl,abm]
  simp only[ym,zc,Cg,aS,AV,Et]
  lia
  rw[gY,<- List.map_take]
  refine⟨_,qh _,by rw[aaI];omega,λss up=>ae rfl ?_⟩
  try lia
  refine⟨_,qf ts,by rw[Pr];exact nn,by rw[aae];omega,λix il NG iw=>ae rfl ?_⟩
  rw[aae]at NG il
  rw[lW (a:=t0) NG]
  refine h ss _ ⟨nR up.2 (up.1.nodup_iff.mpr (wn.sublist (aew _ _))),λx hx=>ww x (abM (up.1.mem_iff.mp hx)),?_,λt ht=>?_⟩ ?_ ?_
  .rw[lW (a:=t0) NG]at iw;exact iw
  .obtain⟨j,hj,rfl⟩:=List.mem_map.mp ht
   have:=NG j hj
   rw[aac,aaa this]
   exact g3 _ (abK _)
  .rw[up.1.length_eq,aaI];omega
  .rw[aae,il,g2];omega
 rintro j x e M' hj ⟨ts,v11,Om,Ol,Oj,rfl,g1,g2,g3⟩ k
 obtain⟨SY,rfl⟩:=qm hj
 rw[aaY]at g1 g2 k
 subst hB
 have JS:j<ns.length:=by omega
 refine ao λN hN=>?_
 lia
 refine⟨rfl,RB,Dt.length,j,by rw[aae],by omega,by omega,λx y x0 x1 y0 y1 xy=>?_⟩
 obtain⟨x,rfl⟩:∃z:Nat,x=(z:Int):=⟨x.toNat,by omega⟩
 obtain⟨y,rfl⟩:∃z:Nat,y=(z:Int):=⟨y.toNat,by omega⟩
 have hx:x<Dt.length:=by omega
 have hy:y<Dt.length:=by omega
 lia
 subst hN
 refine ao λN hN=>?_
 simp only[yz,AV]
 lia
 refine ae (lN hx) (ae (lN hy) ?_)
 refine⟨[Dt[x],Dt[y]],rfl,(by show 2<64;decide),λss up=>?_⟩
 have Sr:Dt[x]≠Dt[y]:=λe=>xy (by
  have:=(abh QX).mp e
  omega)
 obtain⟨u,v,rfl,uv,hu,hv⟩:=vX up.1 up.2 Sr
 have wu:zB u:=pw u (by rcases hu with e|e<;>rw[e]<;>exact abK _)
 have wv:zB v:=pw v (by rcases hv with e|e<;>rw[e]<;>exact abK _)
 subst hN
 lia
 refine ae (lN JS) (ae (z:=.str u) (au (j:=0) rfl) (ae (z:=.str v) (au (j:=1) rfl) ?_))
 refine⟨rfl,QP,rfl,λc c0 c1=>?_⟩
 lia
 refine ae (Eh (by rw[aae];omega)) ?_
 refine k _ ⟨ts++[⟨ns[j],u,v,c⟩],some ⟨0,.int j⟩,some ⟨0,.int x⟩,some ⟨0,.int y⟩,some ⟨0,.lst [.str u,.str v]⟩,by rw[aaW];rfl,?_,by rw[aaQ,g2];rfl,λt ht=>?_⟩
 .rw[aaW,g1]
  show ns.take j++[ns[j]]=ns.take (j+1)
  rw[abx,aaa JS];rfl
 .rcases List.mem_append.mp ht with z|z
  .exact g3 t z
  .have:t=⟨ns[j],u,v,c⟩:=by simpa using z
   subst this
   exact⟨nw _ (abK _),wu,wv,uv,c0,c1⟩
theorem ni(xs:List PV)(P:PV->Prop)(h:bR xs P):Q.run 2 dL xs P:=by
 obtain⟨ps,ts,t,rfl,h⟩:=h
 unfold dL iN aT
 try lia
 refine ae (z:=.str t.one) (au (j:=1) rfl) (ae (z:=.tup (ps.map .str)) (au (j:=0) rfl) (ae bZ ?_))
 try lia
 unfold yg at h
 cases e:decide (t.one∈ps)with
 |false=>rw[e]at h;exact h
 |true=>
  rw[e,Bool.true_and]at h
  exact ae (z:=.str t.x8) (au (j:=2) rfl) (ae (z:=.tup (ps.map .str)) (au (j:=0) rfl) (ae bZ h))
theorem bC{β:Type}(p:α->Bool)(f:α->β):∀(l:List α),l.filterMap (λa=>if p a=true then some (f a)else none)=(l.filter p).map f
 |[]=>rfl
 |a::l=>by
  rw[abZ,acS,bC p f l]
  cases p a<;>rfl
theorem lG(xs:List PV)(P:PV->Prop)(h:cJ xs P):Q.run 1 cF xs P:=by
 obtain⟨ps,ts,rfl,hl,h⟩:=h
 unfold cF
 have e1:lE (iN ps ts) (.int 1)=some (.tup (ts.map aT)):=au (j:=1) rfl
 try lia
 refine ae e1 ?_
 try lia
 refine cW (λx=>match x with|.tup [.str a,.str b,.str c,.int d]=>if yg ps ⟨a,b,c,d⟩=true then some (.str a)else none|_=>none) (λx hx R hR=>?_) (by simp;omega) ?_
 .obtain⟨t,ht,rfl⟩:=List.mem_map.mp hx
  refine⟨ps,ts,t,rfl,?_⟩
  replace hR:R (if yg ps t=true then some (.str t.nm)else none) [some ⟨0,iN ps ts⟩]:=hR
  show opt (some (yg ps t)) _
  rw[cV]
  cases e:yg ps t with
  |false=>rw[e]at hR;exact hR
  |true=>
   rw[e]at hR
   show opt (lE (aT t) (.int 0)) _
   refine ae (z:=.str t.nm) (au (j:=0) rfl) ?_
   exact hR
 .rw[acb,acL]
  have e:ts.filterMap ((λx=>match x with|PV.tup [.str a,.str b,.str c,.int d]=>if yg ps ⟨a,b,c,d⟩=true then some (PV.str a)else none|_=>none) ∘ aT)=(er ps ts).map .str:=by
   unfold er
   rw[aaG]
   exact bC (yg ps) (λt=>PV.str t.nm) ts
  rw[e]
  exact ae rfl h
theorem eq_str(i j:Str):yU (.str i) (.str j)=some (.bl (i==j)):=rfl
theorem mj(ok:Ax ps ts):(er ps ts).Nodup:=(bU ok).sublist (List.filter_sublist.map _)
theorem xR(ok:Ax ps ts)(h1:ps.length<=60)(h2:ts.length<=60):Nt ps ts:=⟨ok.rise,λt ht=>gh (ok.tie t ht).lt,h1,by omega⟩
theorem fT(fs:List Str):(fs.map PV.str).mapM Dq=some fs:=by
 induction fs with
 |nil=>rfl
 |cons f fs ih=>rw[aau,abt,ih];rfl
theorem uk{x:PV}{ns:List Int}(m:Nat)(hx:x=.Ap ns\/x=.lst (ns.map .int)):∃zs,Hr x none (some (m:Int))=some (.lst zs)/\zs.length<=m:=by
 rcases hx with rfl|rfl
 .exact⟨_,rfl,by rw[gY];simp;omega⟩
 .exact⟨_,rfl,by rw[gY];simp;omega⟩
theorem qV(ps:List Str):(ps.map PV.str).mapM A7=some (ps.map λp=>(aan p:Key)):=by
 induction ps with
 |nil=>rfl
 |cons p ps ih=>rw[aau,abt,ih];rfl
theorem gp(h:ps.Nodup):(ps.map λp=>(aan p:Key)).Nodup:=by
 rw[ab2,aex]
 exact(List.nodup_iff_pairwise_ne.mp h).imp λhne e=>hne (Sum.inr.inj e)
theorem m6(ps:List Str)(g:Str->List (Str×Str)):((ps.map λp=>((aan p:Key),PV.lst ((g p).map yn))).map (·.1))=ps.map λp=>(aan p:Key):=by rw[aaG];rfl
theorem rR(nd:ps.Nodup)(h:y∈ps):Q.ET (ps.map λp=>((aan p:Key),PV.lst ((g p).map yn))) (aan y)=some ((g y).map yn):=by
 unfold Q.ET
 have:=bp (f:=id) (g:=λp=>PV.lst ((g p).map yn)) (l:=ps) (a:=y) (by simpa using nd) h
 simp only[id]at this
 rw[this]
theorem oT{q:Str×Str}:CM (ps.map λp=>((aan p:Key),PV.lst ((g p).map yn))) (aan y) ((g y).map yn++[yn q])=ps.map λp=>((aan p:Key),PV.lst ((if p=y then g y++[q]else g p).map yn)):=by
 unfold CM
 rw[aaG]
 refine aaH λp hp=>?_
 show (if (aan p:Key)=aan y then ((aan y:Key),PV.lst ((g y).map yn++[yn q]))else (aan p,PV.lst ((g p).map yn)))=(aan p,PV.lst ((if p=y then g y++[q]else g p).map yn))
 by_cases e:p=y
 .subst e;simp
 .simp[e]
theorem j7(xs:List PV)(P:PV->Prop)(h:cw xs P):Q.Ig 3 cg xs P:=by
 obtain⟨ps,ts,rfl,ok,h⟩:=h
 have nd:=cR ok.rise
 have e0:lE (iN ps ts) (.int 0)=some (.tup (ps.map .str)):=au (j:=0) rfl
 have e1:lE (iN ps ts) (.int 1)=some (.tup (ts.map aT)):=au (j:=1) rfl
 unfold cg
 refine ao λN hN=>?_
 show opt (lE (iN ps ts) (.int 0)) _
 refine ae e0 ⟨_,qV ps,gp nd,by simp;have:=ok.pl;omega,?_⟩
 have e2:(ps.map λp=>(aan p:Key)).map (λk=>(k,PV.lst []))=ps.map λp=>((aan p:Key),PV.lst ((yO ps (ts.take 0) p).map yn)):=by rw[aaG];rfl
 rw[e2]
 show N [some ⟨0,iN ps ts⟩,some ⟨4,AH ps (yO ps (ts.take 0))⟩,none]
 subst hN
 refine ao λN hN=>bt λG B hG hB=>?_
 show opt (lE (iN ps ts) (.int 1)) _
 refine ae e1 ?_
 show AG G B _ (ts.map aT) _
 refine aV (λj e=>∃v2,e=[some ⟨0,iN ps ts⟩,some ⟨4,AH ps (yO ps (ts.take j))⟩,v2]) (i:=0) ⟨none,rfl⟩ ?_ ?_
 case refine_2=>
  rintro e ⟨v2,rfl⟩
  rw[aae,aaY,abm]
  show N _
  subst hN
  exact⟨⟨_,rfl⟩,h⟩
 rintro j x e M hx ⟨v2,rfl⟩ k
 rw[aaY]at k ⊢
 have hj:j<ts.length:=by have:=(List.getElem?_eq_some_iff.mp hx).1;rwa [aae]at this
 have ex:x=aT ts[j]:=by
  rw[aah,aaa hj]at hx
  exact(aao hx).symm
 subst ex hG hB
 show AX _ _ _ _ [some ⟨0,iN ps ts⟩,some ⟨4,AH ps (yO ps (ts.take j))⟩,some ⟨0,aT ts[j]⟩]
 refine aL λA1 B1 hA hB=>?_
 lia
 refine⟨ps,ts,ts[j],rfl,?_⟩
 subst hA hB
 show opt (some (yg ps ts[j])) _
 refine A5.mpr ?_
 have step:=λp=>tU (ps:=ps) hj p
 cases eo:yg ps ts[j]with
 |false=>
  refine k _ ⟨some ⟨0,aT ts[j]⟩,?_⟩
  have e:yO ps (ts.take (j+1))=yO ps (ts.take j):=by
   funext p
   rw[step p,eo]
   simp
  rw[e]
 |true=>
  obtain⟨h1,h2⟩:=yW.mp eo
  have hne:=ok.ne ts[j] (abK _)
  have hlen:∀p,(yO ps (ts.take j) p).length<=2000:=λp=>by
   have:=pF ps (ts.take j) p
   have h3:(ts.take j).length<=1000:=by simp;have:=ok.tl;omega
   omega
  rw[if_pos rfl]
  refine ao λN' AS=>?_
  refine⟨by rw[m6];exact gp nd,?_⟩
  show opt (lE (aT ts[j]) (.int 1)) _
  refine ae (z:=.str ts[j].one) (au (j:=1) rfl) (ae (z:=aan ts[j].one) rfl (ae (rR nd h1) ?_))
  show opt (lE (aT ts[j]) (.int 0)) _
  refine ae (z:=.str ts[j].nm) (au (j:=0) rfl) ?_
  show opt (lE (aT ts[j]) (.int 2)) _
  refine ae (z:=.str ts[j].x8) (au (j:=2) rfl) ⟨by simp;have:=hlen ts[j].one;omega,?_⟩
  have ea:=oT (ps:=ps) (g:=yO ps (ts.take j)) (y:=ts[j].one) (q:=(ts[j].nm,ts[j].x8))
  show N' [some ⟨0,iN ps ts⟩,some ⟨4,.yw (CM _ (aan ts[j].one) ((yO ps (ts.take j) ts[j].one).map yn++[yn (ts[j].nm,ts[j].x8)]))⟩,some ⟨0,aT ts[j]⟩]
  rw[ea]
  generalize KU:(λp=>if p=ts[j].one then yO ps (ts.take j) ts[j].one++[(ts[j].nm,ts[j].x8)]else yO ps (ts.take j) p)=g'
  have eg:∀p,(if p=ts[j].one then yO ps (ts.take j) ts[j].one++[(ts[j].nm,ts[j].x8)]else yO ps (ts.take j) p)=g' p:=λp=>by rw[<- KU]
  simp only[eg]
  subst AS
  refine⟨by rw[m6];exact gp nd,?_⟩
  show opt (lE (aT ts[j]) (.int 2)) _
  refine ae (z:=.str ts[j].x8) (au (j:=2) rfl) (ae (z:=aan ts[j].x8) rfl (ae (rR nd h2) ?_))
  show opt (lE (aT ts[j]) (.int 0)) _
  refine ae (z:=.str ts[j].nm) (au (j:=0) rfl) ?_
  show opt (lE (aT ts[j]) (.int 1)) _
  refine ae (z:=.str ts[j].one) (au (j:=1) rfl) ⟨by simp;rw[<- eg,if_neg hne.symm];have:=hlen ts[j].x8;omega,?_⟩
  have eb:=oT (ps:=ps) (g:=g') (y:=ts[j].x8) (q:=(ts[j].nm,ts[j].one))
  show M [some ⟨0,iN ps ts⟩,some ⟨4,.yw (CM _ (aan ts[j].x8) ((g' ts[j].x8).map yn++[yn (ts[j].nm,ts[j].one)]))⟩,some ⟨0,aT ts[j]⟩]
  rw[eb]
  refine k _ ⟨some ⟨0,aT ts[j]⟩,?_⟩
  have e:yO ps (ts.take (j+1))=λp=>if p=ts[j].x8 then g' ts[j].x8++[(ts[j].nm,ts[j].one)]else g' p:=by
   funext p
   rw[step p,eo,if_pos rfl]
   unfold ends
   by_cases q1:p=ts[j].x8
   .subst q1
    rw[if_pos rfl,<- eg,if_neg hne.symm,if_neg hne,if_pos rfl];rfl
   .rw[if_neg q1,<- eg]
    by_cases q2:p=ts[j].one
    .subst q2
     rw[if_pos rfl,if_pos rfl,if_neg (λz=>q1 z.symm)];rfl
    .rw[if_neg q2,if_neg (λz=>q2 z.symm),if_neg (λz=>q1 z.symm)];simp
  rw[e];rfl
variable{cs:Cs}
theorem rN(h:y∉zM cs):zq (cs.map λc=>((aan c.1:Key),DF c.2)) (aan y)=none:=kO (f:=λc:Str×Option (Str×Str)=>c.1) h
theorem oO(nd:(zM cs).Nodup)(h:y∈zM cs):∃c∈cs,c.1=y/\zq (cs.map λc=>((aan c.1:Key),DF c.2)) (aan y)=some (DF c.2):=by
 obtain⟨c,hc,rfl⟩:=List.mem_map.mp h
 exact⟨c,hc,rfl,bp (f:=λc:Str×Option (Str×Str)=>c.1) (g:=λc=>DF c.2) nd hc⟩
theorem kf{kvs:List (Key×PV)}:AD (.str y) (.yw kvs)=some (.bl (!(zq kvs (aan y)).isSome)):=rfl
structure Ku(ps:List Str)(g:Str->List (Str×Str))(start:Str)(cs:Cs)(as:List Str):Prop where
 ok:By g start cs
 DW:∀y∈zM cs,y∈ps
 sub:∀y∈as,y∈zM cs
 al:as.length<=cs.length
theorem nj(xs:List PV)(P:PV->Prop)(h:dX xs P):Q.run 7 dM xs P:=by
 obtain⟨ps,g,start,rfl,nd,Ha,Dx,Ag,h⟩:=h
 unfold dM
 refine ao λN hN=>?_
 show opt (A7 (.str start)) _
 refine ae (z:=aan start) rfl ?_
 show N [some ⟨0,AH ps g⟩,some ⟨0,.str start⟩,some ⟨1,zi [(start,none)]⟩,none,none,none,none]
 subst hN
 refine ao λN hN=>?_
 show N [some ⟨0,AH ps g⟩,some ⟨0,.str start⟩,some ⟨1,zi [(start,none)]⟩,some ⟨1,.lst ([start].map .str)⟩,none,none,none]
 subst hN
 refine ao λN hN=>kM λC B hC hB=>?_
 have c0:Ku ps g start [(start,none)] [start]:=⟨⟨by simp[zM],λi c hc=>?_,by simp⟩,λy hy=>?_,λy hy=>?_,by simp⟩
 rotate_left
 .cases i with
  |zero=>exact .inl ⟨rfl,by simpa using hc.symm⟩
  |succ i=>simp at hc
 .simp[zM]at hy;subst hy;exact Ha
 .simpa[zM]using hy
 have Ur:∀y∈ps,lE (AH ps g) (.str y)=some (.lst ((g y).map yn)):=λy hy=>by
  show zq _ (aan y)=_
  have:=bp (f:=id) (g:=λp=>PV.lst ((g p).map yn)) (l:=ps) (a:=y) (by simpa using nd) hy
  exact this
 refine kT (λk e=>∃cs as v4 v5 v6,e=[some ⟨0,AH ps g⟩,some ⟨0,.str start⟩,some ⟨1,zi cs⟩,some ⟨1,.lst (as.map .str)⟩,v4,v5,v6]/\Ku ps g start cs as/\(∀y∈zM cs,y∉as->∀q∈g y,q.2∈zM cs)/\k=2*(ps.length - cs.length)+as.length) (k:=2*(ps.length - 1)+1) ?_ ⟨[(start,none)],[start],none,none,none,rfl,c0,λy hy hn=>absurd (by simpa[zM]using hy) hn,rfl⟩
 rintro k e M ⟨cs,as,v4,v5,v6,rfl,ca,cl,rfl⟩ km
 subst hC
 show opt (some (!(as.map PV.str).isEmpty)) _
 refine A5.mpr ?_
 cases hA:as with
 |nil=>
  show N _
  subst hN
  show P (zi cs)
  exact h cs ca.ok ca.DW λy hy=>cl y hy (by rw[hA];simp)
 |cons a0 ar=>
 rw[<- hA]
 rw[show (!(List.map PV.str as).isEmpty)=true by rw[hA];rfl,if_pos rfl]
 have SD:0<as.length:=by rw[hA];simp
 obtain⟨here,hh⟩:∃y,as[as.length - 1]?=some y:=⟨_,aaa (by omega)⟩
 have Ro:here∈as:=aaN hh
 have PC:here∈ps:=ca.DW _ (ca.sub _ Ro)
 subst hB
 refine ao λM' P5=>?_
 lia
 have ep:Hx (as.map PV.str) []=some (.str here,(as.dropLast).map .str):=by
  show ((as.map PV.str)[(as.map PV.str).length - 1]?).map _=_
  rw[aae,aah,hh,<- List.map_dropLast];rfl
 refine ae ep ?_
 lia
 subst P5
 refine bt λG B hG hB=>?_
 lia
 refine ae (Ur here PC) ?_
 show AG G B _ ((g here).map yn) _
 subst hG hB
 have Jw:∀y∈as,y=here\/y∈as.dropLast:=λy hy=>by
  obtain⟨i,hi,rfl⟩:=aee hy
  by_cases e:i=as.length - 1
  .left
   subst e
   rw[aaa hi]at hh
   exact aao hh
  .right
   rw[List.mem_iff_getElem]
   exact⟨i,by simp;omega,by simp⟩
 refine aV (λj e=>∃Cj Hk v5 v6,e=[some ⟨0,AH ps g⟩,some ⟨0,.str start⟩,some ⟨1,zi Cj⟩,some ⟨1,.lst (Hk.map .str)⟩,some ⟨0,.str here⟩,v5,v6]/\Ku ps g start Cj Hk/\here∈zM Cj/\(∀y∈zM Cj,y≠here->y∉Hk->∀q∈g y,q.2∈zM Cj)/\(∀i q,i<j->(g here)[i]?=some q->q.2∈zM Cj)/\2*(ps.length - Cj.length)+Hk.length<2*(ps.length - cs.length)+as.length) (i:=0)
  ⟨cs,as.dropLast,v5,v6,rfl,⟨ca.ok,ca.DW,λy hy=>ca.sub y (List.dropLast_subset _ hy),by have:=ca.al;simp;omega⟩,ca.sub _ Ro,λy hy hne hn=>cl y hy λz=>(Jw y z).elim hne hn,λi q hi=>absurd hi (by omega),by simp;omega⟩ ?_ ?_
 .rintro j x e M2 hx ⟨Cj,Hk,w5,w6,rfl,Fq,Dz,N1,seen,ms⟩ k2
  obtain⟨q,hq,rfl⟩:∃q,(g here)[j]?=some q/\x=yn q:=by
   rw[aah]at hx
   cases e:(g here)[j]? with
   |none=>rw[e]at hx;cases hx
   |some q=>rw[e]at hx;exact⟨q,rfl,(aao hx).symm⟩
  have Pn:=aaN hq
  have hlen:=bu Fq.ok.nd Fq.DW
  have NR:(zM Cj).length=Cj.length:=by simp[zM]
  unfold yn
  lia
  refine ae (show AD (.str q.2) (zi Cj)=_ from kf) ?_
  lia
  by_cases Fl:q.2∈zM Cj
  .obtain⟨c,_,_,ev⟩:=oO Fq.ok.nd Fl
   rw[ev]
   simp only[aem,Bool.not_true,ab8,if_false]
   refine k2 _ ⟨Cj,Hk,_,_,rfl,Fq,Dz,N1,λi r hi hr=>?_,ms⟩
   by_cases ei:i<0+j
   .exact seen i r ei hr
   .have:i=j:=by omega
    subst this
    rw[hq]at hr;cases hr;exact Fl
  .rw[rN Fl]
   simp only[Option.isSome_none,aea,if_true]
   have y6:Cj.length<ps.length:=by
    have:=bu (xs:=q.2::zM Cj) (ys:=ps) (List.nodup_cons.mpr ⟨Fl,Fq.ok.nd⟩) λy hy=>by
     rcases List.mem_cons.mp hy with rfl|hy
     .exact Dx here PC q Pn
     .exact Fq.DW y hy
    simp[zM]at this
    omega
   have MG:Hk.length<=100000:=by have:=Fq.al;omega
   simp only[FZ]
   lia
   have TC:BX (.yw (Cj.map λc=>((aan c.1:Key),DF c.2))) (.str q.2) (.tup [.str q.1,.str here])=some (zi (Cj++[(q.2,some (q.1,here))])):=by
    refine(if_pos (by simp;omega)).trans ?_
    show some (PV.yw (AL _ (aan q.2) _))=_
    rw[iL (f:=λc:Str×Option (Str×Str)=>c.1) Fl]
    unfold zi
    rw[aaW];rfl
   refine ae (show BX (zi Cj) _ _=_ from TC) ?_
   try lia
   refine ae (Eh (by simpa using MG)) ?_
   have DG:∀y,y∈zM (Cj++[(q.2,some (q.1,here))])↔y∈zM Cj\/y=q.2:=λy=>by simp[zM]
   refine k2 _ ⟨Cj++[(q.2,some (q.1,here))],Hk++[q.2],some ⟨0,.str q.1⟩,some ⟨0,.str q.2⟩,?_,⟨Fq.ok.snoc Fl Dz Pn,λy hy=>?_,λy hy=>?_,by have:=Fq.al;simp;omega⟩,(DG _).mpr (.inl Dz),λy hy hne hn r hr=>?_,λi r hi hr=>?_,?_⟩
   .rw[aaW];rfl
   .rcases(DG y).mp hy with z|rfl
    .exact Fq.DW y z
    .exact Dx here PC q Pn
   .rcases List.mem_append.mp hy with z|z
    .exact(DG y).mpr (.inl (Fq.sub y z))
    .simp at z;exact(DG y).mpr (.inr z)
   .rcases(DG y).mp hy with z|rfl
    .exact(DG _).mpr (.inl (N1 y z hne (λw=>hn (by simp[w])) r hr))
    .exact absurd (by simp) hn
   .by_cases ei:i<0+j
    .exact(DG _).mpr (.inl (seen i r ei hr))
    .have:i=j:=by omega
     subst this
     rw[hq]at hr;cases hr;exact(DG _).mpr (.inr rfl)
   .simp;omega
 .rintro e ⟨Cj,Hk,w5,w6,rfl,Fq,Dz,N1,seen,ms⟩
  refine km _ _ ms ⟨Cj,Hk,_,_,_,rfl,Fq,λy hy hn r hr=>?_,rfl⟩
  by_cases e:y=here
  .subst e
   obtain⟨i,hi,rfl⟩:=aee hr
   exact seen i _ (by simp;exact hi) (aaa hi)
  .exact N1 y hy e hn r hr
variable{p:Str}
theorem bF{L:Str->Str}(nd:ps.Nodup)(h:p∈ps):lE (yN ps L) (.str p)=some (.str (L p)):=by
 show zq _ (aan p)=_
 exact bp (f:=id) (g:=λp=>PV.str (L p)) (l:=ps) (a:=p) (by simpa using nd) h
theorem LW(ps:List Str)(ts:List iF):lE (iN ps ts) (.int 1)=some (.tup (ts.map aT)):=au (j:=1) rfl
theorem Jv(ps:List Str)(ts:List iF):lE (iN ps ts) (.int 0)=some (.tup (ps.map .str)):=au (j:=0) rfl
theorem iP(xs:List PV)(P:PV->Prop)(h:bg xs P):Q.run 1 bS xs P:=by
 obtain⟨ps,ts,rfl,hl,nd,h⟩:=h
 unfold bS
 lia
 simp only[HR]
 lia
 refine ae (LW ps ts) ?_
 lia
 refine dy (done:=[]) iF.nm aT aT nd (λt ht R hR=>?_) (by simp;omega) h
 show opt (lE (aT t) (.int 0)) _
 refine ae (z:=.str t.nm) (au (j:=0) rfl) ?_
 exact hR
theorem qA(xs:List PV)(P:PV->Prop)(h:dH xs P):Q.run 1 fQ xs P:=by
 obtain⟨ps,ts,rfl,hl,nd,h⟩:=h
 unfold fQ
 lia
 simp only[HR]
 lia
 refine ae (LW ps ts) ?_
 lia
 refine dy (done:=[]) iF.nm (λt=>.tup [.int t.cost,.str t.nm]) aT nd (λt ht R hR=>?_) (by simp;omega) h
 show opt (lE (aT t) (.int 0)) _
 refine ae (z:=.str t.nm) (au (j:=0) rfl) ?_
 show opt (lE (aT t) (.int 3)) _
 refine ae (z:=.int t.cost) (au (j:=3) rfl) ?_
 show opt (lE (aT t) (.int 0)) _
 refine ae (z:=.str t.nm) (au (j:=0) rfl) ?_
 exact hR
theorem kn(hl:ix.length=us.length)(nd:ix.Nodup)(lt:∀i∈ix,i<us.length):(ix.map λi=>us.getD i t0).Perm us:=by
 have h1:ix.Perm (aaS us.length):=by
  refine(afa nd acR).mpr λi=>?_
  rw[List.mem_range]
  refine⟨lt i,λhi=>?_⟩
  have:=bu nd (λx hx=>List.mem_range.mpr (lt x hx))
  exact abE λhn=>by
   have h2:(i::ix).Nodup:=List.nodup_cons.mpr ⟨hn,nd⟩
   have h3:=bu (ys:=aaS us.length) h2 (λx hx=>by
    rcases List.mem_cons.mp hx with rfl|hx
    .exact List.mem_range.mpr hi
    .exact List.mem_range.mpr (lt x hx))
   simp at h3;omega
 have h2:((aaS us.length).map λi=>us.getD i t0)=us:=by
  apply acx
  intro i
  rw[aah]
  by_cases hi:i<us.length
  .rw[abX hi];simp[hi]
  .rw[aaq (by simpa using hi),aaq (by omega)];rfl
 have h3:=h1.map λi=>us.getD i t0
 rw[h2]at h3
 exact h3
theorem gM{i j:Nat}(hi:i<us.length)(hj:j<us.length):AE (us.map λu=>(u.cost,u.nm)) i j=true↔zP (us.getD i t0) (us.getD j t0):=by
 have g:∀i,i<us.length->(us.map λu=>(u.cost,u.nm)).getD i (0,⟨#[]⟩)=((us.getD i t0).cost,(us.getD i t0).nm):=λi hi=>by
  rw[aac,aah,aaa hi,aac,aaa hi];rfl
 unfold AE zP
 rw[g i hi,g j hj,decide_eq_true_eq]
theorem cM{i:Nat}(hi:i<us.length):(us.map iF.nm).getD i ⟨#[]⟩=(us.getD i t0).nm:=by
 rw[aac,aah,aaa hi,aac,aaa hi];rfl
theorem g8(T:Addr×Addr)(c:PV)(xs:List PV)(P:PV->PV->Prop)(h:bN T c xs P):Q.A4 3 (bJ T) c xs P:=by
 obtain⟨rfl,ps,ts,us,rfl,hl,nd,zO,Nk,Dx,h⟩:=h
 unfold bJ
 simp only[A4,DE,Fm]
 refine ao λN hN=>?_
 lia
 refine⟨ps,ts,rfl,hl,nd,?_⟩
 lia
 subst hN
 simp only[ym,kG,eV,abP,ack]
 refine⟨us.map iF.nm,us.map λu=>(u.cost,u.nm),⟨.snd _ _,fT _,by simpa using zO,by simp,by rw[aaG];exact Nk,λm hm=>?_⟩,λix ok=>?_⟩
 .rw[aae]at hm
  have hu:us.getD m t0∈us:=by rw[aac,aaa hm];exact abK _
  have e:(us.map λu=>(u.cost,u.nm)).getD m k0=((us.getD m t0).cost,(us.getD m t0).nm):=by
   rw[aac,aah,aaa hm,aac,aaa hm];rfl
  rw[e,cM hm]
  exact bp (f:=iF.nm) (g:=λt=>PV.tup [.int t.cost,.str t.nm]) nd (Dx _ hu)
 .have lt:∀i∈ix,i<us.length:=λi hi=>by have:=ok.lt i hi;rwa [aae]at this
  have e:(ix.map λm=>PV.str ((us.map iF.nm).getD m ⟨#[]⟩))=((ix.map λi=>us.getD i t0).map iF.nm).map .str:=by
   rw[aaG,aaG]
   exact aaH λi hi=>by show PV.str _=PV.str _;rw[cM (lt i hi)]
  rw[e]
  refine h _ (kn (by have:=ok.len;rwa [aae]at this) ok.nd lt) ?_
  refine List.pairwise_map.mpr (abH (λhx hy hq=>?_) ok.up)
  exact(gM (lt _ hx) (lt _ hy)).mp hq
theorem ma(T:Addr×Addr)(c:PV)(xs:List PV)(P:PV->PV->Prop)(h:dB T c xs P):Q.A4 1 (da T) c xs P:=by
 obtain⟨rfl,ps,ts,rfl,ok,hp,ht,h⟩:=h
 unfold da
 have hf:=aa5 (yg ps) ts
 simp only[A4,DE,Fm]
 lia
 simp only[zd]
 lia
 refine⟨ps,ts,rfl,by omega,?_⟩
 lia
 refine⟨rfl,ps,ts,ts.filter (yg ps),rfl,by omega,bU ok,by omega,mj ok,λu hu=>(List.mem_filter.mp hu).1,λvs pm up=>?_⟩
 lia
 refine⟨ps,ts,vs,rfl,ok,hp,ht,pm,up,?_⟩
 exact h
theorem n8(a b:Str):Eg (.str a) (.str b)=some (.bl (!decide (a=b))):=by
 show some (PV.bl (!decide (V.str a=V.str b)))=_
 congr 3
 simp
theorem kX(ok:Ax ps ts):(AM ps ts).Pairwise yL:=ok.names.sublist ((List.filter_sublist.trans abY).map _)
theorem uY{vs:List iF}{gs:List Str}(ok:Ax ps ts)(pm:vs.Perm (ts.filter (yg ps)))(e:l=(vs.filter (zZ ps (ts.filter (yg ps)))).map iF.nm)(up:Ez l gs):gs=AM ps ts:=by
 have p:gs.Perm (AM ps ts):=by
  refine up.1.trans ?_
  rw[e]
  exact(pm.filter _).map _
 exact nS p (nR up.2 (p.nodup_iff.mpr (cR (kX ok)))) (kX ok)
theorem g5(xs:List PV)(P:PV->Prop)(h:bK xs P):Q.run 9 bH xs P:=by
 obtain⟨ps,ts,vs,rfl,ok,hp,ht,pm,up,h⟩:=h
 have pn:=cR ok.rise
 have tn:=bU ok
 have vl:vs.length<=60:=by rw[pm.length_eq];exact aaZ (aa5 _ _) ht
 have oo:∀u∈ts.filter (yg ps),yg ps u=true:=λu hu=>(List.mem_filter.mp hu).2
 have vo:∀u∈vs,yg ps u=true:=λu hu=>oo u (pm.mem_iff.mp hu)
 have vt:∀u∈vs,u∈ts:=λu hu=>(List.mem_filter.mp (pm.mem_iff.mp hu)).1
 unfold bH
 refine ao λN hN=>?_
 lia
 refine⟨ps,ts,rfl,by omega,tn,?_⟩
 lia
 subst hN
 refine ao λN hN=>?_
 lia
 simp only[HR]
 lia
 refine ae (Jv ps ts) ?_
 lia
 refine dy (done:=[]) (α:=Str) (λp=>p) PV.str PV.str (by simpa using pn) (λp hp R hR=>hR) (by simp;omega) ?_
 show N [some ⟨0,iN ps ts⟩,some ⟨0,.lst ((vs.map iF.nm).map .str)⟩,some ⟨0,.yw (ts.map λt=>(aan t.nm,aT t))⟩,some ⟨1,yN ps id⟩,none,none,none,none,none]
 subst hN
 refine ao λN hN=>?_
 lia
 subst hN
 refine ao λN hN=>bt λG B hG hB=>?_
 lia
 refine aV (λj e=>∃(g:Str->Str) (v5 v6 v7 v8:Option Sl),e=[some ⟨0,iN ps ts⟩,some ⟨0,.lst ((vs.map iF.nm).map .str)⟩,some ⟨0,.yw (ts.map λt=>(aan t.nm,aT t))⟩,some ⟨1,yN ps g⟩,some ⟨1,.lst ((((vs.take j).filter (zZ ps (ts.filter (yg ps)))).map iF.nm).map .str)⟩,v5,v6,v7,v8]/\Kr ps (vs.take j) g) (i:=0)
  ⟨id,none,none,none,none,rfl,Kr.nil⟩ ?_ ?_
 case refine_2=>
  rintro e ⟨g,v5,v6,v7,v8,rfl,hk⟩
  show N _
  rw[aae,aae,aaY,abm]
  subst hN
  simp only[ym,Cg,aS]
  lia
  simp only[AV]
  lia
  refine⟨_,fT _,?_,λgs us=>ae rfl ?_⟩
  .rw[aae]
   have:=aa5 (zZ ps (ts.filter (yg ps))) vs
   omega
  .rw[uY ok pm rfl us]
   exact h
 rintro j x e M hx ⟨g,v5,v6,v7,v8,rfl,hk⟩ k
 rw[aaY]at k hk ⊢
 have hj:j<vs.length:=by have:=(List.getElem?_eq_some_iff.mp hx).1;simpa using this
 obtain⟨t,et⟩:∃t,vs[j]?=some t:=⟨_,aaa hj⟩
 have ex:x=.str t.nm:=by
  rw[aah,aah,et]at hx
  exact(aao hx).symm
 have tv:t∈vs:=aaN et
 have ot:=vo t tv
 obtain⟨o1,o2⟩:=yW.mp ot
 have NU:vs.take (j+1)=vs.take j++[t]:=by rw[abx,et];rfl
 have oX:∀u∈vs.take j,yg ps u=true:=λu hu=>vo u (abM hu)
 have hm:∀u,u∈vs.take j↔u∈below (ts.filter (yg ps)) t:=λu=>by
  rw[x9,<- pm.mem_iff]
  have Iw:=List.pairwise_iff_getElem.mp up
  have Ke:vs[j]=t:=by rw[aaa hj]at et;exact aao et
  constructor
  .intro hu
   obtain⟨i,hi,e⟩:=List.mem_iff_getElem.mp hu
   rw[abT]at e
   have AR:i<j:=by rw[aaI]at hi;omega
   refine⟨abM hu,?_⟩
   rw[<- e,<- Ke]
   exact Iw i j (by omega) hj AR
  .rintro⟨hu,hc⟩
   obtain⟨i,hi,e⟩:=List.mem_iff_getElem.mp hu
   rcases adp i j with z|z|z
   .rw[List.mem_iff_getElem]
    exact⟨i,by rw[aaI];omega,by rw[abT];exact e⟩
   .subst z
    rw[Ke]at e;subst e
    exact absurd hc (bG _)
   .have:=Iw j i hj hi z
    rw[Ke,e]at this
    exact absurd hc (jH this)
 have mn:=Kr.min oX oo ot hk hm
 have st:=Kr.step oX ot pn hk
 rw[<- NU]at st
 subst ex hG hB
 show oR _ _ _ [some ⟨0,iN ps ts⟩,some ⟨0,.lst ((vs.map iF.nm).map .str)⟩,some ⟨0,.yw (ts.map λt=>(aan t.nm,aT t))⟩,some ⟨1,yN ps g⟩,some ⟨1,.lst ((((vs.take j).filter (zZ ps (ts.filter (yg ps)))).map iF.nm).map .str)⟩,some ⟨0,.str t.nm⟩,v6,v7,v8]
 refine ao λN' AS=>?_
 lia
 refine ae (z:=aT t) (bp (f:=iF.nm) (g:=aT) tn (vt t tv)) ?_
 show N' _
 subst AS
 refine ao λN' AS=>?_
 lia
 simp only[Bs]
 lia
 refine ae (z:=PV.str t.one) (au (j:=1) rfl) ?_
 try lia
 refine ae (bF pn o1) ?_
 try lia
 refine ae (z:=PV.str t.x8) (au (j:=2) rfl) ?_
 try lia
 refine ae (bF pn o2) ?_
 try lia
 show N' _
 subst AS
 refine aL λA1 B1 Bp Am=>?_
 lia
 refine ae (n8 _ _) ?_
 lia
 have fe:(vs.take (j+1)).filter (zZ ps (ts.filter (yg ps)))=(vs.take j).filter (zZ ps (ts.filter (yg ps)))++(if zZ ps (ts.filter (yg ps)) t=true then [t]else []):=by
  rw[NU,List.filter_append]
  congr 1
  rw[acS,List.filter_nil]
 have kl:((vs.take j).filter (zZ ps (ts.filter (yg ps)))).length<=60:=aaZ (aa5 _ _) (by rw[aaI];omega)
 by_cases hg:g t.one=g t.x8
 .rw[decide_eq_true hg,Bool.not_true,if_neg (by simp)]
  subst Am
  refine k _ ⟨g,some ⟨0,.str t.nm⟩,some ⟨0,aT t⟩,some ⟨0,.str (g t.one)⟩,some ⟨0,.str (g t.x8)⟩,?_,st.1 hg⟩
  rw[fe,if_neg (λz=>(mn.mpr (zv.mp z)) hg),abb]
 .rw[decide_eq_false hg,aea,if_pos rfl]
  subst Bp
  refine ao λN' AS=>?_
  lia
  refine ae (Eh (by simp;omega)) ?_
  show N' [some ⟨0,iN ps ts⟩,some ⟨0,.lst ((vs.map iF.nm).map .str)⟩,some ⟨0,.yw (ts.map λt=>(aan t.nm,aT t))⟩,some ⟨1,yN ps g⟩,some ⟨1,.lst ((((vs.take j).filter (zZ ps (ts.filter (yg ps)))).map iF.nm).map .str++[.str t.nm])⟩,some ⟨0,.str t.nm⟩,some ⟨0,aT t⟩,some ⟨0,.str (g t.one)⟩,some ⟨0,.str (g t.x8)⟩]
  subst AS
  show Bu _ _ _ _ _ _ ((ps.map λp=>((aan p:Key),PV.str (g p))).map Du) _ []
  rw[aaG]
  refine dy (done:=[]) (α:=Str) (λp=>p) (λp=>PV.str (if g p=g t.x8 then g t.one else g p)) (Du ∘ λp=>((aan p:Key),PV.str (g p))) (by simpa using pn) (λp hp R hR=>?_) (by simp;omega) ?_
  .refine⟨rfl,?_⟩
   show opt (yU (.str (g p)) (.str (g t.x8))) _
   refine ae (eq_str _ _) ?_
   show opt (some (g p==g t.x8)) _
   refine A5.mpr ?_
   by_cases z:g p=g t.x8
   .rw[if_pos z]at hR
    rw[beq_iff_eq.mpr z]
    exact hR
   .rw[if_neg z]at hR
    rw[beq_eq_false_iff_ne.mpr z]
    exact hR
  .refine k _ ⟨λp=>if g p=g t.x8 then g t.one else g p,some ⟨0,.str t.nm⟩,some ⟨0,aT t⟩,some ⟨0,.str (g t.one)⟩,some ⟨0,.str (g t.x8)⟩,?_,st.2 hg⟩
   have e:(((vs.take (j+1)).filter (zZ ps (ts.filter (yg ps)))).map iF.nm).map PV.str=(((vs.take j).filter (zZ ps (ts.filter (yg ps)))).map iF.nm).map PV.str++[.str t.nm]:=by
    rw[fe,if_pos (zv.mpr (mn.mp hg)),aaW,aaW];rfl
   rw[e]
   rfl
theorem tT(n:Nat):DJ [.lst ((aaC n true).map .bl)]=some (.bl true):=by
 rw[rS]
 congr 2
 induction n with
 |zero=>rfl
 |succ n ih=>rw[aa6,List.all_cons,ih];rfl
theorem sT(l:List PV):l.map (λ_=>PV.bl true)=(aaC l.length true).map .bl:=by
 rw[List.map_replicate]
 induction l with
 |nil=>rfl
 |cons a l ih=>rw[aau,aaR,aa6,ih]
theorem s0:A8 (.str x) (.lst (ns.map .str))=some (.bl (decide (x∈ns))):=pI
theorem sw(xs:List PV)(P:PV->Prop)(h:i0 xs P):Q.run 2 ir xs P:=by
 obtain⟨ps,ns,ts,hx,hl,Fj,h⟩:=h
 obtain⟨nv,rfl,Dx⟩:∃nv,xs=[iN ps ts,nv]/\∀x:Str,A8 (.str x) nv=some (.bl (decide (x∈ns))):=by
  rcases hx with rfl|rfl
  .exact⟨_,rfl,λx=>bZ⟩
  .exact⟨_,rfl,λx=>s0⟩
 unfold ir
 have e0:lE (iN ps ts) (.int 0)=some (.tup (ps.map .str)):=au (j:=0) rfl
 have e1:lE (iN ps ts) (.int 1)=some (.tup (ts.map aT)):=au (j:=1) rfl
 lia
 refine ae e0 (ae e1 ?_)
 lia
 refine cW (λx=>match x with|.tup [.str a,.str b,.str c,.int d]=>if zX ns ⟨a,b,c,d⟩=true then some (.tup [.str a,.str b,.str c,.int d])else none|_=>none) (λx hx R hR=>?_) (by simp;omega) ?_
 .obtain⟨t,ht,rfl⟩:=List.mem_map.mp hx
  refine ae (z:=.str t.nm) (au (j:=0) rfl) (ae (Dx _) ?_)
  replace hR:R (if zX ns t=true then some (aT t)else none) [some ⟨0,iN ps ts⟩,some ⟨0,nv⟩]:=hR
  show opt (some (zX ns t)) _
  rw[cV]
  cases e:zX ns t with
  |false=>rw[e]at hR;exact hR
  |true=>rw[e]at hR;exact hR
 .rw[acb,acL]
  have e:ts.filterMap ((λx=>match x with|PV.tup [.str a,.str b,.str c,.int d]=>if zX ns ⟨a,b,c,d⟩=true then some (.tup [.str a,.str b,.str c,.int d])else none|_=>none) ∘ aT)=(ts.filter (zX ns)).map aT:=bC (zX ns) aT ts
  rw[e]
  exact ae rfl h
theorem uc(nd:(zM cs).Nodup){i j:Nat}{v w:Option (Str×Str)}(h1:cs[i]?=some (a,v))(h2:cs[j]?=some (a,w)):i=j:=by
 have g1:(zM cs)[i]?=some a:=by rw[aah,h1];rfl
 have g2:(zM cs)[j]?=some a:=by rw[aah,h2];rfl
 obtain⟨i1,i2⟩:=List.getElem?_eq_some_iff.mp g1
 obtain⟨j1,j2⟩:=List.getElem?_eq_some_iff.mp g2
 exact(abh nd).mp (i2.trans j2.symm)
theorem xY(nd:(zM cs).Nodup){i:Nat}{v:Option (Str×Str)}(h:cs[i]?=some (a,v)):lE (zi cs) (.str a)=some (DF v):=by
 have:=bp (f:=λc:Str×Option (Str×Str)=>c.1) (g:=λc=>DF c.2) (l:=cs) (a:=(a,v)) nd (aaN h)
 exact this
theorem ub(h:y∈zM cs):∃(i:Nat) (v:Option (Str×Str)),cs[i]?=some (y,v):=by
 obtain⟨c,hc,rfl⟩:=List.mem_map.mp h
 obtain⟨i,hi,e⟩:=List.mem_iff_getElem.mp hc
 exact⟨i,c.2,by rw[aaa hi,e]⟩
theorem uF(xs:List PV)(P:PV->Prop)(h:kK xs P):Q.run 8 jL xs P:=by
 obtain⟨ps,ts,fs,one,x8,rfl,nt,tn,fl,h1,h2,hN,hW⟩:=h
 have snd:((Bz ps fs ts).map iF.nm).Nodup:=tn.sublist ((List.filter_sublist.trans abY:(Bz ps fs ts).Sublist ts).map _)
 unfold jL
 refine ao λN AS=>?_
 lia
 refine⟨ps,fs,ts,.inl rfl,nt.tl,fl,?_⟩
 refine⟨ps,ts.filter (zX fs),rfl,⟨nt.rise,λt ht=>nt.ne t (List.mem_filter.mp ht).1,nt.pl,aaZ (aa5 _ _) nt.tl⟩,?_⟩
 refine⟨ps,yO ps (ts.filter (zX fs)),x8,rfl,cR nt.rise,h2,λp hp q hq=>vQ q hq,by have:=nt.pl;omega,λcs ok sub cl=>?_⟩
 have Uq:cs.length<=60:=by
  have:=bu ok.nd sub
  rw[aae]at this
  have:=nt.pl
  omega
 subst AS
 refine ao λN AS=>?_
 lia
 refine ae kf ?_
 by_cases hc:one∈zM cs
 case neg=>
  rw[rN hc]
  lia
  exact hN λr=>hc ((ok.iff cl).mpr r)
 obtain⟨c,_,_,ec⟩:=oO ok.nd hc
 rw[ec]
 lia
 show N _
 subst AS
 refine ao λN AS=>?_
 lia
 subst AS
 refine ao λN AS=>?_
 lia
 subst AS
 refine ao λN AS=>kM λC B hC hB=>?_
 obtain⟨k0,w0,Rl⟩:=ub hc
 refine kT (λk e=>∃(ns:List Str) (y:Str) (w:Option (Str×Str)) (v7:Option Sl),e=[some ⟨0,iN ps ts⟩,some ⟨0,.tup (fs.map .str)⟩,some ⟨0,.str one⟩,some ⟨0,.str x8⟩,some ⟨0,zi cs⟩,some ⟨1,.lst (ns.map .str)⟩,some ⟨0,.str y⟩,v7]/\cs[k]?=some (y,w)/\Wk (Bz ps fs ts) one ns y/\ns.Nodup/\ns.length+k<=60/\∀n∈ns,∃i,k<i/\∃y' x',cs[i]?=some (y',some (n,x'))) ?_ (k:=k0)
  ⟨[],one,w0,none,rfl,Rl,rfl,by simp,by have:=(List.getElem?_eq_some_iff.mp Rl).1;simp;omega,by simp⟩
 rintro k e M ⟨ns,y,w,v7,rfl,hk,hw,nd,hl,hu⟩ km
 subst hC
 lia
 refine ae (n8 _ _) ?_
 lia
 by_cases e:y=x8
 .rw[decide_eq_true e]
  lia
  show N _
  subst AS
  lia
  refine ae rfl (hW ns (e ▸ hw) nd (by omega))
 rw[decide_eq_false e]
 lia
 rcases ok.tree k _ hk with ⟨rfl,e2⟩|⟨_,nm,x,e2,e3,e4⟩
 .cases e2;exact absurd rfl e
 have e2:w=some (nm,x):=e2
 subst e2
 obtain⟨j,w',hj⟩:=ub e4
 have DY:j<k:=by
  have:=(List.getElem?_eq_some_iff.mp hj).1
  rw[aaI]at this;omega
 have Bn:cs[j]?=some (x,w'):=by rw[List.getElem?_take_of_lt DY]at hj;exact hj
 obtain⟨t,ht,en,q⟩:=((mJ ps fs ts).mem _ _ _).mp e3
 have Sg:nm∉ns:=λz=>by
  obtain⟨i,hi,y',x',hy⟩:=hu nm z
  rcases ok.tree i _ hy with ⟨rfl,_⟩|⟨_,UG,x2,g2,g3,g4⟩
  .exact absurd hi (Nat.not_lt_zero _)
  .cases g2
   obtain⟨t',JH,TF,q'⟩:=((mJ ps fs ts).mem _ _ _).mp g3
   have:t=t':=ba snd ht JH (en.symm.trans TF)
   subst this
   rcases Ends.two q q' with ⟨_,z2⟩|⟨_,z2⟩
   .have z2:y'=y:=z2
    subst z2
    have:=uc ok.nd hk hy;omega
   .have z2:y'=x:=z2
    subst z2
    have:=uc ok.nd Bn hy;omega
 subst hB
 refine ao λM' P5=>?_
 lia
 refine ae (xY ok.nd hk) ⟨rfl,?_⟩
 show M' [some ⟨0,iN ps ts⟩,some ⟨0,.tup (fs.map .str)⟩,some ⟨0,.str one⟩,some ⟨0,.str x8⟩,some ⟨0,zi cs⟩,some ⟨1,.lst (ns.map .str)⟩,some ⟨0,.str x⟩,some ⟨0,.str nm⟩]
 subst P5
 lia
 refine ae (Eh (by rw[aae];omega)) ?_
 refine km j _ DY ⟨ns++[nm],x,w',some ⟨0,.str nm⟩,by rw[aaW];rfl,Bn,hw.app ⟨t,ht,en.symm,x,Ends.sym q,rfl⟩,?_,by simp;omega,λn hn=>?_⟩
 .rw[adq]
  exact⟨nd,by simp,λa ha b hb=>by simp at hb;subst hb;exact λe=>Sg (e ▸ ha)⟩
 .rcases List.mem_append.mp hn with z|z
  .obtain⟨i,hi,r⟩:=hu n z
   exact⟨i,by omega,r⟩
  .simp at z;subst z
   exact⟨k,DY,y,x,hk⟩
theorem sC(xs:List PV)(P:PV->Prop)(h:fH xs P):Q.Hu 1 fg xs P:=by
 obtain⟨ps,ts,rfl,hl,h⟩:=h
 unfold fg
 have e0:lE (iN ps ts) (.int 0)=some (.tup (ps.map .str)):=au (j:=0) rfl
 have e1:lE (iN ps ts) (.int 1)=some (.tup (ts.map aT)):=au (j:=1) rfl
 simp only[Hu,Kg,FY]
 lia
 refine ae e1 ?_
 lia
 refine cW (λx=>match x with|.tup [.str a,.str b,.str c,.int d]=>if yg ps ⟨a,b,c,d⟩=true then some (.tup [.str a,.str b,.str c,.int d])else none|_=>none) (λx hx R hR=>?_) (by simp;omega) ?_
 .obtain⟨t,ht,rfl⟩:=List.mem_map.mp hx
  refine ae (z:=.str t.one) (au (j:=1) rfl) (ae e0 (ae bZ ?_))
  replace hR:R (if yg ps t=true then some (aT t)else none) [some ⟨0,iN ps ts⟩]:=hR
  unfold yg at hR
  show opt (some (decide (t.one∈ps))) _
  rw[cV]
  cases e:decide (t.one∈ps)with
  |false=>rw[e]at hR;exact hR
  |true=>
   rw[e,Bool.true_and]at hR
   refine ae (z:=.str t.x8) (au (j:=2) rfl) (ae e0 (ae bZ ?_))
   show opt (some (decide (t.x8∈ps))) _
   rw[cV]
   cases e2:decide (t.x8∈ps)with
   |false=>rw[e2]at hR;exact hR
   |true=>rw[e2]at hR;exact hR
 .rw[acb,acL]
  have e:ts.filterMap ((λx=>match x with|PV.tup [.str a,.str b,.str c,.int d]=>if yg ps ⟨a,b,c,d⟩=true then some (.tup [.str a,.str b,.str c,.int d])else none|_=>none) ∘ aT)=(ts.filter (yg ps)).map aT:=bC (yg ps) aT ts
  rw[e]
  exact h
theorem vZ(hl:m<us.length)(nd:(us.map iF.nm).Nodup)(h:Dh (us.map λu=>(u.cost,u.nm)) us.length m):Top us (us.getD m t0):=by
 have gm:∀i,i<us.length->us.getD i t0∈us/\us[i]?=some (us.getD i t0):=λi hi=>by
  rw[aac,aaa hi]
  exact⟨abK _,rfl⟩
 refine⟨(gm m hl).1,λu hu hn=>?_⟩
 obtain⟨i,hi,rfl⟩:=aee hu
 have e:us[i]=us.getD i t0:=by rw[aac,aaa hi];rfl
 rw[e]at hn ⊢
 exact(gM hi hl).mp (h.2 i hi λz=>hn (by rw[z]))
theorem j8(T:Addr×Addr)(c:PV)(xs:List PV)(P:PV->PV->Prop)(h:cx T c xs P):Q.A4 3 (ci T) c xs P:=by
 obtain⟨rfl,ps,ts,us,rfl,hl,nd,zO,Nk,Dx,hne,h⟩:=h
 unfold ci
 simp only[A4,DE,Fm]
 refine ao λN hN=>?_
 lia
 refine⟨ps,ts,rfl,hl,nd,?_⟩
 lia
 subst hN
 simp only[ym,Eu,eV,abP,ack]
 refine⟨us.map iF.nm,us.map λu=>(u.cost,u.nm),⟨.fst _ _,fT _,by simpa using zO,by simp,by rw[aaG];exact Nk,λm hm=>?_⟩,λz=>?_,λm mx=>?_⟩
 .rw[aae]at hm
  have hu:us.getD m t0∈us:=by rw[aac,aaa hm];exact abK _
  have e:(us.map λu=>(u.cost,u.nm)).getD m k0=((us.getD m t0).cost,(us.getD m t0).nm):=by
   rw[aac,aah,aaa hm,aac,aaa hm];rfl
  rw[e,cM hm]
  exact bp (f:=iF.nm) (g:=λt=>PV.tup [.int t.cost,.str t.nm]) nd (Dx _ hu)
 .rw[aae]at z
  exact absurd (List.length_eq_zero_iff.mp z) hne
 .rw[aae]at mx
  rw[cM mx.1]
  exact h _ (vZ mx.1 Nk mx)
theorem ux{L:Str->Str}{v:Str}(h:p∈ps)(hl:ps.length<=60):BX (yN ps L) (.str p) (.str v)=some (yN ps λx=>if x=p then v else L x):=by
 show (if (ps.map λp=>((aan p:Key),PV.str (L p))).length<=100000 then some (PV.yw (AL (ps.map λp=>((aan p:Key),PV.str (L p))) (aan p) (.str v)))else none)=_
 rw[aae,if_pos (by omega),si h]
 unfold yN
 refine congrArg (λl=>some (PV.yw l)) (aaH λx _=>?_)
 by_cases e:x=p
 .simp only[e,if_true]
 .simp only[e,if_false]
def rl(ps:List Str)(L:Str->Str)(gone new:Str)(j:Nat):Str->Str:=λp=>if p∈ps.take j/\L p=gone then new else L p
theorem dE{L M:Str->Str}(h:∀p∈ps,L p=M p):yN ps L=yN ps M:=by
 unfold yN
 exact congrArg PV.yw (aaH λp hp=>by rw[h p hp])
theorem pi(ps:List Str):(ps.map λp=>PV.tup [.str p,.str p]).mapM B4=some (ps.map λp=>((aan p:Key),PV.str p)):=by
 induction ps with
 |nil=>rfl
 |cons p ps ih=>rw[aau,abt,ih];rfl
theorem mT:∀(ps:List Str),ps.Nodup->∀n,n<=ps.length->BF ((ps.take n).map λp=>((aan p:Key),PV.str p))=(ps.take n).map λp=>((aan p:Key),PV.str p)
 |ps,nd,0,_=>rfl
 |ps,nd,n+1,h=>by
  have hn:n<ps.length:=h
  rw[abx,aaa hn]
  simp only[Option.toList_some,aaW,aau,adT]
  unfold BF
  rw[ads]
  have ih:=mT ps nd n (by omega)
  unfold BF at ih
  rw[ih]
  show AL _ _ _=_
  refine iL (f:=id) (g:=λp=>PV.str p) (l:=ps.take n) (y:=ps[n]) ?_
  rw[List.map_id]
  intro z
  obtain⟨j,hj,e⟩:=List.mem_take_iff_getElem.mp z
  have:=(abh nd).mp e
  omega
theorem sX(nd:ps.Nodup)(hl:ps.length<=1000):C8 [.lst (ps.map λp=>PV.tup [.str p,.str p])]=some (yN ps id):=by
 show (if (ps.map λp=>PV.tup [.str p,.str p]).length<=1000 then ((ps.map λp=>PV.tup [.str p,.str p]).mapM B4).map (λkvs=>PV.yw (BF kvs))else none)=_
 rw[if_pos (by simpa using hl),pi]
 show some (PV.yw (BF _))=_
 have:=mT ps nd ps.length (aam _)
 rw[abm]at this
 rw[this];rfl
theorem ig{l:List iF}(h:(l.map iF.nm).Nodup):l.Nodup:=(List.pairwise_map.mp h).imp λq e=>q (congrArg _ e)
theorem uq{done:List iF}(nd:(os.map iF.nm).Nodup)(R:II ps os done L)(h:∀u∈os,u∈done):L.Perm (os.filter (zZ ps os)):=by
 have n:=ig nd
 refine(afa (n.sublist R.sub) (n.sublist abY)).mpr λu=>?_
 rw[ac3]
 constructor
 .intro hu
  have ho:=R.sub.subset hu
  refine⟨ho,zv.mpr ?_⟩
  rcases(R.mem u ho).mp hu with z|z
  .exact absurd (h u ho) z
  .exact z
 .rintro⟨ho,hm⟩
  exact(R.mem u ho).mpr (.inr (zv.mp hm))
section
variable{one x8:Str}
theorem mr:∀{ns:List Str},(∀n∈ns,∃t∈os,t.nm=n)->∃us:List iF,us.map iF.nm=ns/\∀u∈us,u∈os
 |[],_=>⟨[],rfl,by simp⟩
 |n::ns,h=>by
  obtain⟨t,ht,e⟩:=h n aay
  obtain⟨us,e2,hu⟩:=mr λm hm=>h m (aar _ hm)
  exact⟨t::us,by rw[aau,e,e2],λu Mr=>by
   rcases List.mem_cons.mp Mr with rfl|z
   .exact ht
   .exact hu u z⟩
theorem Top.Qo(nd:(ts.map iF.nm).Nodup)(w:Wk (x4 ps ts) one (us.map iF.nm) x8)(d:(us.map iF.nm).Nodup)(hu:∀u∈us,u∈x4 ps ts)(h:Top us t):DR ps ts one x8 (us.map iF.nm) t :=
 ⟨w,d,hu t h.1,abv h.1,λu ut un ne=>by
  obtain⟨v,hv,e⟩:=List.mem_map.mp un
  rw[<- ba (dZ nd) (hu v hv) ut e]
  exact h.2 v hv (by rw[e];exact ne)⟩
end
section
variable{one x8:Str}
end
theorem kR{D:Fd}{d:Nat}(hD:∀a,Tr d a->∀Q:PV->Prop,Q (.bl true)->D [a,a] Q)(a:PV)(ha:Tr (d+1) a)(P:PV->Prop)(h:P (.bl true)):Q.run 2 (cj D) [a,a] P:=by
 unfold cj
 rcases ha with ⟨s,rfl⟩|⟨n,rfl⟩|rfl|⟨l,rfl,hl,hy⟩
 .refine ao λN hN=>aL λA1 B1 Bp Am=>?_
  lia
  subst Am
  show N _
  subst hN
  refine ao λN hN=>aL λA1 B1 Bp Am=>?_
  lia
  refine ae (z:=.bl false) rfl (ae (z:=false) rfl ?_)
  rw[if_neg (by simp)]
  subst Am
  show N _
  subst hN
  refine ao λN hN=>aL λA1 B1 Bp Am=>?_
  lia
  subst Am
  show N _
  subst hN
  refine ao λN hN=>aL λA1 B1 Bp Am=>?_
  lia
  subst Bp
  lia
  exact ae (z:=.bl true) (by rw[eq_str];simp) h
 .refine ao λN hN=>aL λA1 B1 Bp Am=>?_
  lia
  subst Am
  show N _
  subst hN
  refine ao λN hN=>aL λA1 B1 Bp Am=>?_
  lia
  refine ae (z:=.bl false) rfl (ae (z:=false) rfl ?_)
  rw[if_neg (by simp)]
  subst Am
  show N _
  subst hN
  refine ao λN hN=>aL λA1 B1 Bp Am=>?_
  lia
  subst Am
  show N _
  subst hN
  refine ao λN hN=>aL λA1 B1 Bp Am=>?_
  lia
  subst Am
  show N _
  subst hN
  lia
  exact ae (z:=.bl true) (by show some (PV.bl (n==n))=_;simp) h
 .refine ao λN hN=>aL λA1 B1 Bp Am=>?_
  lia
  subst Am
  show N _
  subst hN
  refine ao λN hN=>aL λA1 B1 Bp Am=>?_
  lia
  refine ae (z:=.bl true) rfl (ae (z:=true) rfl ?_)
  rw[if_pos rfl]
  subst Bp
  lia
  exact ae (z:=.bl true) rfl h
 .refine ao λN hN=>aL λA1 B1 Bp Am=>?_
  lia
  subst Bp
  refine ao λN2 Tj=>aL λA2 B2 US Tw=>?_
  lia
  refine ae (z:=.bl false) (by rw[ne_int];simp) (ae (z:=false) rfl ?_)
  rw[if_neg (by simp)]
  subst Tw
  show N2 _
  subst Tj
  lia
  try (simp only[iZ];lia)
  have ez:Dl l l=l.map λy=>.tup [y,y]:=by
   unfold Dl
   clear hy hl h
   induction l with
   |nil=>rfl
   |cons a l ih=>rw[ab6,aau,aau,ih]
  rw[ez]
  refine iW (λ_=>.bl true) (λz hz R hR=>?_) (by rw[aae,acd];omega) ?_
  .obtain⟨y,Sq,rfl⟩:=List.mem_map.mp hz
   exact⟨rfl,hD y (hy y Sq) _ hR⟩
  rw[acb,sT]
  exact ae (tT _) h
theorem uI(xs:List PV)(P:PV->Prop)(h:g0 xs P):Q.run 1 jN xs P:=by
 obtain⟨t,rfl,h⟩:=h
 unfold jN
 lia
 exact ae (z:=.int t.cost) (au (j:=3) rfl) (ae (z:=.str t.nm) (au (j:=0) rfl) h)
theorem wM(nd:(ts.map iF.nm).Nodup){a b:iF}(ha:a∈ts)(hb:b∈ts):neT (aT a) (aT b)=some (.bl (decide (a.nm≠b.nm))):=by
 show (some ((([a.nm==b.nm,a.one==b.one,a.x8==b.x8,a.cost==b.cost]:List Bool).all id) && true)).map (λb=>PV.bl (!b))=_
 show some (PV.bl (!((([a.nm==b.nm,a.one==b.one,a.x8==b.x8,a.cost==b.cost]:List Bool).all id) && true)))=_
 congr 2
 by_cases e:a.nm=b.nm
 .have:=ba nd ha hb e
  subst this
  simp
 .simp[e]
theorem pz(xs:List PV)(P:PV->Prop)(h:cO xs P):Q.run 10 fj xs P:=by
 obtain⟨ps,us,rfl,pn,hp,UI,Dx,h⟩:=h
 unfold fj
 refine ao λN hN=>?_
 lia
 refine iW (λx=>.tup [x,x]) (λx hx R hR=>hR) (by simp;omega) ?_
 rw[acb,aaG]
 refine ae (z:=yN ps id) (sX pn (by omega)) ?_
 show N [some ⟨0,.tup (ps.map .str)⟩,some ⟨0,.lst (us.map aT)⟩,some ⟨1,yN ps (Af (us.take 0))⟩,none,none,none,none,none,none,none]
 subst hN
 refine ao λN hN=>bt λG B hG hB=>?_
 lia
 refine aV (λj e=>∃v3 v4 v5 v6 v7 v8 v9,e=[some ⟨0,.tup (ps.map .str)⟩,some ⟨0,.lst (us.map aT)⟩,some ⟨1,yN ps (Af (us.take j))⟩,v3,v4,v5,v6,v7,v8,v9]) (i:=0) ⟨none,none,none,none,none,none,none,rfl⟩ ?_ ?_
 case refine_2=>
  rintro e ⟨v3,v4,v5,v6,v7,v8,v9,rfl⟩
  show N _
  rw[aae,aaY,abm]
  subst hN
  exact h
 rintro j x e M hx ⟨v3,v4,v5,v6,v7,v8,v9,rfl⟩ k
 rw[aaY]at k ⊢
 rw[aah,aap]at hx
 obtain⟨t,et,rfl⟩:=hx
 obtain⟨o1,o2⟩:=yW.mp (Dx t (aaN et))
 have eL:Af (us.take (j+1))=Gq (Af (us.take j)) t:=by
  rw[abx,et]
  exact qS _ _
 rw[eL]at k
 generalize Af (us.take j)=g at k ⊢
 subst hG hB
 rw[show aT t=.tup [.str t.nm,.str t.one,.str t.x8,.int t.cost]from rfl]
 lia
 simp only[F8,aS,iD,Bs]
 lia
 try simp only[Bs]
 try lia
 refine ae (bF pn o1) ?_
 try lia
 try simp only[Bs]
 try lia
 refine ae (bF pn o2) ?_
 try lia
 show A0 _ _ _ _ [some ⟨0,.tup (ps.map .str)⟩,some ⟨0,.lst (us.map aT)⟩,some ⟨1,yN ps g⟩,some ⟨0,.str t.nm⟩,some ⟨0,.str t.one⟩,some ⟨0,.str t.x8⟩,some ⟨0,.int t.cost⟩,some ⟨0,.str (g t.one)⟩,some ⟨0,.str (g t.x8)⟩,v9]
 refine bt λG B hG hB=>?_
 lia
 subst hG hB
 have e0:yN ps (rl ps g (g t.x8) (g t.one) 0)=yN ps g:=dE λp hp=>by unfold rl;rw[if_neg (by simp)]
 refine aV (λi e=>∃v9:Option Sl,e=[some ⟨0,.tup (ps.map .str)⟩,some ⟨0,.lst (us.map aT)⟩,some ⟨1,yN ps (rl ps g (g t.x8) (g t.one) i)⟩,some ⟨0,.str t.nm⟩,some ⟨0,.str t.one⟩,some ⟨0,.str t.x8⟩,some ⟨0,.int t.cost⟩,some ⟨0,.str (g t.one)⟩,some ⟨0,.str (g t.x8)⟩,v9]) (i:=0)
  ⟨v9,by rw[e0]⟩ ?_ ?_
 case refine_2=>
  rintro e ⟨v9,rfl⟩
  dsimp only
  rw[aae,aaY,dE (M:=Gq g t) λp hp=>by unfold rl Gq;simp[hp]]
  exact k _ ⟨_,_,_,_,_,_,_,rfl⟩
 rintro i x e M' hx ⟨v9,rfl⟩ k'
 rw[aaY]at k' ⊢
 rw[aah,aap]at hx
 obtain⟨p,ep,rfl⟩:=hx
 have QY:p∈ps:=aaN ep
 have pf:p∉ps.take i:=λz=>by
  obtain⟨a,ha,e⟩:=List.mem_iff_getElem.mp z
  rw[aaI]at ha
  obtain⟨h1,h2⟩:=List.getElem?_eq_some_iff.mp ep
  rw[abT,<- h2]at e
  have:=(abh pn).mp e
  omega
 have e1:rl ps g (g t.x8) (g t.one) i p=g p:=by unfold rl;rw[if_neg λz=>pf z.1]
 have e2:∀q,q∈ps.take (i+1)↔q∈ps.take i\/q=p:=λq=>by
  rw[abx,ep]
  simp
 lia
 simp only[Bs]
 lia
 refine ae (bF pn QY) ?_
 try lia
 rw[e1]
 refine ae (eq_str _ _) (ae rfl ?_)
 by_cases z:g p=g t.x8
 .rw[beq_iff_eq.mpr z,if_pos rfl]
  simp only[FZ]
  lia
  refine ae (ux QY hp) ?_
  rw[dE (M:=rl ps g (g t.x8) (g t.one) (i+1)) λq hq=>?_]
  exact k' _ ⟨_,rfl⟩
  unfold rl
  by_cases w:q=p
  .rw[if_pos w,if_pos ⟨(e2 q).mpr (.inr w),by rw[w];exact z⟩]
  .rw[if_neg w]
   refine ite_congr (propext ?_) (λ_=>rfl) (λ_=>rfl)
   rw[e2]
   exact⟨λu=>⟨.inl u.1,u.2⟩,λu=>⟨u.1.resolve_right w,u.2⟩⟩
 .rw[beq_eq_false_iff_ne.mpr z,if_neg (by simp)]
  rw[dE (M:=rl ps g (g t.x8) (g t.one) (i+1)) λq hq=>?_]
  exact k' _ ⟨_,rfl⟩
  unfold rl
  refine ite_congr (propext ?_) (λ_=>rfl) (λ_=>rfl)
  rw[e2]
  exact⟨λu=>⟨.inl u.1,u.2⟩,λu=>⟨u.1.resolve_right λw=>z (w ▸ u.2),u.2⟩⟩
theorem w8(ok:Kq true (os.map λu=>(u.cost,u.nm)) (os.map aT).length ix):∃ds:List iF,ds.Perm os/\ds.Pairwise (λa b=>zP b a)/\(ix.map λi=>(os.map aT).getD i .lT)=ds.map aT:=by
 have lt:∀i∈ix,i<os.length:=λi hi=>by have:=ok.lt i hi;rwa [aae]at this
 refine⟨ix.map λi=>os.getD i t0,kn (by have:=ok.len;rwa [aae]at this) ok.nd lt,?_,?_⟩
 .refine List.pairwise_map.mpr (abH (λhx hy hq=>?_) ok.up)
  exact(gM (lt _ hy) (lt _ hx)).mp hq
 .rw[aaG]
  refine aaH λi hi=>?_
  show (os.map aT).getD i .lT=aT (os.getD i t0)
  rw[aac,aac,aah,aaa (lt i hi)];rfl
def Iq(n:Str):PV->Option PV
 |.tup [.str a,.str b,.str c,.int d]=>if decide (a≠n)=true then some (.tup [.str a,.str b,.str c,.int d])else none
 |_=>none
theorem sA(xs:List PV)(P:PV->Prop)(h:i7 xs P):Q.run 5 iu xs P:=by
 obtain⟨ps,ts,rfl,ok,hp,ht,h⟩:=h
 have pn:=cR ok.rise
 have on:=mj ok
 have ol:(ts.filter (yg ps)).length<=60:=aaZ (aa5 _ _) ht
 have oo:∀u∈ts.filter (yg ps),yg ps u=true:=λu hu=>(List.mem_filter.mp hu).2
 unfold iu
 refine ao λN hN=>?_
 try lia
 refine⟨ps,ts,rfl,by omega,?_⟩
 try lia
 show N [some ⟨0,iN ps ts⟩,some ⟨0,.lst ((ts.filter (yg ps)).map aT)⟩,none,none,none]
 subst hN
 unfold er at on
 have et:x4 ps ts=(ts.filter (yg ps)).filter (zZ ps (ts.filter (yg ps))):=rfl
 generalize ts.filter (yg ps)=os at *
 have fin:∀{L done:List iF},II ps os done L->(∀u∈os,u∈done)->L=x4 ps ts:=λ{L done} R hd=>by
  rw[et]
  exact wa (ig on) R.sub abY λu=>(uq on R hd).mem_iff
 refine ao λN hN=>bt λG B hG hB=>?_
 simp only[iS,AW]
 lia
 refine⟨os.map λu=>(u.cost,u.nm),by simp,by simp;omega,by rw[aaG];exact on,λi hi=>?_,λix yJ=>?_⟩
 .rw[aae]at hi
  refine⟨os[i],?_,?_⟩
  .rw[aac,aah,aaa hi];rfl
  .rw[aac,aah,aaa hi];rfl
 obtain⟨ds,dp,dd,de⟩:=w8 yJ
 rw[de]
 have dl:=dp.length_eq
 refine aV (λj e=>∃(L:List iF) (v2 v3 v4:Option Sl),e=[some ⟨0,iN ps ts⟩,some ⟨0,.lst (L.map aT)⟩,v2,v3,v4]/\II ps os (ds.take j).reverse L) (i:=0)
  ⟨os,none,none,none,rfl,List.Sublist.refl _,λu hu=>⟨λ_=>.inl (by simp),λ_=>hu⟩,λd _ hd=>by simp at hd,rfl⟩ ?_ ?_
 case refine_2=>
  rintro e ⟨L,v2,v3,v4,rfl,R⟩
  rw[aae,aaY,abm]at R
  show N _
  subst hN
  rw[fin R λu hu=>List.mem_reverse.mpr (dp.mem_iff.mpr hu)]
  lia
  exact h
 rintro j x e M hx ⟨L,v2,v3,v4,rfl,R⟩ k
 rw[aaY]at k R
 rw[aah,aap]at hx
 obtain⟨t,MO,rfl⟩:=hx
 have hj:j<ds.length:=(List.getElem?_eq_some_iff.mp MO).1
 have Ke:ds[j]=t:=by rw[aaa hj]at MO;exact aao MO
 have td:t∈ds:=aaN MO
 have NU:(ds.take (j+1)).reverse=t::(ds.take j).reverse:=by rw[abx,MO];simp
 have Iw:=List.pairwise_iff_getElem.mp dd
 have before:∀d∈ds.take j,zP t d:=λd hd=>by
  obtain⟨i,hi,e⟩:=List.mem_iff_getElem.mp hd
  rw[abT]at e
  have AR:i<j:=by rw[aaI]at hi;omega
  have:=Iw i j (by omega) hj AR
  rw[Ke,e]at this
  exact this
 have JL:t∉(ds.take j).reverse:=λz=>bG t (before t (List.mem_reverse.mp z))
 have to:=dp.mem_iff.mp td
 have tL:t∈L:=(R.mem t to).mpr (.inl JL)
 have st:=II.step pn oo on R to JL (λd hd=>⟨dp.mem_iff.mp (abM (List.mem_reverse.mp hd)),before d (List.mem_reverse.mp hd)⟩) (λu hu hn=>by
  obtain⟨i,hi,e⟩:=List.mem_iff_getElem.mp (dp.mem_iff.mpr hu)
  rcases adp i j with z|z|z
  .exact absurd (List.mem_reverse.mpr (List.mem_iff_getElem.mpr ⟨i,by rw[aaI];omega,by rw[abT];exact e⟩)) hn
  .subst z
   exact .inl (e.symm.trans Ke)
  .have:=Iw j i hj hi z
   rw[Ke,e]at this
   exact .inr this)
 rw[<- NU]at st
 have Ll:L.length<=60:=aaZ R.sub.length_le ol
 have fl:(less L t).length<=60:=aaZ (aa5 _ _) Ll
 have oL:∀u∈L,yg ps u=true:=λu hu=>oo u (R.sub.subset hu)
 have Q0:∀u∈less L t,yg ps u=true:=λu hu=>oL u (ya.mp hu).1
 obtain⟨o1,o2⟩:=yW.mp (oo t to)
 have key:Af (less L t) t.one=Af (less L t) t.x8↔BK ps (less L t)=BK ps os:=by
  have:=mC pn oL (on.sublist (R.sub.map _)) tL
  rw[R.Qf]at this
  rw[this]
  exact mF pn Q0 _ o1 _ o2
 subst hG hB
 show oR _ _ _ [some ⟨0,iN ps ts⟩,some ⟨0,.lst (L.map aT)⟩,some ⟨0,aT t⟩,v3,v4]
 refine ao λN' AS=>?_
 lia
 refine cW (Iq t.nm) (λx hx R' hR=>?_) (by simp;omega) ?_
 .obtain⟨u,hu,rfl⟩:=List.mem_map.mp hx
  replace hR:R' (if decide (u.nm≠t.nm)=true then some (aT u)else none) _:=hR
  refine ae (wM on (R.sub.subset hu) to) (ae rfl ?_)
  by_cases z:u.nm=t.nm
  .rw[if_neg (by simp[z])]at hR
   rw[decide_eq_false (by simp[z]),if_neg (by simp)]
   exact hR
  .rw[if_pos (by simp[z])]at hR
   rw[decide_eq_true (by simp[z]),if_pos rfl]
   exact hR
 have el:(L.map aT).filterMap (Iq t.nm)=(less L t).map aT:=by
  rw[acL]
  exact bC (λu:iF=>decide (u.nm≠t.nm)) aT L
 rw[acb,el]
 show N' [some ⟨0,iN ps ts⟩,some ⟨0,.lst (L.map aT)⟩,some ⟨0,aT t⟩,some ⟨0,.lst ((less L t).map aT)⟩,v4]
 subst AS
 refine ao λN' AS=>?_
 lia
 refine ae (Jv ps ts) ?_
 try lia
 refine⟨ps,less L t,rfl,pn,by omega,by omega,Q0,?_⟩
 show N' [some ⟨0,iN ps ts⟩,some ⟨0,.lst (L.map aT)⟩,some ⟨0,aT t⟩,some ⟨0,.lst ((less L t).map aT)⟩,some ⟨0,yN ps (Af (less L t))⟩]
 subst AS
 refine aL λA1 B1 Bp Am=>?_
 lia
 refine ae (z:=PV.str t.one) (au (j:=1) rfl) (ae (bF pn o1) (ae (z:=PV.str t.x8) (au (j:=2) rfl) (ae (bF pn o2) (ae (eq_str _ _) (ae rfl ?_)))))
 by_cases z:Af (less L t) t.one=Af (less L t) t.x8
 .rw[beq_iff_eq.mpr z,if_pos rfl]
  subst Bp
  exact k _ ⟨less L t,_,_,_,rfl,st.1 (key.mp z)⟩
 .rw[beq_eq_false_iff_ne.mpr z,if_neg (by simp)]
  subst Am
  exact k _ ⟨L,_,_,_,rfl,st.2 λq=>z (key.mpr q)⟩
theorem jB:∀(d:Nat) (x:PV),Tr d x->∀e,zb (e+d) x x=some true
 |0,x,h,_=>h.elim
 |d+1,x,h,e=>by
  rcases h with ⟨s,rfl⟩|⟨n,rfl⟩|rfl|⟨l,rfl,_,hl⟩
  .show some (s==s)=_;rw[beq_self_eq_true]
  .show some (n==n)=_;rw[beq_self_eq_true]
  .rfl
  .show (((l.zip l).mapM λp=>zb (e+d) p.1 p.2).map λbs=>bs.all id && l.length==l.length)=_
   have:∀l:List PV,(∀y∈l,Tr d y)->((l.zip l).mapM λp=>zb (e+d) p.1 p.2)=some (l.map λ_=>true):=λl=>by
    induction l with
    |nil=>intro _;rfl
    |cons a l ih=>
     intro h
     rw[ab6,abt,jB d a (h a aay),ih λy hy=>h y (aar _ hy)]
     rfl
   rw[this l hl]
   simp
theorem xA(a b:iF):zb 60 (aT a) (aT b)=some (decide (a=b)):=by
 show some ((([a.nm==b.nm,a.one==b.one,a.x8==b.x8,a.cost==b.cost]:List Bool).all id) && true)=_
 congr 1
 rw[aaL]
 cases a
 cases b
 simp
theorem oC(us:List iF):GA (aT t) (.lst (us.map aT))=some (decide (t∈us)):=by
 have e:(us.map aT).mapM (λy=>zb 60 y (aT t))=some (us.map λy=>decide (y=t)):=by
  induction us with
  |nil=>rfl
  |cons u us ih=>
   rw[aau,abt,ih,xA]
   rfl
 show ((us.map aT).mapM (λy=>zb 60 y (aT t))).map (λks=>ks.any id)=_
 rw[e]
 show some ((us.map λy=>decide (y=t)).any id)=_
 congr 1
 rw[adW,aaL,acT]
 simp
theorem sM(us:List iF):AD (aT t) (.lst (us.map aT))=some (.bl (!decide (t∈us))):=by
 show (GA _ _).map _=_
 rw[oC];rfl
theorem qC(xs:List PV)(P:PV->Prop)(h:gB xs P):Q.run 2 (cj λ_ _=>False) xs P:=by
 obtain⟨a,rfl,ha,h⟩:=h
 exact kR (d:=0) (λa h=>h.elim) a ha P h
theorem sB(xs:List PV)(P:PV->Prop)(h:i8 xs P):Q.run 2 (cj gB) xs P:=by
 obtain⟨a,rfl,ha,h⟩:=h
 exact kR (d:=1) (λa h Q q=>⟨a,rfl,h,q⟩) a ha P h
theorem iU(nd:(ts.map iF.nm).Nodup)(ht:t∈ts):lE (.yw (ts.map λt=>((aan t.nm:Key),aT t))) (.str t.nm)=some (aT t):=bp (f:=iF.nm) (g:=aT) nd ht
theorem g6(xs:List PV)(P:PV->Prop)(h:bM xs P):Q.run 4 bI xs P:=by
 obtain⟨ps,ts,n,d,rfl,tl,nd,hd,h⟩:=h
 unfold bI
 refine ao λN hN=>?_
 lia
 refine⟨ps,ts,rfl,tl,nd,?_⟩
 try lia
 refine ae (iU nd hd) (ae (z:=.int d.cost) (au (j:=3) rfl) ?_)
 show N [some ⟨0,iN ps ts⟩,some ⟨0,.str n⟩,some ⟨0,.str d.nm⟩,some ⟨0,.int d.cost⟩]
 subst hN
 unfold lim at h
 lia
 simp only[NX]
 lia
 cases e:decide (yL n d.nm)with
 |true=>
  rw[e,if_pos rfl]at h
  rw[if_pos rfl]
  exact h
 |false=>
  rw[e,if_neg (by simp)]at h
  rw[if_neg (by simp)]
  exact ae bO h
theorem Out.EJ{d:iF}(o:Out ps ts t)(hd:d∈x4 ps ts):t.nm≠d.nm:=λe=>o.out (by rw[ba (bU o.ok) o.mem (aN hd).1 e];exact hd)
theorem Out.Jo(o:Out ps ts t):yr (yO ps (x4 ps ts)) t.one t.x8:=by
 refine FO.mpr ?_
 rw[<- kJ]
 exact fx (λu hu=>(List.mem_filter.mp hu).2) (List.mem_filter.mpr ⟨o.mem,o.yg⟩)
theorem gf(T:Addr×Addr)(c:PV)(xs:List PV)(P:PV->PV->Prop)(h:bE T c xs P):Q.A4 4 (bz T) c xs P:=by
 obtain⟨rfl,ps,ts,t,rfl,o,h⟩:=h
 have nd:=bU o.ok
 have tl:=o.tl
 obtain⟨o1,o2⟩:=yW.mp o.yg
 have ml:(AM ps ts).length<=60:=by rw[dC,aae];have:=iA ps ts;omega
 unfold bz
 simp only[A4,DE,Fm]
 refine ao λN hN=>?_
 lia
 simp only[zd]
 lia
 refine ae (z:=.str t.one) (au (j:=1) rfl) (ae (z:=.str t.x8) (au (j:=2) rfl) ?_)
 refine⟨ps,ts,AM ps ts,t.one,t.x8,rfl,xR o.ok o.pl o.tl,nd,by omega,o1,o2,λnr=>?_,λns w d _=>?_⟩
 .refine absurd ?_ nr
  rw[jc nd]
  exact KC o.Jo
 rw[qj nd]at w
 obtain⟨us,rfl,hu⟩:=mr w.mem
 have ul:=vV w d
 rw[aae]at ul
 have RV:=iA ps ts
 have RT:us≠[]:=λz=>by
  subst z
  exact absurd w (gh (o.ok.tie t o.mem).lt)
 try lia
 refine⟨rfl,ps,ts,us,rfl,by omega,nd,by omega,d,λu hx=>(aN (hu u hx)).1,RT,λdd top=>?_⟩
 have D:=top.Qo nd w d hu
 show N [some ⟨0,iN ps ts⟩,some ⟨0,.tup ((AM ps ts).map .str)⟩,some ⟨0,aT t⟩,some ⟨0,.str dd.nm⟩,some ⟨2,y9 T⟩]
 subst hN
 lia
 refine ae (z:=.str t.nm) (au (j:=0) rfl) ?_
 try lia
 refine⟨ps,ts,t.nm,dd,rfl,by omega,nd,(aN D.ht).1,?_⟩
 exact h _ dd D
theorem qK(nd:(ts.map iF.nm).Nodup)(ht:t∈ts):AD (.str t.nm) (.yw (ts.map λt=>((aan t.nm:Key),aT t)))=some (.bl false):=by
 have:=iU nd ht
 have e:zq (ts.map λt=>((aan t.nm:Key),aT t)) (aan t.nm)=some (aT t):=this
 rw[kf,e];rfl
theorem pj(T:Addr×Addr)(c:PV)(xs:List PV)(P:PV->PV->Prop)(h:cN T c xs P):Q.A4 5 (e9 T) c xs P:=by
 obtain⟨rfl,ps,ts,t,rfl,o,h⟩:=h
 have nd:=bU o.ok
 have tl:=o.tl
 have nt:t.nm∉AM ps ts:=λz=>by
  rw[dC]at z
  obtain⟨u,hu,e⟩:=List.mem_map.mp z
  exact o.EJ hu e.symm
 unfold e9
 simp only[A4,DE,Fm]
 refine ao λN hN=>?_
 lia
 refine⟨ps,ts,rfl,by omega,nd,?_⟩
 show N [some ⟨0,iN ps ts⟩,some ⟨0,.str t.nm⟩,some ⟨0,.yw (ts.map λt=>(aan t.nm,aT t))⟩,none,none,some ⟨2,y9 T⟩]
 subst hN
 refine ao λN hN=>aL λA1 B1 Bp Am=>?_
 lia
 refine ae (qK nd o.mem) (ae (z:=false) rfl ?_)
 rw[if_neg (by simp)]
 subst Am
 show N [some ⟨0,iN ps ts⟩,some ⟨0,.str t.nm⟩,some ⟨0,.yw (ts.map λt=>(aan t.nm,aT t))⟩,none,none,some ⟨2,y9 T⟩]
 subst hN
 refine ao λN hN=>?_
 lia
 refine ae (iU nd o.mem) ?_
 show N [some ⟨0,iN ps ts⟩,some ⟨0,.str t.nm⟩,some ⟨0,.yw (ts.map λt=>(aan t.nm,aT t))⟩,some ⟨0,aT t⟩,none,some ⟨2,y9 T⟩]
 subst hN
 refine ao λN hN=>aL λA1 B1 Bp Am=>?_
 lia
 refine⟨ps,ts,t,rfl,?_⟩
 rw[o.yg]
 lia
 try rw[if_neg (by simp)]
 subst Am
 show N [some ⟨0,iN ps ts⟩,some ⟨0,.str t.nm⟩,some ⟨0,.yw (ts.map λt=>(aan t.nm,aT t))⟩,some ⟨0,aT t⟩,none,some ⟨2,y9 T⟩]
 subst hN
 refine ao λN hN=>?_
 lia
 simp only[zd]
 lia
 refine⟨rfl,ps,ts,rfl,o.ok,o.pl,o.tl,?_⟩
 show N [some ⟨0,iN ps ts⟩,some ⟨0,.str t.nm⟩,some ⟨0,.yw (ts.map λt=>(aan t.nm,aT t))⟩,some ⟨0,aT t⟩,some ⟨0,.tup ((AM ps ts).map .str)⟩,some ⟨2,y9 T⟩]
 subst hN
 refine ao λN hN=>aL λA1 B1 Bp Am=>?_
 lia
 refine ae bZ (ae rfl ?_)
 rw[decide_eq_false nt,if_neg (by simp)]
 subst Am
 show N [some ⟨0,iN ps ts⟩,some ⟨0,.str t.nm⟩,some ⟨0,.yw (ts.map λt=>(aan t.nm,aT t))⟩,some ⟨0,aT t⟩,some ⟨0,.tup ((AM ps ts).map .str)⟩,some ⟨2,y9 T⟩]
 subst hN
 lia
 simp only[zd]
 lia
 exact⟨rfl,ps,ts,t,rfl,o,h⟩
theorem qD(xs:List PV)(P:PV->Prop)(h:dJ xs P):Q.run 2 fS xs P:=by
 obtain⟨n,d,rfl,ne,h⟩:=h
 unfold fS
 lia
 refine ae (z:=.int d.cost) (au (j:=3) rfl) (ae (z:=.str d.nm) (au (j:=0) rfl) ?_)
 try lia
 refine ae (z:=PV.bl (decide (yL d.nm n))) rfl (ae (z:=PV.int (if decide (yL d.nm n)=true then 1 else 0)) rfl ?_)
 refine ae bO ?_
 unfold lim at h
 rcases bX n d.nm with z|z|z
 .rw[decide_eq_true z,if_pos rfl]at h
  rw[decide_eq_false (du z),if_neg (by simp),Int.sub_zero]
  exact h
 .exact absurd z ne
 .rw[decide_eq_false (du z),if_neg (by simp)]at h
  rw[decide_eq_true z,if_pos rfl]
  exact h
theorem wZ(ok:Kq false (os.map λu=>(u.cost,u.nm)) (os.map aT).length ix):∃ds:List iF,ds.Perm os/\ds.Pairwise zP/\(ix.map λi=>(os.map aT).getD i .lT)=ds.map aT:=by
 have lt:∀i∈ix,i<os.length:=λi hi=>by have:=ok.lt i hi;rwa [aae]at this
 refine⟨ix.map λi=>os.getD i t0,kn (by have:=ok.len;rwa [aae]at this) ok.nd lt,?_,?_⟩
 .refine List.pairwise_map.mpr (abH (λhx hy hq=>?_) ok.up)
  exact(gM (lt _ hx) (lt _ hy)).mp hq
 .rw[aaG]
  refine aaH λi hi=>?_
  show (os.map aT).getD i .lT=aT (os.getD i t0)
  rw[aac,aac,aah,aaa (lt i hi)];rfl
theorem nq(xs:List PV)(P:PV->Prop)(h:dY xs P):Q.run 6 dN xs P:=by
 obtain⟨ps,ts,t,rfl,o,ns,d,D,h⟩:=h
 have nd:=bU o.ok
 have pn:=cR o.ok.rise
 have tl:=o.tl
 have pl:=o.pl
 have tn:=dZ (ps:=ps) nd
 have RV:=iA ps ts
 obtain⟨o1,o2⟩:=yW.mp o.yg
 unfold dN
 refine ao λN hN=>?_
 lia
 show N [some ⟨0,iN ps ts⟩,some ⟨0,.lst ((x4 ps ts).map aT)⟩,some ⟨0,aT t⟩,some ⟨1,.lst []⟩,none,none]
 subst hN
 refine ao λN hN=>bt λG B hG hB=>?_
 simp only[iS,AW]
 lia
 refine⟨(x4 ps ts).map λu=>(u.cost,u.nm),by simp,by simp;omega,by rw[aaG];exact tn,λi hi=>?_,λix yJ=>?_⟩
 .rw[aae]at hi
  refine⟨(x4 ps ts)[i],?_,?_⟩
  .rw[aac,aah,aaa hi];rfl
  .rw[aac,aah,aaa hi];rfl
 obtain⟨vs,vp,up,ve⟩:=wZ yJ
 rw[ve]
 have vl:=vp.length_eq
 have vo:∀u∈vs,yg ps u=true:=λu hu=>cz u (vp.mem_iff.mp hu)
 have Iw:=List.pairwise_iff_getElem.mp up
 have dv:d∈vs:=vp.mem_iff.mpr D.ht
 refine aV (λj e=>∃v4 v5:Option Sl,e=[some ⟨0,iN ps ts⟩,some ⟨0,.lst ((x4 ps ts).map aT)⟩,some ⟨0,aT t⟩,some ⟨1,.lst ((vs.take j).map aT)⟩,v4,v5]/\d∉vs.take j) (i:=0) ⟨none,none,rfl,by simp⟩ ?_ ?_
 case refine_2=>
  rintro e ⟨v4,v5,rfl,hd⟩
  rw[aae,aaY,abm]at hd
  exact absurd dv hd
 rintro j x e M hx ⟨v4,v5,rfl,hd⟩ k
 rw[aaY]at k hd ⊢
 rw[aah,aap]at hx
 obtain⟨u,eu,rfl⟩:=hx
 have hj:j<vs.length:=(List.getElem?_eq_some_iff.mp eu).1
 have TB:vs[j]=u:=by rw[aaa hj]at eu;exact aao eu
 have tk:vs.take (j+1)=vs.take j++[u]:=by rw[abx,eu];rfl
 have lo:∀v∈vs.take (j+1),yg ps v=true:=λv hv=>vo v (abM hv)
 have ll:(vs.take (j+1)).length<=60:=by rw[aaI];omega
 subst hG hB
 show oR _ _ _ [some ⟨0,iN ps ts⟩,some ⟨0,.lst ((x4 ps ts).map aT)⟩,some ⟨0,aT t⟩,some ⟨1,.lst ((vs.take j).map aT)⟩,some ⟨0,aT u⟩,v5]
 refine ao λN' AS=>?_
 lia
 refine ae (Eh (by rw[aae,aaI];omega)) ?_
 have em:(vs.take j).map aT++[aT u]=(vs.take (j+1)).map aT:=by rw[tk,aaW];rfl
 rw[em]
 show N' [some ⟨0,iN ps ts⟩,some ⟨0,.lst ((x4 ps ts).map aT)⟩,some ⟨0,aT t⟩,some ⟨1,.lst ((vs.take (j+1)).map aT)⟩,some ⟨0,aT u⟩,v5]
 subst AS
 refine ao λN' AS=>?_
 simp only[yz,Ew]
 lia
 refine ae (Jv ps ts) ?_
 try lia
 refine⟨ps,vs.take (j+1),rfl,pn,by omega,ll,lo,λp hp=>?_,?_⟩
 .obtain⟨q,_,rfl⟩:=List.mem_map.mp hp
  exact⟨_,rfl⟩
 have kr:=mF pn lo _ o1 _ o2
 show N' [some ⟨0,iN ps ts⟩,some ⟨0,.lst ((x4 ps ts).map aT)⟩,some ⟨0,aT t⟩,some ⟨1,.lst ((vs.take (j+1)).map aT)⟩,some ⟨0,aT u⟩,some ⟨0,yN ps (Af (vs.take (j+1)))⟩]
 generalize Af (vs.take (j+1))=g at kr ⊢
 subst AS
 refine aL λA1 B1 Bp Am=>?_
 lia
 refine ae (z:=.str t.one) (au (j:=1) rfl) (ae (bF pn o1) (ae (z:=.str t.x8) (au (j:=2) rfl) (ae (bF pn o2) (ae (eq_str _ _) (ae rfl ?_)))))
 by_cases e:u=d
 .subst e
  have z:g t.one=g t.x8:=kr.mpr (fN (Au lo) (pX (λv hv hn=>by
   by_cases q:v.nm=u.nm
   .rw[ba tn hv D.ht q,tk]
    simp
   .have c:=D.mx v hv hn q
    obtain⟨i,hi,ei⟩:=List.mem_iff_getElem.mp (vp.mem_iff.mpr hv)
    rcases aa4 i (j+1)with w|w
    .exact List.mem_iff_getElem.mpr ⟨i,by rw[aaI];omega,by rw[abT];exact ei⟩
    .have:=Iw j i hj hi (by omega)
     rw[TB,ei]at this
     exact absurd this (jH c)) D.w))
  rw[beq_iff_eq.mpr z,if_pos rfl]
  subst Bp
  lia
  exact h
 .have JW:d∉vs.take (j+1):=λz=>by
   rw[tk]at z
   rcases List.mem_append.mp z with z|z
   .exact hd z
   .exact e (List.mem_singleton.mp z).symm
  have z:¬ g t.one=g t.x8:=λq=>D.no nd (cm (λv hv _=>by
   obtain⟨i,hi,ei⟩:=List.mem_iff_getElem.mp hv
   rw[abT]at ei
   rw[aaI]at hi
   obtain⟨i2,S5,La⟩:=List.mem_iff_getElem.mp dv
   have c:zP v d:=by
    rw[<- ei,<- La]
    refine Iw i i2 (by omega) S5 ?_
    rcases aa4 i2 (j+1)with w|w
    .exact absurd (List.mem_iff_getElem.mpr ⟨i2,by rw[aaI];omega,by rw[abT];exact La⟩) JW
    .omega
   have vt:=(aN (vp.mem_iff.mp (abM hv))).1
   exact Bl.mpr ⟨vt,mW nd vt (aN D.ht).1 c,c⟩) (kr.mp q))
  rw[beq_eq_false_iff_ne.mpr z,if_neg (by simp)]
  subst Am
  exact k _ ⟨_,_,rfl,JW⟩
theorem pq(xs:List PV)(P:PV->Prop)(h:fI xs P):Q.run 4 fh xs P:=by
 obtain⟨ps,ts,t,rfl,o,ns,d,D,h⟩:=h
 unfold fh
 refine ao λN hN=>aL λA1 B1 Bp Am=>?_
 lia
 refine ae (sM _) (ae rfl ?_)
 rw[decide_eq_false o.out,aea,if_pos rfl]
 subst Bp
 refine ao λN' AS=>?_
 lia
 refine⟨ps,ts,t,rfl,o,ns,d,D,?_⟩
 show N' [some ⟨0,iN ps ts⟩,some ⟨0,.lst ((x4 ps ts).map aT)⟩,some ⟨0,aT t⟩,some ⟨0,aT d⟩]
 subst AS
 lia
 refine ae (z:=.str t.nm) (au (j:=0) rfl) ?_
 try lia
 refine⟨t.nm,d,rfl,o.EJ D.ht,?_⟩
 try lia
 refine ae (z:=PV.str d.nm) (au (j:=0) rfl) ?_
 exact h
theorem lL(t d:iF):Tr 2 (cZ t d):=.inr (.inr (.inr ⟨_,rfl,by simp,λy hy=>by
 simp only[aaK,aaV,or_false]at hy
 rcases hy with rfl|rfl|rfl
 .exact .inl ⟨_,rfl⟩
 .exact .inr (.inl ⟨_,rfl⟩)
 .exact .inl ⟨_,rfl⟩⟩))
theorem Qj{x:PV}(h:Tr 2 x):yU x x=some (.bl true):=by
 show (zb (58+2) x x).map _=_
 rw[jB 2 x h];rfl
abbrev sa:Str := "a"
abbrev sb:Str := "b"
abbrev sc:Str := "c"
abbrev sx:Str := "x"
abbrev sy:Str := "y"
abbrev sz:Str := "z"
def nP:List Str:=[sa,sb,sc]
def nX:iF:=⟨sx,sa,sb,5⟩
def nY:iF:=⟨sy,sb,sc,5⟩
def nZ:iF:=⟨sz,sa,sc,7⟩
def nT:List iF:=[nX,nY,nZ]
theorem xT:nP.Nodup:=by decide +kernel
theorem t6:(nT.map iF.nm).Nodup:=by decide +kernel
theorem L8:Ax nP nT:=by
 have w:∀x∈[sa,sb,sc,sx,sy,sz],zB x:=λx hx=>by
  simp only[aaK,aaV,or_false]at hx
  rcases hx with rfl|rfl|rfl|rfl|rfl|rfl<;>exact⟨by decide +kernel,by decide +kernel,by decide +kernel⟩
 refine⟨by decide +kernel,λx hx=>w x ?_,by decide +kernel,λt ht=>?_⟩
 .simp only[nP,aaK,aaV,or_false]at hx ⊢
  rcases hx with rfl|rfl|rfl<;>simp
 .simp only[nT,aaK,aaV,or_false]at ht
  rcases ht with rfl|rfl|rfl<;>exact⟨w _ (by simp[nX,nY,nZ]),w _ (by simp[nX,nY,nZ]),w _ (by simp[nX,nY,nZ]),by decide +kernel,by decide,by decide⟩
theorem jo:x4 nP nT=[nX,nY]:=by
 rw[rY xT]
 decide +kernel
theorem xS:Out nP nT nZ:=⟨L8,by decide,by decide,by simp[nT],by decide +kernel,by rw[jo];decide +kernel⟩
theorem t5(D:DR nP nT sa sc ns t):cZ nZ t=.tup [.str "comes",.int 4,.str sy]:=by
 have e:ns=[sx,sy]:=by
  refine pY (dZ t6) (λt ht=>gh (L8.tie t (aN ht).1).lt) (qd t6) D.w ?_ D.nd (by decide +kernel)
  rw[jo];exact⟨nX,by simp,rfl,sb,.inl ⟨rfl,rfl⟩,nY,by simp,rfl,sc,.inl ⟨rfl,rfl⟩,rfl⟩
 subst e
 have ht:=D.ht
 have mx:=D.mx nY (by rw[jo];simp) (by simp[nY])
 rw[jo]at ht
 simp only[aaK,aaV,or_false]at ht
 rcases ht with rfl|rfl
 .exact absurd (mx (by decide +kernel)) (by decide +kernel)
 .have:lim nZ.nm nY=4:=by decide +kernel
  unfold cZ
  rw[this];rfl
theorem uH(T:Addr×Addr)(ns:List Int)(x:PV)(hn:ns.length<=63)(hx:x=.Ap ns\/x=.lst (ns.map .int)):Q.A4 6 (gD T) (y9 T) [x] λr c=>r=.bl true/\c=y9 T:=by
 unfold gD
 simp only[A4,DE,Fm]
 refine ao λN hN=>?_
 show Q.zH 1 0 _ [some ⟨0,x⟩,none,none,none,none,none,some ⟨2,y9 T⟩]
 refine⟨⟨ns,hx,hn⟩,?_⟩
 show N [some ⟨0,x⟩,some ⟨4,.lT⟩,none,none,none,none,some ⟨2,y9 T⟩]
 subst hN
 obtain⟨zs,ez,lz⟩:=uk 6 hx
 refine ao λN hN=>bt λG B hG hB=>?_
 simp only[KH,aS,iD,x5,eC,Cg,Lc,eV,CG,CF,Gy,cV,abP]
 refine ae ez ?_
 lia
 refine ae (z:=.int (2+(zs.length:Int))) rfl ?_
 refine⟨by omega,by omega,?_⟩
 generalize BY 0 _=rs
 subst hG hB
 refine aV (λj e=>∃v2 v3 v4 v5:Option Sl,e=[some ⟨0,x⟩,some ⟨4,.lT⟩,v2,v3,v4,v5,some ⟨2,y9 T⟩]) (i:=0) ⟨none,none,none,none,rfl⟩ ?_ ?_
 case refine_2=>
  rintro e ⟨v2,v3,v4,v5,rfl⟩
  show N _
  subst hN
  refine ao λN hN=>?_
  lia
  show N [some ⟨0,x⟩,some ⟨4,.lT⟩,v2,some ⟨0,iN nP nT⟩,v4,v5,some ⟨2,y9 T⟩]
  subst hN
  lia
  simp only[zd]
  lia
  refine⟨rfl,nP,nT,nZ,rfl,xS,λns t D=>?_⟩
  rw[t5 D]
  try lia
  exact ae (Qj (by rw[<- t5 D];exact lL _ _)) ⟨rfl,rfl⟩
 rintro j y e M hy ⟨v2,v3,v4,v5,rfl⟩ k
 show oR _ _ _ [some ⟨0,x⟩,some ⟨4,.lT⟩,some ⟨0,y⟩,v3,v4,v5,some ⟨2,y9 T⟩]
 refine ao λN hN=>?_
 lia
 refine⟨rfl,12,30,rfl,by decide,by decide,by decide,by decide,λps ts ok hp ht=>?_⟩
 lia
 show N [some ⟨0,x⟩,some ⟨4,.lT⟩,some ⟨0,y⟩,some ⟨0,iN ps ts⟩,v4,v5,some ⟨2,y9 T⟩]
 subst hN
 refine ao λN hN=>?_
 lia
 refine⟨ps,ts,rfl,ok,by omega,by omega,?_⟩
 show N [some ⟨0,x⟩,some ⟨4,.lT⟩,some ⟨0,y⟩,some ⟨0,iN ps ts⟩,some ⟨0,.lst ((x4 ps ts).map aT)⟩,v5,some ⟨2,y9 T⟩]
 subst hN
 refine bt λG B hG hB=>?_
 lia
 refine⟨ps,ts,rfl,by omega,?_⟩
 try lia
 subst hG hB
 refine aV (λj e=>∃v5:Option Sl,e=[some ⟨0,x⟩,some ⟨4,.lT⟩,some ⟨0,y⟩,some ⟨0,iN ps ts⟩,some ⟨0,.lst ((x4 ps ts).map aT)⟩,v5,some ⟨2,y9 T⟩]) (i:=0) ⟨v5,rfl⟩ ?_ ?_
 case refine_2=>
  rintro e ⟨v5,rfl⟩
  exact k _ ⟨_,_,_,_,rfl⟩
 rintro j2 z e M2 hz ⟨v5,rfl⟩ k2
 rw[aah,aap]at hz
 obtain⟨t,et,rfl⟩:=hz
 obtain⟨tm,to⟩:=List.mem_filter.mp (aaN et)
 show oR _ _ _ [some ⟨0,x⟩,some ⟨4,.lT⟩,some ⟨0,y⟩,some ⟨0,iN ps ts⟩,some ⟨0,.lst ((x4 ps ts).map aT)⟩,some ⟨0,aT t⟩,some ⟨2,y9 T⟩]
 refine ao λN' AS=>aL λA1 B1 Bp Am=>?_
 lia
 have TJ:A8 (aT t) (.lst ((x4 ps ts).map aT))=some (.bl (decide (t∈x4 ps ts))):=by
  show (GA _ _).map _=_
  rw[oC];rfl
 refine ae TJ (ae rfl ?_)
 by_cases hm:t∈x4 ps ts
 .rw[decide_eq_true hm,if_pos rfl]
  subst Bp
  simp only[Jk]
  exact k2 _ ⟨_,rfl⟩
 rw[decide_eq_false hm,if_neg (by simp)]
 subst Am
 have o:Out ps ts t:=⟨ok,by omega,by omega,tm,to,hm⟩
 show N' [some ⟨0,x⟩,some ⟨4,.lT⟩,some ⟨0,y⟩,some ⟨0,iN ps ts⟩,some ⟨0,.lst ((x4 ps ts).map aT)⟩,some ⟨0,aT t⟩,some ⟨2,y9 T⟩]
 subst AS
 refine aL λA1 B1 Bp Am=>?_
 lia
 refine ae (z:=.str t.nm) (au (j:=0) rfl) ?_
 try lia
 try simp only[zd]
 try lia
 refine⟨rfl,ps,ts,t,rfl,o,λns d D=>?_⟩
 try lia
 refine⟨ps,ts,t,rfl,o,ns,d,D,?_⟩
 try lia
 refine⟨_,rfl,lL _ _,?_⟩
 try lia
 subst Am
 exact k2 _ ⟨_,rfl⟩
variable{K:aag}{mg:Str->Option Value}{st:Stmt}
abbrev GQ(P:aaE)(w:World)(base:Heap)(d:Df K mg x st ps)(k:Nat)(D:Fd):Prop:=yd P w K mg base yQ k d.f d.fd ps (CU ⟨P,w,K,zW K⟩ ps.length D)
abbrev GO(P:aaE)(w:World)(base:Heap)(d:Df K mg x st ps)(k:Nat)(D:BO):Prop:=yd P w K mg base yQ k d.f d.fd ps (G5 ⟨P,w,K,zW K⟩ ps.length D)
abbrev GT(P:aaE)(w:World)(base:Heap)(d:Df K mg x st ps)(k:Nat)(D:BO):Prop:=yd P w K mg base yQ k d.f d.fd ps (spT ⟨P,w,K,zW K⟩ ps.length D)
theorem Be{N P:List Str}{sc:Scope}(kind:sc.kind=.function:=by rfl)(co:sc.isCoroutine=false:=by rfl)(gen:sc.isGenerator=false:=by rfl)(nd:N.Nodup:=by decide +kernel)(pre:N.take P.length=P:=by rfl)
  (par:∀x∈P,sc.names.lookup x=some .local\/sc.names.lookup x=some .cell:=by decide +kernel) (Ee:∀y∈sc.names,y.2≠.free:=by decide +kernel):az N P sc:=⟨kind,co,gen,nd,pre,par,Ee⟩
variable{ob:zl}{X:Cx}{k':Nat}{D:Fd}{DO:BO}{p p1 pos:Pos}{e a b:Expr}{es:List Expr}{fa:WA}{f g:WE}
theorem bY(i:Nat)(hN:X.N[i]?=some x:=by rfl)(hv:Dj X.env.scope x:=by first|exact Or.inl rfl|exact Or.inr (Or.inl rfl)|exact Or.inr (Or.inr rfl))(hd:(x==("__debug__" : Str))=false:=by decide)(Cd:(x==("__classdict__" : Str))=false:=by decide):
  yA ob X (.Name x pos) (eV i):=xp i (pv i hN hv hd Cd)
theorem x6(i:Nat)(hN:X.N[i]?=some x:=by rfl)(hv:Dj X.env.scope x:=by first|exact Or.inl rfl|exact Or.inr (Or.inl rfl)|exact Or.inr (Or.inr rfl))(hd:(x==("__debug__" : Str))=false:=by decide)(Cd:(x==("__classdict__" : Str))=false:=by decide):
  Co ob X (.Name x pos) (y8 i):=vD i (pv i hN hv hd Cd)
theorem yI{d:Df X.K X.mg x st ps}(F:yd X.prog X.w X.K X.mg X.base yQ k d.f d.fd ps (CU (md ob X) n D))(hr:yj k' X.A)(ha:DP ob X (e::es) fa)(hk:k<=k':=by decide)(hn:es.length+1=n:=by rfl)(hg:Gl X x:=by rfl)
  (A9:(x==("__debug__" : Str))=false:=by decide) (he:aai (e::es) X.env=(false,eval e X.env)::aai es X.env:=by rfl) (Ag:(backTo pos (aai es X.env)).any (·.1)=false:=by rfl) :
  yA ob X (.Call (.Name x p) (e::es) [] pos) (yu D fa):=oG F (hr.mono hk) d.n.mg d.n.kp d.b ha hn hg A9 he Ag
theorem yo(i:Nat){d:Df X.K X.mg x st ps}(F:yd X.prog X.w X.K X.mg X.base yQ k d.f d.fd ps (G5 (md ob X) n DO))(hr:yj k' X.A)(ha:DP ob X es fa)(ho:PE X (.Name y p1) (yK i):=by exact pv _)(hk:k<=k':=by decide)(hn:es.length+1=n:=by rfl)(hg:Gl X x:=by rfl)
  (A9:(x==("__debug__" : Str))=false:=by decide) (he:aai (.Name y p1::es) X.env=(false,eval (.Name y p1) X.env)::aai es X.env:=by rfl) (Ag:(backTo pos (aai es X.env)).any (·.1)=false:=by rfl) :
  yA ob X (.Call (.Name x p) (.Name y p1::es) [] pos) (yh DO i fa):=tK i F (hr.mono hk) d.n.mg d.n.kp d.b ho ha hn hg A9 he Ag
theorem Bo(j:Nat){d:Df X.K X.mg x st ps}(F:yd X.prog X.w X.K X.mg X.base yQ k d.f d.fd ps (spT (md ob X) n DO))(hr:yj k' X.A)(ha:DP ob X (e::es) fa)(hk:k<=k':=by decide)(hn:es.length+1=n:=by rfl)(hg:Gl X x:=by rfl)
  (A9:(x==("__debug__" : Str))=false:=by decide) (he:aai (e::es) X.env=(false,eval e X.env)::aai es X.env:=by rfl) (Ag:(backTo pos (aai es X.env)).any (·.1)=false:=by rfl) :
  yA ob X (.Call (.Name x p) (e::es) [] pos) (zd DO j fa):=tJ j F (hr.mono hk) d.n.mg d.n.kp d.b ha hn hg A9 he Ag
theorem yJ(hr:yj k X.A)(ha:yA ob X a f)(hb:Co ob X b g)(hs:eY b:=by exact λ_ _=>rfl):yA ob X (.Subscript a b pos) (x5 lE f g):=xU (KL hr) ha hb hs
theorem GG(i:Nat)(hr:yj k X.A)(hb:Co ob X b g)(ha:PE X (.Name x p) (yK i):=by exact pv _)(hs:eY b:=by exact λ_ _=>rfl):yA ob X (.Subscript (.Name x p) b pos) (Bs lE i g):=xt i (KL hr) ha hb hs
theorem Dy{op:CmpOp}{r:R2}{o:PV->PV->Option PV}(hr:zf X (aa9 op) r)(hq:Cz ob X r o)(ha:yA ob X a f)(hb:Co ob X b g)(hm:acv op b=false:=by first|exact Bk _|rfl):yA ob X (.Compare a [op] [b] pos) (x5 o f g):=xv hr hq ha hb hm
theorem yy{op:CmpOp}{r:R2}{o:PV->PV->Option PV}(hr:zf X (aa9 op) r)(hq:Cz ob X r o)(ha:yA ob X a f)(hb:Co ob X b g)(hm:acv op b=false:=by first|exact Bk _|rfl):ED ob X (.Compare a [op] [b] pos) (yl (x5 o f g)):=vF hr hq ha hb hm
variable{P:aaE}{w:World}{base:Heap}
theorem hV(Y:Ev K mg):yd P w K mg base yQ 0 Y.zK.f Y.zK.fd ["net", "tree", "tie"] (CU ⟨P,w,K,zW K⟩ 3 cK):=kC
theorem pL(Y:Ev K mg):yd P w K mg base yQ 0 Y.C6.f Y.C6.fd ["_law_net_here", "_law_kept", "_law_tie"] (CU ⟨P,w,K,zW K⟩ 3 jK):=kC
theorem Oi:az ["net", "tie"] ["net", "tie"] (aq jU):=Be
theorem dW(Y:Ev K mg):GQ P w base Y.C5 1 bR :=
 aX (bq Y.C5.F Oi (by decide) (λyx A outer s H E hr=>by
  unfold dL
  exact(ap (aA (gv (Dy (dq (Ca hr)) dm (yJ hr (bY 1) (yc ak)) (yc (yJ hr (bY 0) (yc ak)))) (jz (Dy (dq (Ca hr)) dm (yJ hr (bY 1) (yc ak)) (yc (yJ hr (bY 0) (yc ak)))))))))) ni
theorem cf:(["tie"]:List Str).Nodup:=by decide +kernel
theorem RN:az ["net"] ["net"] (aq dQ):=Be
theorem bV(Y:Ev K mg):GQ P w base Y.Av 1 bg :=
 aX (bq Y.Av.F RN (by decide) (λyx A outer s H E hr=>by
  unfold bS
  exact(ap (aA (Ds (t9 (N:=["tie"]) (aY (yJ hr (bY 0) (yc ak))) (λ_ _ _ _ _=>aU (i:=0) cf rfl (Or.inl rfl)) (λ_ _ _ _ _=>eR) (λ_ _ _ _ _=>(yJ hr (bY 0) (yc ak))) (λ_ _ _ _ _=>(bY 0)))))))) iP
theorem iT:(["tie", "net"]:List Str).Nodup:=by decide +kernel
theorem RM:az ["net"] ["net"] (aq fX):=Be
theorem lI(Y:Ev K mg):GQ P w base Y.Bq 2 cJ :=
 aX (bq Y.Bq.F RM (by decide) (λyx A outer s H E hr=>by
  unfold cF
  exact(ap (aA (fC cu cv (by rfl) Y.zk abn (Fy (ab (Ds (jA (N:=["tie", "net"]) (aY (yJ hr (bY 0) (yc ak))) (λ_ _ _ _ _=>aU (i:=0) iT rfl (Or.inl rfl)) (λ_ _ _ _ _=>jC (ce (yc (yI (dW Y) hr (ab (bY 1) (ab (bY 0) ag)))))) (λ_ _ _ _ _=>(yJ hr (bY 0) (yc ak))))) ag))))))) lG
theorem Oh:az ["net"] ["net"] (aq Ec):=Be
theorem lh(Y:Ev K mg):GQ P w base Y.Eo 1 dH :=
 aX (bq Y.Eo.F Oh (by decide) (λyx A outer s H E hr=>by
  unfold fQ
  exact(ap (aA (Ds (t9 (N:=["tie"]) (aY (yJ hr (bY 0) (yc ak))) (λ_ _ _ _ _=>aU (i:=0) cf rfl (Or.inl rfl)) (λ_ _ _ _ _=>eR) (λ_ _ _ _ _=>(yJ hr (bY 0) (yc ak))) (λ_ _ _ _ _=>(aH (ab (yJ hr (bY 0) (yc ak)) (ab (yJ hr (bY 0) (yc ak)) ag)))))))))) qA
theorem QI:az ["net", "names", "rank", "#t"] ["net", "names"] (aq fu):=Be
theorem g9:Cm "name" "rank" {posonlyargs:=[],args:=[{arg := "name",annotation:=none,pos:=p}],vararg:=none,kwonlyargs:=[],kw_defaults:=[],kwarg:=none,defaults:=[]} {kind:=.function,names:=[("name",.local),("rank",.free)],isGenerator:=false,isCoroutine:=false,more:=[]} :=
 ⟨rfl,rfl,rfl,by decide,rfl,rfl,rfl,rfl,rfl,rfl,λ_ _ _ _ _ _ _=>rfl⟩
theorem hE:Cn "rank" {posonlyargs:=[],args:=[{arg := "name",annotation:=none,pos:=p}],vararg:=none,kwonlyargs:=[],kw_defaults:=[],kwarg:=none,defaults:=[]} {kind:=.function,names:=[("name",.local),("rank",.free)],isGenerator:=false,isCoroutine:=false,more:=[]} :=
 ⟨λ_=>rfl,λenv cell h=>by simp[aer,cellOf,h]⟩
theorem kA(Y:Ev K mg)(hB:BMain mg base):GT P w base Y.Ah 2 (cx (Y.yi,Y.yb)) :=
 eI (eG (nm := "#t") Y.Ah.F QI rfl (by decide) rfl (by unfold Dj;decide +kernel) (λyx C0 A outer s H E hr=>by
  unfold ci
  obtain⟨c,hc,hC⟩:=Y.Bb
  have Cd:=C0.symm.trans hc
  exact(aj (aB 2 QI.nd rfl (Or.inr rfl) (yI (lh Y) hr (ab (bY 0) ag)))
  (ap (aA (tI 3 2 g9 hE hr rfl (by rfl) Y.E2 (by rfl) Cd hC hB (by rfl) (by rfl) (Or.inr (Or.inl rfl)) (bY 1))))))) (j8 _)
theorem QK:az ["net", "names", "rank", "#t"] ["net", "names"] (aq cI):=Be
theorem fy:Cm "name" "rank" {posonlyargs:=[],args:=[{arg := "name",annotation:=none,pos:=p}],vararg:=none,kwonlyargs:=[],kw_defaults:=[],kwarg:=none,defaults:=[]} {kind:=.function,names:=[("name",.local),("rank",.free)],isGenerator:=false,isCoroutine:=false,more:=[]} :=
 ⟨rfl,rfl,rfl,by decide,rfl,rfl,rfl,rfl,rfl,rfl,λ_ _ _ _ _ _ _=>rfl⟩
theorem fz:Cn "rank" {posonlyargs:=[],args:=[{arg := "name",annotation:=none,pos:=p}],vararg:=none,kwonlyargs:=[],kw_defaults:=[],kwarg:=none,defaults:=[]} {kind:=.function,names:=[("name",.local),("rank",.free)],isGenerator:=false,isCoroutine:=false,more:=[]} :=
 ⟨λ_=>rfl,λenv cell h=>by simp[aer,cellOf,h]⟩
theorem hZ(Y:Ev K mg)(hB:BMain mg base):GT P w base Y.zj 2 (bN (Y.yi,Y.yb)) :=
 eI (eG (nm := "#t") Y.zj.F QK rfl (by decide) rfl (by unfold Dj;decide +kernel) (λyx C0 A outer s H E hr=>by
  unfold bJ
  obtain⟨c,hc,hC⟩:=Y.Ak
  have Cd:=C0.symm.trans hc
  exact(aj (aB 2 QK.nd rfl (Or.inr rfl) (yI (lh Y) hr (ab (bY 0) ag)))
  (ap (aA (Ds (rE 3 2 fy fz hr (by rfl) Y.ze (by rfl) Cd hC hB (by rfl) (by rfl) (Or.inr (Or.inl rfl)) (bY 1)))))))) (g8 _)
theorem b9:(["place"]:List Str).Nodup:=by decide +kernel
theorem b8:(["place", "word", "stays", "goes"]:List Str).Nodup:=by decide +kernel
theorem Hm:az ["net", "names", "named", "group", "kept", "name", "tie", "stays", "goes"] ["net", "names"] (aq cG):=Be
theorem hU(Y:Ev K mg):GQ P w base Y.zJ 2 bK :=
 aX (bq Y.zJ.F Hm (by decide) (λyx A outer s H E hr=>by
  unfold bH
  exact(aj (aB 2 Hm.nd rfl (Or.inl rfl) (yI (bV Y) hr (ab (bY 0) ag)))
  (aj (t8 3 (N:=["place"]) Hm.nd rfl rfl (aY (yJ hr (bY 0) (yc ak))) (λ_ _ _ _ _=>aU (i:=0) b9 rfl (Or.inl rfl)) (λ_ _ _ _ _=>eR) (λ_ _ _ _ _=>(bY 0)) (λ_ _ _ _ _=>(bY 0)))
  (aj (b0 4 Hm.nd rfl (Or.inl rfl) (cD ag))
  (aj (bD aba rfl (aY (bY 1)) (aJ 5 Hm.nd rfl (Or.inl rfl)) (aj (aB 6 Hm.nd rfl (Or.inl rfl) (yJ hr (bY 2) (x6 5)))
  (aj (mM (aH (ab (GG 3 hr (yc (yJ hr (bY 6) (yc ak)))) (ab (GG 3 hr (yc (yJ hr (bY 6) (yc ak)))) ag))) (gy (n:=2) rfl (aZ (aJ 7 Hm.nd rfl (Or.inr rfl)) (aZ (aJ 8 Hm.nd rfl (Or.inr rfl)) eO)) (bi (bi gq))))
  (ap (aO (yy (pA (zI hr)) me (bY 7) (x6 8)) (aj (cr (yc (fB 4 abk abj bj bB (pv 4) (ab (bY 5) ag))))
  (ap (t8 3 (N:=["place", "word", "stays", "goes"]) Hm.nd rfl rfl (rJ 3 (pv 3)) (λ_ _ _ _ _=>lX (n:=2) rfl (dk (aU (i:=0) b8 rfl (Or.inl rfl)) (dk (aU (i:=1) b8 rfl (Or.inl rfl)) j5))) (λ_ _ _ _ _=>eR) (λ_ _ _ _ _=>(bY 0)) (λ_ _ _ _ _=>(rG (yy (bf (AB hr)) be (bY 1) (x6 3)) (bY 2) (bY 1)))))) aG)))))
  (ap (aA (fC cu cv (by rfl) Y.zk abn (Fy (ab (Ds (iY rfl (by rfl) Y.ze (gU (x6 4)))) ag))))))))))) g5
theorem RL:az ["net", "#t"] ["net"] (aq fY):=Be
theorem mK(Y:Ev K mg)(hB:BMain mg base):GT P w base Y.Br 3 (dB (Y.yi,Y.yb)) :=
 eI (eG (nm := "#t") Y.Br.F RL rfl (by decide) rfl (by unfold Dj;decide +kernel) (λyx C0 A outer s H E hr=>by
  unfold da
  exact(ap (aA (yI (hU Y) hr (ab (bY 0) (ab (Bo 1 (hZ Y hB) hr (ab (bY 0) (ab (yI (lI Y) hr (ab (bY 0) ag)) ag))) ag))))))) (ma _)
theorem Oa:az ["net", "beside", "tie"] ["net"] (aq dR):=Be
theorem ky(Y:Ev K mg):GQ P w base Y.Aw 2 cw :=
 aX (xl Y.Aw.F Oa (by decide) (λyx A outer s H E hr=>by
  unfold cg
  exact(aj (pM 1 Oa.nd rfl rfl (aY (yJ hr (bY 0) (yc ak))) (λ_ _ _ _ _=>aU (i:=0) b9 rfl (Or.inl rfl)) (λ_ _ _ _ _=>pv 0))
  (aj (bD aba rfl (aY (yJ hr (bY 0) (yc ak))) (aJ 2 Oa.nd rfl (Or.inl rfl)) (ap (aO (ce (yc (yI (dW Y) hr (ab (bY 0) (ab (bY 2) ag))))) (aj (jw 1 (KL hr) (pv 1) (yJ hr (bY 2) (yc ak)) (aH (ab (yJ hr (bY 2) (yc ak)) (ab (yJ hr (bY 2) (yc ak)) ag))))
  (ap (jw 1 (KL hr) (pv 1) (yJ hr (bY 2) (yc ak)) (aH (ab (yJ hr (bY 2) (yc ak)) (ab (yJ hr (bY 2) (yc ak)) ag)))))) aG)))
  (ap (rA 1 (pv 1))))))) j7
theorem Kw:az ["beside", "start", "come", "ahead", "here", "name", "place"] ["beside", "start"] (aq jX):=Be
theorem nG(Y:Ev K mg):GQ P w base Y.C7 1 dX :=
 aX (bq Y.C7.F Kw (by decide) (λyx A outer s H E hr=>by
  unfold dM
  exact(aj (b0 2 Kw.nd rfl (Or.inl rfl) (vE (CA.cons (bY 1) cC CA.nil)))
  (aj (b0 3 Kw.nd rfl (Or.inl rfl) (cD (ab (bY 1) ag)))
  (aj (mL aba (ce (x6 3)) (aj (aB 4 Kw.nd rfl (Or.inl rfl) (xr 3 PySem.F.slot_list_pop PySem.F.type_list_pop wN wO (pv 3)))
  (ap (bD aba rfl (aY (yJ hr (bY 0) (x6 4))) (gy (n:=2) rfl (aZ (aJ 5 Kw.nd rfl (Or.inl rfl)) (aZ (aJ 6 Kw.nd rfl (Or.inl rfl)) eO)) (bi (bi gq))) (ap (aO (yy (gK (Ca hr)) gI (bY 6) (x6 2)) (aj (rp 2 (KL hr) (aH (ab (bY 5) (ab (bY 4) ag))) (pv 2) (bY 6))
  (ap (cr (yc (fB 3 abk abj bj bB (pv 3) (ab (bY 6) ag)))))) aG))))))
  (ap (aA (bY 2)))))))) nj
theorem nu:(["tie", "names"]:List Str).Nodup:=by decide +kernel
theorem Of:az ["net", "names"] ["net", "names"] (aq Gb):=Be
theorem tj(Y:Ev K mg):GQ P w base Y.GR 1 i0 :=
 aX (bq Y.GR.F Of (by decide) (λyx A outer s H E hr=>by
  unfold ir
  exact(ap (aA (aH (ab (yJ hr (bY 0) (yc ak)) (ab (fC cu cv (by rfl) Y.zk abn (Fy (ab (Ds (jA (N:=["tie", "names"]) (aY (yJ hr (bY 0) (yc ak))) (λ_ _ _ _ _=>aU (i:=0) nu rfl (Or.inl rfl)) (λ_ _ _ _ _=>jC (yy (dq (Ca hr)) dm (yJ hr (bY 0) (yc ak)) (x6 1))) (λ_ _ _ _ _=>(bY 0)))) ag))) ag))))))) sw
theorem E6:az ["net", "forest", "one", "other", "come", "names", "here", "name"] ["net", "forest", "one", "other"] (aq Jg):=Be
theorem vq(Y:Ev K mg):GQ P w base Y.Ka 3 kK :=
 aX (bq Y.Ka.F E6 (by decide) (λyx A outer s H E hr=>by
  unfold jL
  exact(aj (aB 4 E6.nd rfl (Or.inl rfl) (yI (nG Y) hr (ab (yI (ky Y) hr (ab (yI (tj Y) hr (ab (bY 0) (ab (bY 1) ag))) ag)) (ab (bY 3) ag))))
  (aj (aO (yy (gK (Ca hr)) gI (bY 2) (x6 4)) (ap (aA cC)) aG)
  (aj (b0 5 E6.nd rfl (Or.inl rfl) (cD ag))
  (aj (aB 6 E6.nd rfl (Or.inl rfl) (bY 2))
  (aj (mL aba (yy (pA (zI hr)) me (bY 6) (x6 3)) (aj (mM (yJ hr (bY 4) (x6 6)) (gy (n:=2) rfl (aZ (aJ 7 E6.nd rfl (Or.inl rfl)) (aZ (aJ 6 E6.nd rfl (Or.inl rfl)) eO)) (bi (bi gq))))
  (ap (cr (yc (fB 5 abk abj bj bB (pv 5) (ab (bY 7) ag)))))))
  (ap (aA (fC cu cv (by rfl) Y.zk abn (gU (x6 5)))))))))))) uF
theorem QJ:az ["net", "name", "other", "cost"] ["net", "name", "other"] (aq cH):=Be
theorem hX(Y:Ev K mg):GQ P w base Y.zL 2 bM :=
 aX (bq Y.zL.F QJ (by decide) (λyx A outer s H E hr=>by
  unfold bI
  exact(aj (aB 3 QJ.nd rfl (Or.inl rfl) (yJ hr (yJ hr (yI (bV Y) hr (ab (bY 0) ag)) (x6 2)) (yc ak)))
  (ap (aA (rG (yy t4 qE (bY 1) (x6 2)) (bY 3) (bQ (bY 3) (yc ak)))))))) g6
theorem QL:az ["net", "tree", "tie", "other", "#t"] ["net", "tree", "tie"] (aq ck):=Be
theorem gu(Y:Ev K mg)(hB:BMain mg base):GT P w base Y.zy 4 (bE (Y.yi,Y.yb)) :=
 eI (eG (nm := "#t") Y.zy.F QL rfl (by decide) rfl (by unfold Dj;decide +kernel) (λyx C0 A outer s H E hr=>by
  unfold bz
  exact(aj (aB 3 QL.nd rfl (Or.inl rfl) (Bo 4 (kA Y hB) hr (ab (bY 0) (ab (yI (vq Y) hr (ab (bY 0) (ab (bY 1) (ab (yJ hr (bY 2) (yc ak)) (ab (yJ hr (bY 2) (yc ak)) ag))))) ag))))
  (ap (aA (aH (ab aP (ab (yI (hX Y) hr (ab (bY 0) (ab (yJ hr (bY 2) (yc ak)) (ab (bY 3) ag)))) (ab (bY 3) ag))))))))) (gf _)
theorem Hn:az ["net", "name", "named", "tie", "tree", "#t"] ["net", "name"] (aq jS):=Be
theorem jt(Y:Ev K mg)(hB:BMain mg base):GT P w base Y.C4 5 (cN (Y.yi,Y.yb)) :=
 eI (eG (nm := "#t") Y.C4.F Hn rfl (by decide) rfl (by unfold Dj;decide +kernel) (λyx C0 A outer s H E hr=>by
  unfold e9
  exact(aj (aB 2 Hn.nd rfl (Or.inl rfl) (yI (bV Y) hr (ab (bY 0) ag)))
  (aj (aO (yy (gK (Ca hr)) gI (bY 1) (x6 2)) (ap xo) aG)
  (aj (aB 3 Hn.nd rfl (Or.inl rfl) (yJ hr (bY 2) (x6 1)))
  (aj (aO (mP (ce (yc (yI (dW Y) hr (ab (bY 0) (ab (bY 3) ag)))))) (ap (aA (aH (ab aP ag)))) aG)
  (aj (aB 4 Hn.nd rfl (Or.inl rfl) (Bo 5 (mK Y hB) hr (ab (bY 0) ag)))
  (aj (aO (yy (dq (Ca hr)) dm (bY 1) (x6 4)) (ap (aA (yI (hV Y) hr (ab (bY 0) (ab (bY 4) (ab (bY 3) ag)))))) aG)
  (ap (aA (Bo 5 (gu Y hB) hr (ab (bY 0) (ab (bY 4) (ab (bY 3) ag)))))))))))))) (pj _)
theorem CO:az ["_law_state", "_law_many", "_law_letters", "_law_base", "_law_size", "_law_at", "_law_first", "_law_found", "_law_k", "_law_two"] ["_law_state", "_law_many"] (aq Eb):=Be
theorem li(Y:Ev K mg):GO P w base Y.Em 2 dI :=
 gR (jv Y.Em.F CO (by decide) (λyx A outer s H E hr=>by
  unfold fR
  exact(aj (aB 2 CO.nd rfl (Or.inl rfl) aP)
  (aj (aB 3 CO.nd rfl (Or.inl rfl) (yJ hr (bY 2) (yc (yo 0 (aI Y) hr (ab ak ag)))))
  (aj (aB 4 CO.nd rfl (Or.inl rfl) (yo 0 (aI Y) hr (ab ak ag)))
  (aj (aB 5 CO.nd rfl (Or.inl rfl) (yo 0 (aI Y) hr (ab (aQ (bY 4) (yc ak)) ag)))
  (aj (aB 6 CO.nd rfl (Or.inl rfl) (yo 0 (aI Y) hr (ab ak ag)))
  (aj (b0 7 CO.nd rfl (Or.inl rfl) (cD ag))
  (aj (bD aba rfl (gw (by rfl) Y.Bd (ab (bY 1) ag)) (aJ 8 CO.nd rfl (Or.inl rfl)) (aj (aB 9 CO.nd rfl (Or.inl rfl) (aQ (yJ hr (bY 2) (yc (eM (aQ (bY 6) (yc (eJ ak (x6 8)))) (yc ak)))) (yc (yJ hr (bY 2) (yc (eM (aQ (bY 6) (yc (rH (bY 8) (yc ak)))) (yc ak)))))))
  (ap (aO (pP (mQ (yy t4 qE (bY 1) (yc ak)) (kD (yy (bf (AB hr)) be (bY 4) (yc ak))))) (ap (cr (yc (fB 7 abk abj bj bB (pv 7) (ab (eJ (bY 3) (yc (aQ (bY 8) (yc ak)))) ag))))) (ap (cr (yc (fB 7 abk abj bj bB (pv 7) (ab (aQ (aQ (eJ (bY 3) (x6 5)) (x6 9)) (yc (eJ (bY 3) (yc (bQ (bY 4) (x6 5)))))) ag)))))))))
  (ap (aA (bY 7)))))))))))) qB
theorem Od:az ["_law_state", "_law_sort"] ["_law_state", "_law_sort"] (aq Ge):=Be
theorem tz(Y:Ev K mg):GO P w base Y.GU 2 ja :=
 gR (jv Y.GU.F Od (by decide) (λyx A outer s H E hr=>by
  unfold iz
  exact(aj (aO (yy (bf (AB hr)) be (bY 1) (yc ak)) (ap (aA ak)) aG)
  (aj (aO (yy (bf (AB hr)) be (bY 1) (yc ak)) (ap (aA (bQ (yo 0 (aI Y) hr (ab ak ag)) (yc ak)))) aG)
  (aj (aO (yy (bf (AB hr)) be (bY 1) (yc ak)) (ap (aA (bQ (yo 0 (aI Y) hr (ab ak ag)) (yc ak)))) aG)
  (ap (aA (yJ hr (Ds (cD (ab (bQ (mN ak (yc ak)) (yc ak)) (ab (bQ ak (yc (mN ak (yc ak)))) (ab ak (ab (yo 0 (aI Y) hr (ab (mN ak (yc ak)) ag)) ag)))))) (yc (yo 0 (aI Y) hr (ab ak ag))))))))))) sE
theorem FI:az ["_law_state", "_law_family", "_law_many", "_law_k", "_law_half", "_law_side", "_law_one"] ["_law_state", "_law_family", "_law_many", "_law_k"] (aq Gd):=Be
theorem tw(Y:Ev K mg):GO P w base Y.GS 2 i9 :=
 gR (jv Y.GS.F FI (by decide) (λyx A outer s H E hr=>by
  unfold iy
  exact(aj (aO (yy (bf (AB hr)) be (bY 1) (yc ak)) (ap (aA (aH (ab (eM (bY 3) (x6 2)) (ab (eM (aQ (bY 3) (yc ak)) (x6 2)) ag))))) aG)
  (aj (aO (yy (bf (AB hr)) be (bY 1) (yc ak)) (ap (aA (aH (ab ak (ab (aQ ak (yc (yo 0 (aI Y) hr (ab (bQ (bY 2) (yc ak)) ag)))) ag))))) aG)
  (aj (aO (pP (mQ (yy (bf (AB hr)) be (bY 1) (yc ak)) (kD (yy xO wD (bY 2) (yc ak))))) (aj (aB 4 FI.nd rfl (Or.inl rfl) (rH (bY 2) (yc ak)))
  (aj (aB 5 FI.nd rfl (Or.inl rfl) (yo 0 (aI Y) hr (ab ak ag)))
  (aj (aB 6 FI.nd rfl (Or.inl rfl) (yo 0 (aI Y) hr (ab (bY 4) ag)))
  (ap (aA (aH (ab (aQ (eJ (bY 5) (x6 4)) (x6 6)) (ab (aQ (eJ (bY 5) (x6 4)) (yc (eM (aQ (aQ (bY 6) (yc ak)) (yc (yo 0 (aI Y) hr (ab (bQ (bY 4) (yc ak)) ag)))) (x6 4)))) ag)))))))) aG)
  (aj (aB 6 FI.nd rfl (Or.inl rfl) (yo 0 (aI Y) hr (ab (bY 2) ag)))
  (ap (aA (aH (ab (bY 6) (ab (eM (aQ (aQ (bY 6) (yc ak)) (yc (yo 0 (aI Y) hr (ab (bQ (bY 2) (yc ak)) ag)))) (x6 2)) ag))))))))))) sD
theorem BH:az ["_law_state", "_law_most", "_law_ties_most", "_law_many", "_law_words_here", "_law_pool", "_law_count", "_law_names", "_law_family", "_law_sort", "_law_ties", "_law_k", "_law_one", "_law_other", "_law_two"] ["_law_state", "_law_most", "_law_ties_most"] (aq Jh):=Be
theorem vy(Y:Ev K mg):GO P w base Y.Kd 3 kL :=
 gR (jv Y.Kd.F BH (by decide) (λyx A outer s H E hr=>by
  unfold jM
  exact(aj (aB 3 BH.nd rfl (Or.inl rfl) (yo 0 (aI Y) hr (ab (aQ (bY 1) (yc ak)) ag)))
  (aj (aB 4 BH.nd rfl (Or.inl rfl) (yo 0 (li Y) hr (ab (aQ (bY 3) (yc ak)) ag)))
  (aj (aB 5 BH.nd rfl (Or.inl rfl) (pN (bY 4) kF (kE (yc (gS (xD rfl) xF (by rfl) Y.E2 PyProof.Rows.boot_max (Fy (ab ak (ab (aQ (bY 3) (yc (yo 0 (aI Y) hr (ab ak ag)))) ag))))))))
  (aj (aB 6 BH.nd rfl (Or.inl rfl) (yo 0 (aI Y) hr (ab (aQ (bY 2) (yc ak)) ag)))
  (aj (aB 7 BH.nd rfl (Or.inl rfl) (yo 0 (li Y) hr (ab (bY 6) ag)))
  (aj (rq 8 9 rfl BH.nd rfl rfl (by decide) rfl rfl (ab (yo 0 (aI Y) hr (ab ak ag)) (ab (yo 0 (aI Y) hr (ab ak ag)) ag)) rfl)
  (aj (b0 10 BH.nd rfl (Or.inl rfl) (cD ag))
  (aj (bD aba rfl (gw (by rfl) Y.Bd (ab (bY 6) ag)) (aJ 11 BH.nd rfl (Or.inl rfl)) (aj (mM (yo 0 (tw Y) hr (ab (bY 8) (ab (gS jE jF (by rfl) Y.CL adc (gU (x6 5))) (ab (bY 11) ag)))) (gy (n:=2) rfl (aZ (aJ 12 BH.nd rfl (Or.inl rfl)) (aZ (aJ 13 BH.nd rfl (Or.inl rfl)) eO)) (bi (bi gq))))
  (aj (aB 14 BH.nd rfl (Or.inl rfl) (Ds (iY rfl (by rfl) Y.ze (Fy (ab (Ds (cD (ab (yJ hr (bY 5) (x6 12)) (ab (yJ hr (bY 5) (x6 13)) ag)))) ag)))))
  (ap (cr (yc (fB 10 abk abj bj bB (pv 10) (ab (aH (ab (yJ hr (bY 7) (x6 11)) (ab (yJ hr (bY 14) (yc ak)) (ab (yJ hr (bY 14) (yc ak)) (ab (yo 0 (tz Y) hr (ab (bY 9) ag)) ag))))) ag))))))))
  (ap (aA (aH (ab (fC cu cv (by rfl) Y.zk abn (Fy (ab (Ds (iY rfl (by rfl) Y.ze (Fy (ab (pN (bY 4) kF (kE (x6 3))) ag)))) ag))) (ab (fC cu cv (by rfl) Y.zk abn (Fy (ab (Ds (tG (by rfl) Y.ze (gU (x6 10)))) ag))) ag))))))))))))))) uG
theorem ii:(["_law_one", "_law_other"]:List Str).Nodup:=by decide +kernel
theorem Oc:az ["_law_found", "_law_due"] ["_law_found", "_law_due"] (aq FX):=Be
theorem lU(Y:Ev K mg)(G:yd P w K mg base yQ k Y.Ae.f Y.Ae.fd ["_law_found", "_law_due"] (CU ⟨P,w,K,zW K⟩ 2 D)):yd P w K mg base yQ (k+1) Y.Ae.f Y.Ae.fd ["_law_found", "_law_due"] (CU ⟨P,w,K,zW K⟩ 2 (run 2 (cj D))) :=
 bq Y.Ae.F Oc (by decide) (λyx A outer s H E hr=>by
  unfold cj
  exact(aj (aO (ce (yc (cE "tuple" (by decide) Y.yp Y.zk abn (x6 1)))) (aj (aO (pP (xV (mP (ce (yc (cE "tuple" (by decide) Y.yp Y.zk abn (x6 0))))) (xB (yy (pA (zI hr)) me (gS jE jF (by rfl) Y.CL adc (gU (x6 0))) (yc (gS jE jF (by rfl) Y.CL adc (gU (x6 1)))))))) (ap (aA ua)) aG)
  (ap (aA (gS (tR rfl) xG (by rfl) Y.ID PyProof.Rows.boot_all (Fy (ab (Ds (jA (N:=["_law_one", "_law_other"]) (xC (by rfl) Y.IC (ab (bY 0) (ab (bY 1) ag))) (λ_ _ _ _ _=>lX (n:=2) rfl (dk (aU (i:=0) ii rfl (Or.inl rfl)) (dk (aU (i:=1) ii rfl (Or.inl rfl)) j5))) (λ_ _ _ _ _=>eR) (λ_ _ _ _ _=>(oG G hr Y.Ae.n.mg Y.Ae.n.kp Y.Ae.b (ab (bY 0) (ab (bY 1) ag)))))) ag)))))) aG)
  (aj (aO (yy pB mf (bY 1) (yc cC)) (ap (aA (Dy pB mf (bY 0) (yc cC)))) aG)
  (aj (aO (ce (yc (cE "bool" (by decide) Y.yp Y.Dd adH (x6 1)))) (ap (aA (gv (cE "bool" (by decide) Y.yp Y.Dd adH (x6 0)) (jz (Dy (bf (AB hr)) be (bY 0) (x6 1)))))) aG)
  (aj (aO (ce (yc (cE "str" (by decide) Y.yp Y.GX PyProof.Rows.boot_str (x6 1)))) (ap (aA (gv (cE "str" (by decide) Y.yp Y.GX PyProof.Rows.boot_str (x6 0)) (jz (Dy (bf (AB hr)) be (bY 0) (x6 1)))))) aG)
  (ap (aA (gv (cE "int" (by decide) Y.yp Y.GY PyProof.Rows.boot_int (x6 0)) (gv (xq (cE "bool" (by decide) Y.yp Y.Dd adH (x6 0))) (jz (Dy (bf (AB hr)) be (bY 0) (x6 1))))))))))))
theorem rj(Y:Ev K mg):yd P w K mg base yQ 1 Y.Ae.f Y.Ae.fd ["_law_found", "_law_due"] (CU ⟨P,w,K,zW K⟩ 2 gB):=aX (lU Y (kC (n:=2))) qC
theorem tu(Y:Ev K mg):yd P w K mg base yQ 2 Y.Ae.f Y.Ae.fd ["_law_found", "_law_due"] (CU ⟨P,w,K,zW K⟩ 2 i8):=aX (lU Y (rj Y)) sB
theorem Ob:az ["_law_tie"] ["_law_tie"] (aq Jj):=Be
theorem oE(Y:Ev K mg):GQ P w base Y.Es 1 g0 :=
 aX (bq Y.Es.F Ob (by decide) (λyx A outer s H E hr=>by
  unfold jN
  exact(ap (aA (aH (ab (yJ hr (bY 0) (yc ak)) (ab (yJ hr (bY 0) (yc ak)) ag))))))) uI
theorem nA:(["_law_tie", "_law_net_here"]:List Str).Nodup:=by decide +kernel
theorem Oe:az ["_law_net_here"] ["_law_net_here"] (aq Ga):=Be
theorem sh(Y:Ev K mg):yd P w K mg base yQ 1 Y.Aj.f Y.Aj.fd ["_law_net_here"] (Kz ⟨P,w,K,zW K⟩ 1 (Hu 1 fg)) :=
 xk Y.Aj.F Oe (by decide) (λyx A outer s H E hr=>by
  unfold fg
  exact(ap (vC (jA (N:=["_law_tie", "_law_net_here"]) (aY (yJ hr (bY 0) (yc ak))) (λ_ _ _ _ _=>aU (i:=0) nA rfl (Or.inl rfl)) (λ_ _ _ _ _=>jC (pP (mQ (yy (dq (Ca hr)) dm (yJ hr (bY 0) (yc ak)) (yc (yJ hr (bY 1) (yc ak)))) (kD (yy (dq (Ca hr)) dm (yJ hr (bY 0) (yc ak)) (yc (yJ hr (bY 1) (yc ak)))))))) (λ_ _ _ _ _=>(bY 0))))))
theorem lm(Y:Ev K mg):yd P w K mg base yQ 1 Y.Aj.f Y.Aj.fd ["_law_net_here"] (Kz ⟨P,w,K,zW K⟩ 1 fH):=vA (sh Y) sC
theorem lH:(["_law_place"]:List Str).Nodup:=by decide +kernel
theorem Dk:az ["_law_places", "_law_ties", "_law_labels_here", "_law_name", "_law_one", "_law_other", "_law_cost_here", "_law_mine", "_law_yours", "_law_place"] ["_law_places", "_law_ties"] (aq jT):=Be
theorem ju(Y:Ev K mg):GQ P w base Y.Az 1 cO :=
 aX (bq Y.Az.F Dk (by decide) (λyx A outer s H E hr=>by
  unfold fj
  exact(aj (b0 2 Dk.nd rfl (Or.inl rfl) (xu (vK rfl) vM (by rfl) Y.GZ PyProof.Rows.boot_dict (Fy (ab (Ds (jA (N:=["_law_place"]) (aY (bY 0)) (λ_ _ _ _ _=>aU (i:=0) lH rfl (Or.inl rfl)) (λ_ _ _ _ _=>eR) (λ_ _ _ _ _=>(aH (ab (bY 0) (ab (bY 0) ag)))))) ag))))
  (aj (bD aba rfl (aY (bY 1)) (gy (n:=4) rfl (aZ (aJ 3 Dk.nd rfl (Or.inl rfl)) (aZ (aJ 4 Dk.nd rfl (Or.inl rfl)) (aZ (aJ 5 Dk.nd rfl (Or.inl rfl)) (aZ (aJ 6 Dk.nd rfl (Or.inl rfl)) eO)))) (bi (bi (bi (bi gq))))) (aj (rq 7 8 rfl Dk.nd rfl rfl (by decide) rfl rfl (ab (GG 2 hr (x6 4)) (ab (GG 2 hr (x6 5)) ag)) rfl)
  (ap (bD aba rfl (aY (bY 0)) (aJ 9 Dk.nd rfl (Or.inl rfl)) (ap (aO (yy (bf (AB hr)) be (GG 2 hr (x6 9)) (x6 8)) (ap (rp 2 (KL hr) (bY 7) (pv 2) (bY 9))) aG))))))
  (ap (aA (bY 2))))))) pz
theorem nz:(["_law_one", "_law_tie"]:List Str).Nodup:=by decide +kernel
theorem E7:az ["_law_net_here", "_law_kept", "_law_tie", "_law_others", "_law_labels_here"] ["_law_net_here"] (aq FW):=Be
theorem tt(Y:Ev K mg):GQ P w base Y.GN 4 i7 :=
 aX (bq Y.GN.F E7 (by decide) (λyx A outer s H E hr=>by
  unfold iu
  exact(aj (aB 1 E7.nd rfl (Or.inl rfl) (Ds (mO (lm Y) (hr.mono (by decide)) Y.Aj.n.mg Y.Aj.n.kp Y.Aj.b (ab (bY 0) ag))))
  (aj (bD aba rfl (aY (Ds (rF (oE Y) (hr.mono (by decide)) Y.Es.n.mg Y.Es.b Y.ze (bY 1)))) (aJ 2 E7.nd rfl (Or.inr rfl)) (aj (xm 3 (N:=["_law_one", "_law_tie"]) E7.nd rfl rfl (aY (bY 1)) (λ_ _ _ _ _=>aU (i:=0) nz rfl (Or.inl rfl)) (λ_ _ _ _ _=>jC (yy (wG (AB hr)) uJ (bY 0) (x6 1))) (λ_ _ _ _ _=>(bY 0)))
  (aj (aB 4 E7.nd rfl (Or.inl rfl) (yI (ju Y) hr (ab (yJ hr (bY 0) (yc ak)) (ab (bY 3) ag))))
  (ap (aO (yy (bf (AB hr)) be (yJ hr (bY 4) (yc (yJ hr (bY 2) (yc ak)))) (yc (yJ hr (bY 4) (yc (yJ hr (bY 2) (yc ak)))))) (ap (aB 1 E7.nd rfl (Or.inl rfl) (bY 3))) aG)))))
  (ap (aA (bY 1))))))) sA
theorem Og:az ["_law_name", "_law_other"] ["_law_name", "_law_other"] (aq Ed):=Be
theorem lj(Y:Ev K mg):GQ P w base Y.Ep 1 dJ :=
 aX (bq Y.Ep.F Og (by decide) (λyx A outer s H E hr=>by
  unfold fS
  exact(ap (aA (bQ (yJ hr (bY 1) (yc ak)) (yc (fC vJ vL (by rfl) Y.GY PyProof.Rows.boot_int (Fy (ab (Dy qI uL (bY 0) (yc (yJ hr (bY 1) (yc ak)))) ag))))))))) qD
theorem Ho:az ["_law_net_here", "_law_kept", "_law_tie", "_law_laid", "_law_one", "_law_labels_here"] ["_law_net_here", "_law_kept", "_law_tie"] (aq iH):=Be
theorem nH(Y:Ev K mg):GQ P w base Y.Cf 4 dY :=
 aX (bq Y.Cf.F Ho (by decide) (λyx A outer s H E hr=>by
  unfold dN
  exact(aj (b0 3 Ho.nd rfl (Or.inl rfl) (cD ag))
  (aj (bD aba rfl (aY (Ds (tH (oE Y) (hr.mono (by decide)) Y.Es.n.mg Y.Es.b Y.ze (bY 1)))) (aJ 4 Ho.nd rfl (Or.inl rfl)) (aj (cr (yc (fB 3 abk abj bj bB (pv 3) (ab (bY 4) ag))))
  (aj (aB 5 Ho.nd rfl (Or.inl rfl) (tM 3 (ju Y) (hr.mono (by decide)) Y.Az.n.mg Y.Az.n.kp Y.Az.b (yJ hr (bY 0) (yc ak)) (pv 3)))
  (ap (aO (yy (bf (AB hr)) be (yJ hr (bY 5) (yc (yJ hr (bY 2) (yc ak)))) (yc (yJ hr (bY 5) (yc (yJ hr (bY 2) (yc ak)))))) (ap (aA (bY 4))) aG)))))
  (ap (aA cC)))))) nq
theorem IL:az ["_law_net_here", "_law_kept", "_law_tie", "_law_other"] ["_law_net_here", "_law_kept", "_law_tie"] (aq iG):=Be
theorem pK(Y:Ev K mg):GQ P w base Y.Ce 5 fI :=
 aX (bq Y.Ce.F IL (by decide) (λyx A outer s H E hr=>by
  unfold fh
  exact(aj (aO (yy (gK (Ca hr)) gI (bY 2) (x6 1)) (aj (aB 3 IL.nd rfl (Or.inl rfl) (yI (nH Y) hr (ab (bY 0) (ab (bY 1) (ab (bY 2) ag)))))
  (ap (aA (aH (ab aP (ab (yI (lj Y) hr (ab (yJ hr (bY 2) (yc ak)) (ab (bY 3) ag))) (ab (yJ hr (bY 3) (yc ak)) ag))))))) aG)
  (aj (aB 3 IL.nd rfl (Or.inl rfl) (yI (pL Y) hr (ab (bY 0) (ab (bY 1) (ab (bY 2) ag)))))
  (aj (aO (yy pB mf (bY 3) (yc cC)) (ap (aA (aH (ab aP (ab cC (ab cC ag)))))) aG)
  (ap (aA (aH (ab aP (ab (yI (lj Y) hr (ab (yJ hr (bY 2) (yc ak)) (ab (bY 3) ag))) (ab (yJ hr (bY 3) (yc ak)) ag))))))))))) pq
theorem D0:az ["_law_script", "_law_state", "_law_turn", "_law_net_here", "_law_kept", "_law_tie", "#t"] ["_law_script"] (aq Ji):=Be
theorem uw(Y:Ev K mg)(hB:BMain mg base):yd P w K mg base yQ 6 Y.Er.f Y.Er.fd ["_law_script"] (spT ⟨P,w,K,zW K⟩ 1 (A4 6 (gD (Y.yi,Y.yb)))) :=
 eG (nm := "#t") Y.Er.F D0 rfl (by decide) rfl (by unfold Dj;decide +kernel) (λyx C0 A outer s H E hr=>by
  unfold gD
  exact(aj (rD 1 0 D0.nd rfl (Or.inl rfl) (rm Y) (hr.mono (by decide)) Y.AU.n.mg Y.AU.n.kp Y.AU.b (pv 0))
  (aj (bD aba rfl (gw (by rfl) Y.Bd (ab (aQ ak (yc (gS jE jF (by rfl) Y.CL adc (Fy (ab (pN (bY 0) kF (kE (yc ak))) ag))))) ag)) (aJ 2 D0.nd rfl (Or.inl rfl)) (aj (aB 3 D0.nd rfl (Or.inl rfl) (yo 1 (vy Y) hr (ab ak (ab ak ag))))
  (aj (aB 4 D0.nd rfl (Or.inl rfl) (yI (tt Y) hr (ab (bY 3) ag)))
  (ap (bD aba rfl (aY (Ds (mO (lm Y) (hr.mono (by decide)) Y.Aj.n.mg Y.Aj.n.kp Y.Aj.b (ab (bY 3) ag)))) (aJ 5 D0.nd rfl (Or.inl rfl)) (aj (aO (yy (dq (Ca hr)) dm (bY 5) (x6 4)) (ap xn) aG)
  (ap (aO (mP (ce (yc (yI (tu Y) hr (ab (Bo 6 (jt Y hB) hr (ab (bY 3) (ab (yJ hr (bY 5) (yc ak)) ag))) (ab (yI (pK Y) hr (ab (bY 3) (ab (bY 4) (ab (bY 5) ag)))) ag)))))) (ap (aA ua)) aG))))))))
  (aj (aB 3 D0.nd rfl (Or.inl rfl) (aH (ab (aH (ab aP (ab aP (ab aP ag)))) (ab (aH (ab (aH (ab aP (ab aP (ab aP (ab ak ag))))) (ab (aH (ab aP (ab aP (ab aP (ab ak ag))))) (ab (aH (ab aP (ab aP (ab aP (ab ak ag))))) ag)))) ag))))
  (ap (aA (Dy (bf (AB hr)) be (Bo 6 (jt Y hB) hr (ab (bY 3) (ab aP ag))) (yc (aH (ab aP (ab ak (ab aP ag))))))))))))
theorem wK(Y:Ev K mg)(hB:BMain mg base):yd P w K mg base yQ 6 Y.Er.f Y.Er.fd ["_law_script"] (BW K (Y.yi,Y.yb)):=u9 (uw Y hB) (uH _)
end Pre
namespace Pre
open PySem L2
variable{fd:abz}{ps:List Str}
theorem RI(us:List Value)(h:us.length=1)(k:∀a0,acP fd ⟨[a0],[]⟩=pure (ps.zip [a0])):acP fd ⟨us,[]⟩=pure (ps.zip us):=by obtain⟨a0,u0,rfl⟩:=aaz (h);obtain rfl:=List.length_eq_zero_iff.mp (aa3 (h));exact k a0
theorem Uu(us:List Value)(h:us.length=2)(k:∀a0 a1,acP fd ⟨[a0,a1],[]⟩=pure (ps.zip [a0,a1])):acP fd ⟨us,[]⟩=pure (ps.zip us):=by obtain⟨a0,u0,rfl⟩:=aaz (h);obtain⟨a1,u1,rfl⟩:=aaz (aa3 (h));obtain rfl:=List.length_eq_zero_iff.mp (aa3 (aa3 (h)));exact k a0 a1
theorem Ut(us:List Value)(h:us.length=3)(k:∀a0 a1 a2,acP fd ⟨[a0,a1,a2],[]⟩=pure (ps.zip [a0,a1,a2])):acP fd ⟨us,[]⟩=pure (ps.zip us):=by obtain⟨a0,u0,rfl⟩:=aaz (h);obtain⟨a1,u1,rfl⟩:=aaz (aa3 (h));obtain⟨a2,u2,rfl⟩:=aaz (aa3 (aa3 (h)));obtain rfl:=List.length_eq_zero_iff.mp (aa3 (aa3 (aa3 (h))));exact k a0 a1 a2
theorem Us(us:List Value)(h:us.length=4)(k:∀a0 a1 a2 a3,acP fd ⟨[a0,a1,a2,a3],[]⟩=pure (ps.zip [a0,a1,a2,a3])):acP fd ⟨us,[]⟩=pure (ps.zip us):=by obtain⟨a0,u0,rfl⟩:=aaz (h);obtain⟨a1,u1,rfl⟩:=aaz (aa3 (h));obtain⟨a2,u2,rfl⟩:=aaz (aa3 (aa3 (h)));obtain⟨a3,u3,rfl⟩:=aaz (aa3 (aa3 (aa3 (h))));obtain rfl:=List.length_eq_zero_iff.mp (aa3 (aa3 (aa3 (aa3 (h)))));exact k a0 a1 a2 a3
structure yG(K:aag)(x:Str)(st:Stmt) where
 {f:Addr}
 {od an:Option Addr}
 {sl:Array (Option Value)}
 {oc kV dc pm cd ct:Value}
 a:abp K aaJ x=some (some (.ref f))
 l:K.lookup f=some ⟨oc,od,.func (acE x x (cY st) (bc st) (aq st) .none kV dc pm an cd ct),sl⟩
 c:ad7 K cd x=true
 k:abw K (.ref f)=true
variable{K:aag}{mg:Str->Option Value}{x:Str}{st:Stmt}
def yF{h:Heap}(X:K.In h)(G:h.Ns aaJ mg)(d:yG K x st)
  (hb:∀(kV doc pm:Value) (an:Option Addr) (yx ct:Value) (us:List Value),us.length=ps.length->acP (acE x x (cY st) (bc st) (aq st) .none kV doc pm an yx ct) ⟨us,[]⟩=pure (ps.zip us):=by (intro _ _ _ _ _ _ us hl;first|exact RI us hl λ_=>rfl|exact Uu us hl λ_ _=>rfl|exact Ut us hl λ_ _ _=>rfl|exact Us us hl λ_ _ _ _=>rfl)):Df K mg x st ps :=
 ⟨d.f,_,rn d.l d.c d.k,(rn d.l d.c d.k).binds hb,PySem.W.mg_of X G d.a,d.k⟩
theorem xI{l:ae4}{w:World}{h:Heap}{fa c1 c2 T1 T2:Addr}(X:K.In h)(G:h.Ns aaJ mg)(NO:mg "law" = some (.ref fa))
  (d1:yG K "is_open" jU) (d2:yG K "ties_by_name" dQ) (d3:yG K "open_ties" fX) (d4:yG K "ranks" Ec) (d5:yG K "cheapest_of" ib) (d6:yG K "dearest_of" fu) (d7:yG K "out_of" F9) (d8:yG K "cheaper_first" cI) (d9:yG K "without_round" cG) (Up:yG K "cheapest" fY) (Uo:yG K "neighbours" dR) (Um:yG K "came_by" jX) (Ul:yG K "reached" lP) (Uk:yG K "only" Gb) (Uj:yG K "way" Jg) (Ui:yG K "side_of" nN) (Uh:yG K "greatest_cost" cH) (Ug:yG K "margin_within" fJ) (Ue:yG K "margin_without" ck) (Ud:yG K "margin" jS) (Uc:yG K "_law_begin" zH) (Ub:yG K "_law_next" EL) (Ua:yG K "_law_words" Eb) (T9:yG K "_law_cost" Ge) (T8:yG K "_law_ends" Gd) (T7:yG K "_law_net" Jh) (T6:yG K "_law_same" FX) (T5:yG K "_law_key" Jj) (T4:yG K "_law_open" Ga) (T3:yG K "_law_labels" jT) (TZ:yG K "_law_tree" FW) (TY:yG K "_law_limit" Ed) (TX:yG K "_law_coming" nO) (TV:yG K "_law_leaving" iH) (TU:yG K "_law_margin" iG) (NZ:yG K "law" Ji) (hcd1:d6.cd=.ref c1) (hC1:abf K c1 T1=true) (hcd2:d8.cd=.ref c2) (hC2:abf K c2 T2=true)
  (z1:abp K aaJ "ValueError" = some none) (z2:abp K aaJ "abs" = some none) (z3:abp K aaJ "all" = some none) (z4:abp K aaJ "bool" = some none) (z5:abp K aaJ "dict" = some none) (z6:abp K aaJ "int" = some none) (z7:abp K aaJ "isinstance" = some none) (z8:abp K aaJ "len" = some none) (z9:abp K aaJ "max" = some none) (z10:abp K aaJ "min" = some none) (z11:abp K aaJ "range" = some none) (z12:abp K aaJ "sorted" = some none) (z13:abp K aaJ "str" = some none) (z14:abp K aaJ "tuple" = some none) (z15:abp K aaJ "zip" = some none)  :
  ∃fd:abz,(∀(s:Shared) (v:Value),BindsTo s fd ⟨[v],[]⟩ [("_law_script",v)])/\(∀T∈[T1,T2],∃c,abf K c T=true)/\∀base:Heap,K.In base->base.Ns aaJ mg->BMain mg base->yd l.prog w K mg base yQ 6 fa fd ["_law_script"] (Q.BW K (T1,T2)):=by
 obtain⟨V,_,v,vT,RS⟩:∃V:Ev K mg,∃hb,V.Er=yF X G NZ hb/\V.yi=T1/\V.yb=T2:=⟨{C5:=yF X G d1,Av:=yF X G d2,Bq:=yF X G d3,Eo:=yF X G d4,DD:=yF X G d5,Ah:=yF X G d6,Kc:=yF X G d7,zj:=yF X G d8,zJ:=yF X G d9,Br:=yF X G Up,Aw:=yF X G Uo,C7:=yF X G Um,GP:=yF X G Ul,GR:=yF X G Uk,Ka:=yF X G Uj,HM:=yF X G Ui,zL:=yF X G Uh,zK:=yF X G Ug,zy:=yF X G Ue,C4:=yF X G Ud,AU:=yF X G Uc,EZ:=yF X G Ub,Em:=yF X G Ua,GU:=yF X G T9,GS:=yF X G T8,Kd:=yF X G T7,Ae:=yF X G T6,Es:=yF X G T5,Aj:=yF X G T4,Az:=yF X G T3,GN:=yF X G TZ,Ep:=yF X G TY,C6:=yF X G TX,Cf:=yF X G TV,Ce:=yF X G TU,Er:=yF X G NZ,De:=aaP X G z1,IE:=aaP X G z2,ID:=aaP X G z3,Dd:=aaP X G z4,GZ:=aaP X G z5,GY:=aaP X G z6,yp:=aaP X G z7,CL:=aaP X G z8,E2:=aaP X G z9,MW:=aaP X G z10,Bd:=aaP X G z11,ze:=aaP X G z12,GX:=aaP X G z13,zk:=aaP X G z14,IC:=aaP X G z15,yi:=T1,Bb:=⟨c1,hcd1,hC1⟩,yb:=T2,Ak:=⟨c2,hcd2,hC2⟩},λ_ _ _ _ _ _ us hl=>RI us hl λ_=>rfl,rfl,rfl,rfl⟩
 have g:=λbase hB=>wK (P:=l.prog) (w:=w) (base:=base) V hB
 rw[v,vT,RS]at g
 have e:=NO.symm.trans (PySem.W.mg_of X G NZ.a)
 obtain rfl:fa=NZ.f:=by injection e with e;injection e
 exact⟨_,λs v=>.of_eq rfl,List.forall_mem_cons.mpr ⟨⟨c1,hC1⟩,List.forall_mem_cons.mpr ⟨⟨c2,hC2⟩,λ_ z=>nomatch z⟩⟩,λbase _ _=>g base⟩
theorem walk{l:ae4}{q:aaE}{loose:List Str}{XP:(Str->Option Value)->Heap->Prop}{YP:World->Heap->Prop}{d:DefRec}{K:Params->aag}{T1 T2:Addr}(hn:l.most=some 63)(ME:d.params.defaults=[])
  (hY:∀(w:World) (h:Heap),YP w h->(K w.params).In h/\∀T∈[T1,T2],h.get? T=some (ade #[])) (hK1:∀w:World,(K w.params).lookup T1=none) (hK2:∀w:World,(K w.params).lookup T2=none) (hne:(T1==T2)=false)
  (F:∀(w:World) (mg:Str->Option Value) (fa:Addr) (h:Heap),(K w.params).In h->h.Ns aaJ mg->mg d.name=some (.ref fa) ->
   ∃fd:abz,(∀(s:Shared) (u:Value),BindsTo s fd ⟨[u],[]⟩ [("_law_script",u)])/\(∀T∈[T1,T2],∃c,abf (K w.params) c T=true)/\∀base:Heap,(K w.params).In base->base.Ns aaJ mg->BMain mg base->yd l.prog w (K w.params) mg base yQ 6 fa fd ["_law_script"] (Q.BW (K w.params) (T1,T2))) :
  PySem.W.WalkO q loose XP YP l.row.toRowW d [] (λf vs=>PySem.call f vs) :=
 L2.qa (n:=63) (k:=6) (x := "_law_script") (sp:=λw=>Q.BW (K w.params) (T1,T2)) hn (by decide) ME ⟨rfl,by decide,by decide,rfl⟩ hY (λw=>List.forall_mem_cons.mpr ⟨hK1 w,List.forall_mem_cons.mpr ⟨hK2 w,λ_ z=>nomatch z⟩⟩) F λw H a ns hl hS hT=>⟨a,ns,rfl,hS,hl,ne_of_beq_false hne,hT _ (aay ..),hT _ (aar _ (aay ..)),λH' e1 e2=>⟨rfl,List.forall_mem_cons.mpr ⟨e1,List.forall_mem_cons.mpr ⟨e2,λ_ z=>nomatch z⟩⟩⟩⟩
end Pre
open PySem PySem.W PyProof.Rows
set_option maxRecDepth 100000 in
set_option maxHeartbeats 0 in
theorem PySem.Challenge.cw_cheaptree_k42_margins_of_other_ties_holds : PySem.Challenge.rw_cheaptree_k42_margins_of_other_ties.Holds := by
 w_on; o_law; km_head; (case hw=>w_witness2)
 k_fill
 refine Pre.walk (l:=PySem.Challenge.rw_cheaptree_k42_margins_of_other_ties) rfl rfl (fun w h Y=>⟨PySem.W.km_in_of Y,List.forall_mem_cons.mpr ⟨PySem.W.km_tabs_of Y _ (List.mem_cons_self ..),List.forall_mem_cons.mpr ⟨PySem.W.km_tabs_of Y _ (List.mem_cons_of_mem _ (List.mem_cons_of_mem _ (List.mem_cons_self ..))),fun _ z=>nomatch z⟩⟩⟩) ?hK1 ?hK2 ?hne ?F
 case F =>
  intro w mg fa h KX G hmg
  refine' Pre.xI KX G hmg ⟨?a1,?l1,?c1,?k1⟩ ⟨?a2,?l2,?c2,?k2⟩ ⟨?a3,?l3,?c3,?k3⟩ ⟨?a4,?l4,?c4,?k4⟩ ⟨?a5,?l5,?c5,?k5⟩ ⟨?a6,?l6,?c6,?k6⟩ ⟨?a7,?l7,?c7,?k7⟩ ⟨?a8,?l8,?c8,?k8⟩ ⟨?a9,?l9,?c9,?k9⟩ ⟨?a10,?l10,?c10,?k10⟩ ⟨?a11,?l11,?c11,?k11⟩ ⟨?a12,?l12,?c12,?k12⟩ ⟨?a13,?l13,?c13,?k13⟩ ⟨?a14,?l14,?c14,?k14⟩ ⟨?a15,?l15,?c15,?k15⟩ ⟨?a16,?l16,?c16,?k16⟩ ⟨?a17,?l17,?c17,?k17⟩ ⟨?a18,?l18,?c18,?k18⟩ ⟨?a19,?l19,?c19,?k19⟩ ⟨?a20,?l20,?c20,?k20⟩ ⟨?a21,?l21,?c21,?k21⟩ ⟨?a22,?l22,?c22,?k22⟩ ⟨?a23,?l23,?c23,?k23⟩ ⟨?a24,?l24,?c24,?k24⟩ ⟨?a25,?l25,?c25,?k25⟩ ⟨?a26,?l26,?c26,?k26⟩ ⟨?a27,?l27,?c27,?k27⟩ ⟨?a28,?l28,?c28,?k28⟩ ⟨?a29,?l29,?c29,?k29⟩ ⟨?a30,?l30,?c30,?k30⟩ ⟨?a31,?l31,?c31,?k31⟩ ⟨?a32,?l32,?c32,?k32⟩ ⟨?a33,?l33,?c33,?k33⟩ ⟨?a34,?l34,?c34,?k34⟩ ⟨?a35,?l35,?c35,?k35⟩ ⟨?a36,?l36,?c36,?k36⟩ ?hcd1 ?hC1 ?hcd2 ?hC2 ?z1 ?z2 ?z3 ?z4 ?z5 ?z6 ?z7 ?z8 ?z9 ?z10 ?z11 ?z12 ?z13 ?z14 ?z15
  case a1 | l1 | c1 | k1 | a2 | l2 | c2 | k2 | a3 | l3 | c3 | k3 | a4 | l4 | c4 | k4 | a5 | l5 | c5 | k5 | a6 | l6 | c6 | k6 | a7 | l7 | c7 | k7 | a8 | l8 | c8 | k8 | a9 | l9 | c9 | k9 | a10 | l10 | c10 | k10 | a11 | l11 | c11 | k11 | a12 | l12 | c12 | k12 | a13 | l13 | c13 | k13 | a14 | l14 | c14 | k14 | a15 | l15 | c15 | k15 | a16 | l16 | c16 | k16 | a17 | l17 | c17 | k17 | a18 | l18 | c18 | k18 | a19 | l19 | c19 | k19 | a20 | l20 | c20 | k20 | a21 | l21 | c21 | k21 | a22 | l22 | c22 | k22 | a23 | l23 | c23 | k23 | a24 | l24 | c24 | k24 | a25 | l25 | c25 | k25 | a26 | l26 | c26 | k26 | a27 | l27 | c27 | k27 | a28 | l28 | c28 | k28 | a29 | l29 | c29 | k29 | a30 | l30 | c30 | k30 | a31 | l31 | c31 | k31 | a32 | l32 | c32 | k32 | a33 | l33 | c33 | k33 | a34 | l34 | c34 | k34 | a35 | l35 | c35 | k35 | a36 | l36 | c36 | k36 | z1 | z2 | z3 | z4 | z5 | z6 | z7 | z8 | z9 | z10 | z11 | z12 | z13 | z14 | z15=>k_is
  (case hcd1=>exact rfl); (case hC1=>kernel_rfl); (case hcd2=>exact rfl); (case hC2=>kernel_rfl)
 case hK1=>(intro w; kernel_rfl)
 case hK2=>(intro w; kernel_rfl)
 case hne=>rfl
