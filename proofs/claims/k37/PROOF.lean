import PyProof.Rows.All
import Wide.All
import OpenK.AllK
import Wide.FinOn
import Lean
import PyProof.EqAt
import PyProof.EqKinds
import PyProof.TupleCall
import KE.KDictOf
import KE.KDictSum
import KE.KIntText
import KE.KLam
import KE.KNestM
import KE.KPairComp
import KE.KSortKey
import KE.KSortTup
import KE.KTab
import KE.LcSums
import PyProof.AttrMissHeap
import PyProof.Conv_int_bool
import PyProof.DictValues
import PyProof.Draws
import PyProof.EnumFor
import PyProof.EnumMake
import PyProof.EnumStmt
import PyProof.FactsAll.list_1
import PyProof.ListStr
import PyProof.NeKinds
import PyProof.ReprLen
import PyProof.ReprRoads
import PyProof.Rows.EnumRows
import PyProof.Rows.SetFrom
import PyProof.Rows.SortRev
import PyProof.Rows.StrBin
import PyProof.Rows.TupAdd
import PyProof.SetRoads
import PyProof.StrBlockG
import PyProof.StrBlockI
import PyProof.StrLawsChain
import PyProof.StrLawsIn
import PyProof.StrLawsRepr
import PyProof.StrLawsTight
import PyProof.StrWalks
import PyProof.WalksMore
import PyProof.ZipIter
import PySem.Challenge.RW_cheaptree_k37_whole_there_and_back
set_option compiler.extract_closed false
set_option Elab.async false
set_option linter.all false
set_option maxRecDepth 100000
open PySem renaming wpAny_bind→aaa,wpAny_pure→aag,starEach→aan,Program→aaq,sizeLine_eq→aaA,mainGlobals→aaD,wpAny_mono→aaI,wpAny_holding→aaQ,compareOp→aaS,FuncData→aaT,boot_len→aaW,wpAny_newObj_type→aa3,wpAny_call_entry→aa8,foldedSetIterable→abb,wpAny_truthy_bool→abJ,mem_of_lookup→abL,SetTable→abN,bootBuiltins→abZ,wpAny_callSpecial?_slot→ab1,binaryOp→ab2,codeAmong→ab8,wpAny_passesOwn→acb,wpAny_standAt→acf,wpAny_setState_of→acg,sysModules→ach,assignEach→aci,swapsWith→acp,wpAny_askSetting→acs,wpAny_setEntries_of→acu,sliceBounds→acv,Builtin→acx,wpAny_newList→acA,wpAny_Call_Name_kw→acB,codeAny_builtin→acC,NameKind→acE,wpAny_setField→acK,bindArgs→acL,getItem→acP,behindInMarks→acV,wpAny_typeOf→ac8,codeAny_mono→ac9,wpAny_sequenceKey→adi,wpAny_pyIter_slot→adj,wpAny_pyIter_list→adk,wpAny_field→ads,strIterType→adu,plainId_quiet→adv,comprehension→adw,wpAny_ite_split→adF,wpAny_execs_nil→adG,pickOrder→adH,letOwnedTupleGo→adI,codeAny→adJ,wpAny_rule→adQ,typeIs_str→adR,relayAll→adS,wpAny_newFunctionEnv→adU,wpAny_fieldsOf→adY,wpAny_pyIter_tuple→aea,tupleKind_room_in1→aeb,swapsWithSole→aec,swappedStores→aed,evalPart_none→aef,attributeBase→aeg,Fin→aek,wpAny_collect_seq→aep,wpAny_assign_Name→aeq,wpAny_Name→aer,valueAt→aes,strKind_is→aet,fits_of_scanBound→aeu,builtinsNs→aev,wpAny_eqBool_str→aeM,noFill_tuple_add→aeN,compPost→aeT,subscripted→aeV,keywordEach→aeY,holding→aeZ,callerA→ae0,isSubtype_type→afe
open List renaming getElem?_eq_getElem→aab,length_map→aae,size_toArray→aaf,getD_eq_getElem?_getD→aah,getElem?_map→aal,getElem?_eq_none→aam,map_cons→aao,getElem?_set_ne→aap,mem_cons_self→aat,length_append→aau,mem_cons_of_mem→aav,getElem?_append_left→aaw,exists_cons_of_length_eq_add_one→aaz,replicate→aaC,mem_append_right→aaE,map_map→aaJ,range→aaM,nil_append→aaV,getElem?_zip_eq_some→aaX,filterMap_cons→aaY,getElem?_set_self→aa2,map_append→aa4,length_filter_le→aa5,map_congr_left→aa7,lookup_cons→aa9,length_take→aba,mem_of_getElem?→abf,replicate_succ→abh,length_cons→abj,mem_map_of_mem→abt,mapM_cons→abw,find?_cons→abx,append_nil→aby,getElem?_set→abB,set_eq_of_length_le→abD,not_mem_nil→abH,getElem_mem→abI,flatten_cons→abK,getElem?_range→abM,length_replicate→abO,drop_eq_getElem_cons→abQ,reverse_cons→abV,length_range→abW,ext_getElem?→abX,mem_cons→ab4,getElem?_cons_zero→ab5,filter_sublist→ab6,nodup_append→ack,getElem?_append_right→acm,pairwise_iff_getElem→acq,getElem_inj→act,length→acw,length_set→acF,getElem?_cons_succ→acG,take_sublist→acJ,take_length→acQ,getElem_map→acR,filter_cons→acS,all_eq_true→acT,mem_append→ac1,lookup→ac2,perm_ext_iff_of_nodup→ac5,nodup_iff_pairwise_ne→ac6,zip_cons_cons→ada,pairwise_cons→adb,mem_singleton→adc,eq_of_mem_replicate→ado,append_assoc→adp,filter_append_perm→adz,nodup_range→adB,take_of_length_le→adD,drop_eq_nil_of_le→adE,range_succ→adL,mem_filter→adM,foldl_cons→adN,mem_of_mem_take→adV,mem_append_left→adW,take_succ→ad2,lt_irrefl→ad3,length_reverse→ad7,map_take→ael,getD→aem,filterMap_map→aen,toArray→aeJ,map_nil→aeK,any_eq_true→aeQ,of_mem_zip→ae6,length_zip→ae7,length_nil→ae8,length_eraseIdx_of_lt→afc,perm_cons→afh,findIdx?_eq_none_iff→afi,drop_zero→afj
open PySem.Heap renaming get?_push_of_some→aac,get?_push_size→aai,lt_size→aak,size_push→abp,get?_update_self→abu,SameBut→ace,get?_update_other→acI,get?_update_ne→ad8
open PySem.W renaming Frag→aad,mg_none_of→aaP,nsIn→abe,kia_one→abo,keepIn→abv,codeHdIn→abG,fnOf→acy,tabObj→adf,kitOne→ad0,codeIn→ad1,kas_rev→ad4,kas_item→aee,mg_of→aej,methodObj→aex,instObj→ae3,OpenLaw→ae4,lookIn→aff
open Nat renaming le_refl→aaj,ne_of_lt→aas,lt_of_lt_of_le→aaB,lt_or_ge→aaO,le_trans→aa1,lt_irrefl→aa6,lt_succ_of_lt→abd,zero_le→abl,lt_succ_self→abA,le_succ→abP,zero_add→ab0,ne_of_gt→acd,add_assoc→acW,zero_lt_one→ac0,le_succ_of_le→aeB,le_of_lt→aeG,le_of_eq→aeH,add_comm→aeI
open Option.some renaming inj→aar,injEq→aey
open Array renaming length_toList→aax,getElem?_toList→abi,getElem?_eq_getElem→abC,mem_of_getElem?→acO,getD_eq_getD_getElem?→ac4,toArray_toList→adX,toList_push→aeD
open Bool renaming false_ne_true→aay,and_eq_true→aaK,false_eq_true→aaR,eq_iff_iff→abz,not_true→ab7,not_false→acr,not_eq_true'→adr,or_eq_true→adP,false_and→afl,and_false→afm
open Option renaming map_eq_some_iff→aaF,map_some→adK,map→aez,getD_some→aeP
open Sum renaming inr→aaG,inl→ae1
open PySem.Value renaming ref→aaH,none→aa0,str→ab9,type→acj,isStrOf_shape→ad6
open PyProof.Rows renaming boot_tuple→aaL,slot_tuple_getitem→abk,StrsAre→ab3,listUpdate_at→acU,get?_update_seq→acY,entry_list_sort→acZ,slot_list_sort→ade,subscriptTail→adt,boot_sorted→adx,Subscript_→adT,args_list_sort→adZ,entry_tuple_getitem→ad5,AllBare→ad9,assignInOrder_cons→aeh,args_tuple_getitem→aei,plain_sorted→aeE,entry_sorted→aeF,tail_any→aeS,tuples'→aeU,seqEpoch_at→aeW,kind_sorted→aeX,callWith_type1→ae5
open PySem.Str renaming ofString→aaN,length→aew
open Nat.succ renaming inj→aaU
open PySem.Heap.SameBut renaming update→aaZ
open PySem.NameKind renaming free→abg,cell→acD
open PySem.Obj renaming data_mapFields→abm,mapSeq→abn,isFreed_of_fields→acN,cls_mapFields→aeA
open PySem.Builtin.Slice renaming slicePlaces→abq,sliceApplied→acn,sliceAdjust→adh,sliceFields→afk
open Ne renaming symm→abr
open Int renaming emod_lt_of_pos→abE,emod_nonneg→abY,toNat_natCast→acl,mul_le_mul_of_nonneg_left→aeR
open PySem.Builtin.Tuple renaming tupleExact→abF,tupleItemsOf→ac7
open Classical renaming byContradiction→abR
open PySem.F renaming type_list_append→abS,slot_list_append→abT,args_tuple_add_2→adn,entry_tuple_add→ady,slot_tuple_add→adC,slot_str_ascii_iterator_iter→aeL,plain_extend_loop→afg
open PySem.PassesOwn renaming never→abU
open PySem.SetTable renaming grown→aca,below→acM,standIn→aeO
open PySem.Around renaming under_plainId→aco
open False renaming elim→acz
open PySem.Builtin.Str renaming occurrences→acH
open True renaming intro→acX
open PySem.Builtin.List renaming listExtendWith→ac3,listTooLong→adq,listLengthHint→afb
open PySem.Calls renaming call_function_entry→adg,Name_function_global→afd
open PySem.SetTable.below renaming go→adm
open PyProof.Rows.F renaming plain_set_update_loop→adA
open ForInStep renaming yield→adO
open PySem.Heap.IsSliceOf renaming new→aeo
open List.Pairwise renaming nil→aeC
open PySem.SeqAt.EqAt renaming same→ae2
open List.cons renaming injEq→ae9
open PyProof.Rows.IsTup renaming new→afa
namespace PySem.W.Fast
def tw10167004574243368766:=()
def tw13835405397923341242:=()
def tw6696611410310121009:=()
def tw16143676689047490087:=()
def tw2950896070097034179:=()
def tw4096890981873781652:=()
def tw10482621400443303454:=()
def tw4355722116284475131:=()
def tw137310517485234696:=()
def tw5090641117862378524:=()
def tw17830847357286508662:=()
def tw18387561408925101375:=()
def tw14920635773798041652:=()
def tw305555397997572278:=()
def tw16405343742439894021:=()
def tw12816753607004820389:=()
def tw12445733963561988051:=()
def tw8218248965060772715:=()
def tw7001382184071574786:=()
def tw13394800194566287002:=()
def tw11443030365178408848:=()
def tw17170369605119177099:=()
def tw17102784592423126213:=()
def tw13306751482453040238:=()
def tw3888147344479435076:=()
def tw9856529950862431067:=()
def tw13656236169796159329:=()
def tw2556533671267004964:=()
def tw8453861601870342168:=()
def tw6941411654403744417:=()
def tw7020425422349201408:=()
def tw9606848608900020031:=()
def tw2474464257285065037:=()
def tw11029102575958493193:=()
def tw5177367664948727209:=()
def tw17490234832025131221:=()
def tw2335869027593248945:=()
def tw12759498805906155114:=()
def tw4740261787784057907:=()
def tw7789610018431683202:=()
def tw8872717379585164813:=()
def tw5755328003308234591:=()
def tw12634965305594500892:=()
def tw17628994044693189215:=()
def tw15660999071201060709:=()
def tw4671761049752145846:=()
def tw6679970248964244051:=()
def tw11753242292418211714:=()
def tw7223277143434476569:=()
def tw7576606307869996027:=()
def tw15833863098332185536:=()
def tw2099550215298030424:=()
def tw4754554866518690318:=()
def tw18029705294885568869:=()
def tw13318705267656243311:=()
def tw16894650894799656425:=()
def tw7356282201063359973:=()
def tw4003848316513640915:=()
def tw12645363018238609917:=()
def tw17535010361787363052:=()
def tw14283996488027678906:=()
def tw1394901357668504300:=()
def tw616775198402434779:=()
def tw8106393142483183469:=()
def tw16134809908028144268:=()
def tw8342025378911992950:=()
def tw12730237475261308066:=()
def tw8881216247361781791:=()
def tw1424746357475006505:=()
def tw11355273268677253597:=()
def tw12830968713170786355:=()
def tw7198675709239787891:=()
def tw14973933447625358595:=()
def tw7386587568576314577:=()
def tw10086513908252049970:=()
def tw3287030351289077598:=()
def tw16868599657485391488:=()
def tw12091229631271299789:=()
def tw5615645485718257710:=()
def tw16571395691652106599:=()
def tw22117026995328034:=()
def tw18439099777645402169:=()
def tw1315134791719402535:=()
def tw11291782767465625632:=()
def tw18219164754263630885:=()
def tw3934440988822897000:=()
def tw15092081839331100208:=()
def tw10039257085012678913:=()
def tw13769663522050055735:=()
def tw7672030516549814336:=()
def tw5228874689923367766:=()
def tw12943075937925257953:=()
def tw16538020117995448038:=()
def tw9343826277446438062:=()
def tw11977046104921283946:=()
def tw13923749680991068531:=()
def tw7513604739361952463:=()
def tw2180794214628807634:=()
def tw16522625802942357262:=()
def tw3744455673046116216:=()
def tw1655153297249280750:=()
def tw14379913825458929370:=()
def tw12951415863344814374:=()
def tw3485667513182617470:=()
def tw16899699779716290139:=()
def tw14188446591119393979:=()
def tw14317139292981434535:=()
def tw16731327904840057379:=()
def tw18286355080755597589:=()
def tw1513044206157036512:=()
def tw3208853195792989193:=()
def tw14317028859284304338:=()
def tw7909786843777854738:=()
def tw6056679921615856741:=()
def tw14473498164317482277:=()
def tw2175953825010142079:=()
def tw10146880053548419471:=()
def tw6127670182680283638:=()
def tw4956730241157093313:=()
def tw3370054729213377268:=()
def tw11837036580972643438:=()
def tw15390983581066776791:=()
def tw10836960406155820466:=()
def tw7377438606198360555:=()
def tw5819319112229958216:=()
def tw7604878566694340401:=()
def tw13750398459741361089:=()
def tw6692267186446694400:=()
def tw10877145042650352040:=()
def tw9647959826842763272:=()
def tw10179951684755908618:=()
def tw12642026015450196286:=()
end PySem.W.Fast
theorem Z0 (h:0=0:=by first | exact .inl rfl | exact .inr rfl | assumption):True:=trivial
theorem Z1 (h:0=0:=by decide):True:=trivial
theorem Z2 (h:0=0:=by rfl):True:=trivial
theorem Z3 (h:0=0:=by intro _; rfl):True:=trivial
theorem Z4 (h:0=0:=by with_unfolding_all rfl):True:=trivial
theorem Z5 (h:0=0:=by first | exact Or.inl rfl | exact Or.inr (Or.inl rfl) | exact Or.inr (Or.inr rfl)):True:=trivial
theorem Z6 (h:0=0:=by simp):True:=trivial
theorem Z7 (h:0=0:=by exact fun _ _=>rfl):True:=trivial
namespace L2
open PySem PySem.Spec PyProof.Rows
noncomputable abbrev Key:=Sum Int Str
noncomputable def keyIs:Key->Value->Bool
 | .inl k,v=>Value.isInt k v
 | .inr x,v=>Value.isStrOf x v
noncomputable def keyH (w:World):Key->Int
 | .inl k=>hashInt k
 | .inr x=>hashStr w x
theorem aX:∀ {k:Key} {v:Value},keyIs k v=true->(∃ i t,k=ae1 i/\v=Value.int i t)\/(∃ x t,k=aaG x/\v=ab9 x t)
 | .inl i,v,h=>by
  obtain ⟨t,e⟩:=Value.isInt_shape (k:=i) (v:=v) h
  exact .inl ⟨i,t,rfl,e⟩
 | .inr x,v,h=>by
  obtain ⟨t,e⟩:=ad6 (x:=x) (v:=v) h
  exact .inr ⟨x,t,rfl,e⟩
theorem qU (i:Int) (t:Tok):keyIs (.inl i) (.int i t)=true:=by simp [keyIs,Value.isInt]
theorem qT (x:Str) (t:Tok):keyIs (.inr x) (.str x t)=true:=by simp [keyIs,Value.isStrOf]
theorem wJ (a b:Int):decide ((ae1 a:Key)=ae1 b)=(a==b):=by
 by_cases e:a=b
 ·subst e; simp
 ·have h:¬ (ae1 a:Key)=ae1 b:=fun q=>e (Sum.inl.inj q)
  rw [decide_eq_false h]
  exact (beq_eq_false_iff_ne.mpr e).symm
theorem wG (a b:Str):decide ((aaG a:Key)=aaG b)=decide (a=b):=by
 by_cases e:a=b
 ·subst e; simp
 ·have h:¬ (aaG a:Key)=aaG b:=fun q=>e (Sum.inr.inj q)
  rw [decide_eq_false h,decide_eq_false e]
theorem wI (a:Int) (b:Str):decide ((ae1 a:Key)=aaG b)=false:=decide_eq_false (fun q=>nomatch q)
theorem wH (a:Str) (b:Int):decide ((aaG a:Key)=ae1 b)=false:=decide_eq_false (fun q=>nomatch q)
noncomputable def aR (prog:aaq) (w:World):PySem.KeyKind prog w Key where
 is:=keyIs
 hash:=keyH w
 inj:=fun v a b ha hb=>by
  rcases aX ha with ⟨i,t,rfl,rfl⟩ | ⟨x,t,rfl,rfl⟩
  ·rcases aX hb with ⟨j,u,rfl,e⟩ | ⟨y,u,rfl,e⟩
   ·injection e with e1 _; rw [e1]
   ·exact nomatch e
  ·rcases aX hb with ⟨j,u,rfl,e⟩ | ⟨y,u,rfl,e⟩
   ·exact nomatch e
   ·injection e with e1 _; rw [e1]
 byValue:=fun k v h=>by
  rcases aX h with ⟨i,t,rfl,rfl⟩ | ⟨x,t,rfl,rfl⟩ <;> rfl
 pyHash:=fun hv h=>by
  rcases aX hv with ⟨i,t,rfl,rfl⟩ | ⟨x,t,rfl,rfl⟩
  ·exact wpAny_pyHash_int h
  ·exact wpAny_pyHash_str h
 eqBool:=fun hu hv h=>by
  rcases aX hu with ⟨i,t,rfl,rfl⟩ | ⟨x,t,rfl,rfl⟩
  ·rcases aX hv with ⟨j,u,rfl,rfl⟩ | ⟨y,u,rfl,rfl⟩
   ·rw [wJ] at h; exact wpAny_eqBool_int h
   ·rw [wI] at h; exact SeqAt.EqAt.int_str i t y u _ _ _ _ h
  ·rcases aX hv with ⟨j,u,rfl,rfl⟩ | ⟨y,u,rfl,rfl⟩
   ·rw [wH] at h; exact SeqAt.EqAt.str_int x t j u _ _ _ _ h
   ·rw [wG] at h; exact aeM h
 «strs»:=fun k x t v h=>by
  rcases aX h with ⟨i,u,rfl,e⟩ | ⟨y,u,rfl,e⟩
  ·exact nomatch e
  ·injection e with e1 _
   subst e1
   cases v <;> rfl
theorem oi (prog:aaq) (w:World) (i:Int) (t:Tok):(aR prog w).is (.inl i) (.int i t)=true:=qU i t
theorem oh (prog:aaq) (w:World) (x:Str) (t:Tok):(aR prog w).is (.inr x) (.str x t)=true:=qT x t
end L2
namespace L2
open PySem PySem.Spec PyProof.Rows
inductive V where
 | non | bl (b:Bool) | int (i:Int) | str (x:Str) | byt (b:Array UInt8) | flt (b:UInt64) | ref (a:Addr) | ty (n:String)
 deriving DecidableEq
noncomputable def RelV:V->Value->Prop
 | .non,u=>u=aa0
 | .bl b,u=>u=Value.bool b
 | .int i,u=>∃ t,u=Value.int i t
 | .str x,u=>∃ t,u=ab9 x t
 | .byt b,u=>∃ t,u=Value.bytes b t
 | .flt b,u=>∃ t,u=Value.float b t
 | .ref a,u=>u=aaH a
 | .ty n,u=>u=acj n
noncomputable abbrev Vals:List V->List Value->Prop:=Paired RelV
theorem Vals.length {xs:List V} {us:List Value} (r:Vals xs us):xs.length=us.length:=Paired.length r
theorem Vals.get:∀ {xs:List V} {us:List Value} {i:Nat} {x:V},Vals xs us->xs[i]?=some x->∃ u,us[i]?=some u/\RelV x u
 | _,_,_,_,.nil,e=>by simp at e
 | _,_,0,_,.cons r _,e=>by simp at e; subst e; exact ⟨_,rfl,r⟩
 | _,_,i+1,x,.cons _ t,e=>by
  obtain ⟨u,h1,h2⟩:=Vals.get (i:=i) (x:=x) t (by simpa using e)
  exact ⟨u,by simpa using h1,h2⟩
theorem Vals.set {x:V} {u:Value} (r:RelV x u):∀ {xs:List V} {us:List Value} (i:Nat),Vals xs us->Vals (xs.set i x) (us.set i u)
 | _,_,_,.nil=>.nil
 | _,_,0,.cons _ t=>.cons r t
 | _,_,i+1,.cons q t=>.cons q (Vals.set r i t)
theorem Vals.append:∀ {xs ys:List V} {us ws:List Value},Vals xs us->Vals ys ws->Vals (xs++ys) (us++ws)
 | _,_,_,_,.nil,s=>s
 | _,_,_,_,.cons r t,s=>.cons r (Vals.append t s)
theorem Vals.take:∀ {xs:List V} {us:List Value} (n:Nat),Vals xs us->Vals (xs.take n) (us.take n)
 | _,_,0,_=>.nil
 | _,_,_+1,.nil=>.nil
 | _,_,n+1,.cons r t=>.cons r (Vals.take n t)
theorem Vals.drop:∀ {xs:List V} {us:List Value} (n:Nat),Vals xs us->Vals (xs.drop n) (us.drop n)
 | _,_,0,r=>r
 | _,_,_+1,.nil=>.nil
 | _,_,n+1,.cons _ t=>Vals.drop n t
noncomputable def RelO:Option V->Option Value->Prop
 | some v,some u=>RelV v u
 | none,none=>True
 | _,_=>False
noncomputable def KV {κ:Type}:List (κ×V)->List (κ×Value)->Prop:=Paired fun (p:κ×V) (q:κ×Value)=>p.1=q.1/\RelV p.2 q.2
noncomputable def kV:Key->V
 | .inl i=>.int i
 | .inr x=>.str x
inductive HO where
 | lst (xs:List V)
 | tup (xs:List V)
 | dK (kvs:List (Key×V)) | dT (kvs:List (List Key×V))
 | set (S:Int->Bool) (n:Nat)
 | ins (C dx:Addr) (fs:List (Str×V))
 | own (x:Addr)
 | xd (fs:List (Str×V))
 | met (f x:Addr)
 | rng (lo hi:Int)
 | frz (o:Obj) (u:HO)
 | tbl (ps:Array Value)
 | ext (φ:Heap->Prop)
noncomputable abbrev Hp:=Addr->Option HO
noncomputable def upd (H:Hp) (a:Addr) (o:HO):Hp:=fun b=>if b=a then some o else H b
theorem ao {H:Hp} {a:Addr} {o:HO}:upd H a o a=some o:=by unfold upd; rw [if_pos rfl]
theorem ak {H:Hp} {a b:Addr} {o:HO} (h:b≠a):upd H a o b=H b:=by unfold upd; rw [if_neg h]
theorem tY {H:Hp} {a:Addr} {o u:HO}:upd (upd H a o) a u=upd H a u:=by
 funext b; unfold upd; split <;> rfl
theorem xB {H:Hp} {a b:Addr} {o u:HO} (h:H a=some o) (h':H b=some u) (d:o≠u):a≠b:=by
 intro e; subst e; rw [h] at h'; exact d (aar h')
theorem ax {H:Hp} {a b:Addr} {o:HO} (h:H a=some o) (h':H b=none):a≠b:=by
 intro e; subst e; rw [h] at h'; cases h'
section
variable (P:aaq) (w:World)
noncomputable def ObjOk (H:Hp) (h:Heap) (a:Addr):HO->Prop
 | .lst xs=>xs.length<=sizeLine/\∃ (its:List Value) (n:Nat),Vals xs its/\h.get? a=some { cls:=.type "list",data:=.seq its.toArray n }
 | .tup xs=>xs.length<=sizeLine/\∃ its:List Value,Vals xs its/\IsTup h a its.toArray
 | .dK kvs=>kvs.length<=sizeLine/\(a==ach)=false/\∃ vs,KV kvs vs/\h.DictOf (aR P w) a vs
 | .dT kvs=>kvs.length<=sizeLine/\(a==ach)=false/\∃ xs:List (List Key×Addr×Value),
   Paired (fun (p:List Key×V) (q:List Key×Addr×Value)=>p.1=q.1/\H q.2.1=some (.tup (p.1.map kV))/\RelV p.2 q.2.2) kvs xs /\
   ∃ o es ep,h.get? a=some o/\o.ExactDict/\o.data=.dict es ep/\es.toList=xs.map (entryOfKey (tupleKind (aR P w)))/\(xs.map (·.1)).Nodup
 | .set S n=>h.SetOf (intKind P w) a S n
 | .ins C dx fs=>H dx=some (.own a)/\fs.length<=1000/\dx≠a/\h.get? a=some (ae3 C dx) /\
   ∃ mA,h.Ns1 dx mA/\(∀ f,RelO (fs.lookup f) (mA f))/\PySem.Within mA (fs.map (·.1))
 | .own _=>∃ o,h.get? a=some o
 | .xd fs=>∃ mA,h.Ns1 a mA/\∀ f,RelO (fs.lookup f) (mA f)
 | .rng lo hi=>∃ t u v,h.get? a=some { cls:=.type "range",data:=.fields #[.int lo t,.int hi u,.int 1 v] }
 | .frz o u=>h.get? a=some o/\ObjOk H h a u
 | .tbl ps=>h.get? a=some { cls:=.none,data:=.fields ps }
 | .met f x=>h.get? a=some (aex (.ref f) (.ref x))
 | .ext φ=>φ h/\(∃ o,h.get? a=some o)/\∀ h1 h2:Heap,φ h1->(∀ o,h1.get? a=some o->h2.get? a=some o)->φ h2
noncomputable def HOk (H:Hp) (h:Heap):Prop:=∀ a o,H a=some o->ObjOk P w H h a o
end
section
variable {P:aaq} {w:World} {H H':Hp} {h h':Heap} {a:Addr} {o:HO}
theorem ObjOk.lt (x:ObjOk P w H h a o):a<h.objs.size:=by
 cases o with
 | lst xs=>obtain ⟨_,_,_,_,e⟩:=x; exact aak e
 | tup xs=>obtain ⟨_,_,_,p⟩:=x; exact p.lt
 | dK kvs=>obtain ⟨_,_,_,_,o,_,_,e,_⟩:=x; exact aak e
 | dT kvs=>obtain ⟨_,_,_,_,o,_,_,e,_⟩:=x; exact aak e
 | set S n=>obtain ⟨o,_,_,_,e,_⟩:=x; exact aak e
 | ins C dx fs=>obtain ⟨_,_,_,e,_⟩:=x; exact aak e
 | own y=>obtain ⟨_,e⟩:=x; exact aak e
 | xd fs=>obtain ⟨_,⟨_,_,_,e,_⟩,_⟩:=x; exact aak e
 | rng lo hi=>obtain ⟨_,_,_,e⟩:=x; exact aak e
 | frz ob u=>obtain ⟨e,_⟩:=x; exact aak e
 | tbl ps=>exact aak (show h.get? a=some _ from x)
 | met f y=>exact aak (show h.get? a=some _ from x)
 | ext φ=>obtain ⟨_,⟨_,e⟩,_⟩:=x; exact aak e
theorem Paired.mapP {α β:Type} {F G:α->β->Prop}:∀ {l₁:List α} {l₂:List β},Paired F l₁ l₂->(∀ a b,F a b->G a b)->Paired G l₁ l₂
 | _,_,.nil,_=>.nil
 | _,_,.cons r t,f=>.cons (f _ _ r) (Paired.mapP t f)
theorem ObjOk.stay (x:ObjOk P w H h a o) (k:∀ b u,(b=a\/H b=some (.own a))->h.get? b=some u->h'.get? b=some u)
  (ho:∀ b,H b=some (.own a)->H' b=some (.own a)) (ht:∀ b xs,H b=some (.tup xs)->H' b=some (.tup xs)):ObjOk P w H' h' a o:=by
 induction o with
 | lst xs=>obtain ⟨z,its,n,r,e⟩:=x; exact ⟨z,its,n,r,k _ _ (.inl rfl) e⟩
 | tup xs=>obtain ⟨z,its,r,ob,e,c⟩:=x; exact ⟨z,its,r,ob,k _ _ (.inl rfl) e,c⟩
 | dK kvs=>obtain ⟨z,y,vs,r,ob,es,ep,e,c⟩:=x; exact ⟨z,y,vs,r,ob,es,ep,k _ _ (.inl rfl) e,c⟩
 | dT kvs =>
  obtain ⟨z,y,xs,r,ob,es,ep,e,c⟩:=x
  exact ⟨z,y,xs,Paired.mapP r fun p q z=>⟨z.1,ht _ _ z.2.1,z.2.2⟩,ob,es,ep,k _ _ (.inl rfl) e,c⟩
 | set S n=>obtain ⟨ob,es,ep,t,e,c⟩:=x; exact ⟨ob,es,ep,t,k _ _ (.inl rfl) e,c⟩
 | ins C dx fs =>
  obtain ⟨d,z,ne,e,mA,⟨od,es,ep,e2,c⟩,r⟩:=x
  exact ⟨ho _ d,z,ne,k _ _ (.inl rfl) e,mA,⟨od,es,ep,k _ _ (.inr d) e2,c⟩,r⟩
 | own y=>obtain ⟨ob,e⟩:=x; exact ⟨ob,k _ _ (.inl rfl) e⟩
 | xd fs=>obtain ⟨mA,⟨od,es,ep,e,c⟩,r⟩:=x; exact ⟨mA,⟨od,es,ep,k _ _ (.inl rfl) e,c⟩,r⟩
 | rng lo hi=>obtain ⟨t,u,v,e⟩:=x; exact ⟨t,u,v,k _ _ (.inl rfl) e⟩
 | frz ob u ih=>obtain ⟨e,q⟩:=x; exact ⟨k _ _ (.inl rfl) e,ih q⟩
 | tbl ps =>
  have e:h.get? a=some { cls:=.none,data:=.fields ps }:=x
  show h'.get? a=some { cls:=.none,data:=.fields ps }
  exact k a _ (.inl rfl) e
 | met f y =>
  have e:h.get? a=some (aex (.ref f) (.ref y)):=x
  show h'.get? a=some (aex (.ref f) (.ref y))
  exact k a _ (.inl rfl) e
 | ext φ=>obtain ⟨p,⟨o,e⟩,st⟩:=x; exact ⟨st _ _ p fun o q=>k _ _ (.inl rfl) q,⟨o,k _ _ (.inl rfl) e⟩,st⟩
theorem HOk.lt (x:HOk P w H h) (e:H a=some o):a<h.objs.size:=(x a o e).lt
theorem HOk.fresh (x:HOk P w H h) (e:h.objs.size<=a):H a=none:=by
 cases q:H a with
 | none=>rfl
 | some u=>exact absurd (aaB (x.lt q) e) (aa6 _)
theorem HOk.kept (x:HOk P w H h) (k:∀ b u,h.get? b=some u->h'.get? b=some u):HOk P w H h':=fun a o e =>
 (x a o e).stay (fun b u _ q=>k b u q) (fun _ q=>q) fun _ _ q=>q
theorem HOk.laid (x:HOk P w H h) (k:∀ b u,h.get? b=some u->h'.get? b=some u) (hp:h.objs.size<=a) (new:ObjOk P w (upd H a o) h' a o):HOk P w (upd H a o) h':=fun b u e=>by
 have hn:=x.fresh hp
 by_cases hb:b=a
 ·subst hb; rw [ao] at e; cases e; exact new
 ·rw [ak hb] at e
  exact (x b u e).stay (fun c v _ q=>k c v q) (fun c q=>by rw [ak (ax q hn)]; exact q) fun c xs q=>by rw [ak (ax q hn)]; exact q
end
noncomputable def Rd (H:Hp) (a:Addr) (u:HO):Prop:=H a=some u\/∃ o,H a=some (.frz o u)
theorem Rd.ok {P:aaq} {w:World} {H:Hp} {h:Heap} {a:Addr} {u:HO} (r:Rd H a u) (x:HOk P w H h):ObjOk P w H h a u:=by
 rcases r with r | ⟨o,r⟩
 ·exact x a u r
 ·obtain ⟨_,q⟩:=x a _ r
  exact q
noncomputable def Mut:Option HO->Prop
 | some (.lst _)=>True
 | some (.dK _)=>True
 | some (.dT _)=>True
 | some (.set _ _)=>True
 | some (.ins _ _ _)=>True
 | some (.ext _)=>True
 | _=>False
section
variable {P:aaq} {w:World} {H:Hp} {h h':Heap} {x e:Addr} {o':HO}
theorem HOk.write (ok:HOk P w H h) (mu:Mut (H x)) (he:e=x\/H e=some (.own x)) (k:∀ b u,b≠e->h.get? b=some u->h'.get? b=some u) (heo:∃ u,h'.get? e=some u)
  (new:ObjOk P w (upd H x o') h' x o'):HOk P w (upd H x o') h':=fun b u q=>by
 have nown:∀ c y,H c=some (.own y)->c≠x:=fun c y r z=>by subst z; rw [r] at mu; exact mu
 have ntup:∀ c xs,H c=some (.tup xs)->c≠x:=fun c xs r z=>by subst z; rw [r] at mu; exact mu
 by_cases hb:b=x
 ·subst hb; rw [ao] at q; cases q; exact new
 ·rw [ak hb] at q
  by_cases hbe:b=e
  ·have q':H b=some (.own x):=by
    rcases he with z | z
    ·exact absurd (hbe.trans z) hb
    ·rw [hbe]; exact z
   rw [q] at q'; cases q'
   obtain ⟨v,hv⟩:=heo
   exact ⟨v,by rw [hbe]; exact hv⟩
  ·refine (ok b u q).stay (fun c v hc r=>k c v ?_ r) (fun c r=>by rw [ak (nown c b r)]; exact r) fun c xs r=>by rw [ak (ntup c xs r)]; exact r
   rcases hc with rfl | hc
   ·exact hbe
   ·rintro rfl
    rcases he with z | z
    ·exact nown c b hc z
    ·rw [hc] at z; cases z; exact hb rfl
end
structure Un (fs ex:List Addr) (H H':Hp) (h h':Heap):Prop where
 keep:∀ b o,h.get? b=some o->H b=none->b∉fs->b∉ex->h'.get? b=some o
 slot:∀ b o,h.get? b=some o->H b=none->b∈fs->b∉ex->∃ sl,h'.get? b=some { o with slots:=sl }
 free:∀ b o,h.get? b=some o->H b=none->b∉ex->H' b=none
 there:∀ b o,h.get? b=some o->b∉ex->∃ o',h'.get? b=some o'
 tups:∀ b xs,H b=some (.tup xs)->H' b=some (.tup xs)
 frzs:∀ b o u,H b=some (.frz o u)->H' b=some (.frz o u)
 tbls:∀ b ps,H b=some (.tbl ps)->∃ more,H' b=some (.tbl (ps++more))
section
variable {fs fs' ex ex':List Addr} {H H1 H2:Hp} {h h1 h2 h':Heap} {a x e:Addr} {o:HO}
theorem Un.any (u:Un fs ex H H1 h h1) {b:Addr} {ob:Obj} (q:h.get? b=some ob) (n:H b=none) (hx:b∉ex):∃ sl,h1.get? b=some { ob with slots:=sl }:=by
 by_cases hb:b∈fs
 ·exact u.slot b ob q n hb hx
 ·exact ⟨ob.slots,u.keep b ob q n hb hx⟩
theorem Un.kept (k:∀ b u,h.get? b=some u->h'.get? b=some u):Un fs ex H H h h' :=
 ⟨fun b ob q _ _ _=>k b ob q,fun b ob q _ _ _=>⟨ob.slots,k b ob q⟩,fun _ _ _ n _=>n,fun b ob q _=>⟨ob,k b ob q⟩,fun _ _ q=>q,fun _ _ _ q=>q,fun _ ps q=>⟨#[],by rw [q]; simp⟩⟩
theorem Un.refl:Un fs ex H H h h:=Un.kept fun _ _ q=>q
theorem Un.laid (k:∀ b u,h.get? b=some u->h'.get? b=some u) (hp:h.objs.size<=a) (hn:H a=none):Un fs ex H (upd H a o) h h' where
 keep:=fun b u q _ _ _=>k b u q
 slot:=fun b u q _ _ _=>⟨u.slots,k b u q⟩
 free:=fun b u q n _=>by rw [ak (aas (aaB (aak q) hp))]; exact n
 there:=fun b u q _=>⟨u,k b u q⟩
 tups:=fun b xs q=>by rw [ak (ax q hn)]; exact q
 frzs:=fun b u xs q=>by rw [ak (ax q hn)]; exact q
 tbls:=fun b ps q=>⟨#[],by rw [ak (ax q hn),q]; simp⟩
theorem Un.write (mu:Mut (H x)) (he:e=x\/H e=some (.own x)) (k:∀ b u,b≠e->h.get? b=some u->h'.get? b=some u) (heo:∃ u,h'.get? e=some u):Un fs ex H (upd H x o) h h':=by
 have hx:∀ b,H b=none->b≠x:=fun b n z=>by subst z; rw [n] at mu; exact mu
 have hb:∀ b,H b=none->b≠e:=fun b n z=>by
  subst z
  rcases he with r | r
  ·exact hx b n r
  ·rw [n] at r; cases r
 have hm:∀ b u,H b=some u->¬ Mut (some u)->b≠x:=fun b u q nm z=>by subst z; rw [q] at mu; exact nm mu
 refine ⟨fun b u q n _ _=>k b u (hb b n) q,fun b u q n _ _=>⟨u.slots,k b u (hb b n) q⟩,fun b u q n _=>by rw [ak (hx b n)]; exact n,fun b u q _=>?_,
  fun b xs q=>by rw [ak (hm b _ q fun z=>z)]; exact q,fun b u xs q=>by rw [ak (hm b _ q fun z=>z)]; exact q,fun b ps q=>⟨#[],by rw [ak (hm b _ q fun z=>z),q]; simp⟩⟩
 by_cases hbe:b=e
 ·subst hbe; exact heo
 ·exact ⟨u,k b u hbe q⟩
end
noncomputable def trk (h:Heap) (H:Hp):List Addr:=(aaM h.objs.size).filter fun a=>(H a).isSome
noncomputable def hidT (h:Heap) (H:Hp):Heap:=PySem.W.hideAll h (trk h H)
theorem qZ (h:Heap) (H:Hp):(hidT h H).objs.size=h.objs.size:=PySem.W.hideAll_size _ _
theorem sT {h:Heap} {H:Hp} {b:Addr} {o:Obj} (e:h.get? b=some o) (n:H b=none):(hidT h H).get? b=some o :=
 PySem.W.hideAll_get _ e fun hm=>by
  have q:(H b).isSome=true:=(List.mem_filter.mp hm).2
  rw [n] at q; simp at q
theorem uG {h:Heap} {H:Hp} {b:Addr} {o:Obj} (e:(hidT h H).get? b=some o):h.get? b=some o/\H b=none:=by
 have e':h.get? b=some o:=PySem.W.of_hideAll (trk h H) e
 refine ⟨e',?_⟩
 cases q:H b with
 | none=>rfl
 | some x =>
  have hm:b∈trk h H:=List.mem_filter.mpr ⟨List.mem_range.mpr (aak e'),by simp [q]⟩
  have z:(hidT h H).get? b=none:=PySem.W.hideAll_none (trk h H) hm
  rw [z] at e; cases e
noncomputable def ik (g h:Heap) (L:Addr):List (Addr×Obj):=(aaM h.objs.size).filterMap fun a=>if a=L\/(g.get? a).isSome=true then none else (h.get? a).map fun o=>(a,o)
theorem fq {g h:Heap} {L a:Addr} {o:Obj} (h1:a≠L) (h2:g.get? a=none) (h3:h.get? a=some o):(a,o)∈ik g h L :=
 List.mem_filterMap.mpr ⟨a,List.mem_range.mpr (aak h3),by simp [h1,h2,h3]⟩
theorem kC {g h:Heap} {L:Addr} {p:Addr×Obj} (hp:p∈ik g h L):p.1≠L/\g.get? p.1=none/\h.get? p.1=some p.2:=by
 obtain ⟨b,_,e⟩:=List.mem_filterMap.mp hp
 split at e
 ·cases e
 ·rename_i hn
  cases q:h.get? b with
  | none=>rw [q] at e; simp at e
  | some u =>
   rw [q] at e
   simp only [adK,aey] at e
   subst e
   refine ⟨fun z=>hn (.inl z),?_,q⟩
   show g.get? b=none
   cases r:g.get? b with
   | none=>rfl
   | some v=>exact (hn (.inr (by simp [r]))).elim
theorem ji {g h:Heap} {L:Addr}:News g L h (ik g h L):=fun p hp=>let ⟨a,b,c⟩:=kC hp; ⟨c,a,b⟩
end L2
namespace L2
open PySem PySem.Spec PyProof.Rows
structure Mod (K:aad) (mg:Str->Option Value) (base:Heap):Prop where
 kin:K.In base
 glob:base.Ns aaD mg
 blt:∃ mb,base.Ns aev mb/\∀ x:Str,x ≠ "__name__" -> mb x=abZ x
 nolimit:base.NoLimit
structure Cx where
 prog:aaq
 w:World
 K:aad
 mg:Str->Option Value
 base:Heap
 A:Around
 N:List Str
 s₀:Shared
 H₀:Hp
 env:Env
 outer:List Env
 stack:List Env
 ex:List Addr
 fn:Str->Bool
 calm:Bool
 pn:List (Addr×Obj)
 xe:Value->Shared->Prop
noncomputable def frs (l:List Env):List Addr:=l.filterMap (·.frame)
noncomputable abbrev Cx.fs (X:Cx):List Addr:=frs X.outer
noncomputable def Vis (sc:Scope) (x:Str):Prop:=sc.names.lookup x=some .local\/sc.names.lookup x=some .cell\/sc.names.lookup x=some .free
noncomputable def Loc (sc:Scope) (x:Str):Prop:=sc.names.lookup x=some .local\/sc.names.lookup x=some .cell
noncomputable def Look (env:Env) (h:Heap) (m:Str->Option Value) (x:Str) (u:Value):Prop :=
 (env.kindOf x=some .local/\m x=some u)\/((env.kindOf x=some .cell\/env.kindOf x=some .free)/\∃ c,env.cells.lookup x=some c/\h.IsCell c (some u))
structure Cx.Ok (X:Cx):Prop where
 mod:Mod X.K X.mg X.base
 kind:X.env.scope.kind=.function
 glob:X.env.globals=aaD
 blt:X.env.builtins=aev
 above:X.s₀.heap.objs.size<=X.env.locals
 inj:∀ x y c,X.env.cells.lookup x=some c->X.env.cells.lookup y=some c->x=y
 has:∀ x,(X.env.kindOf x=some .cell\/X.env.kindOf x=some .free)->∃ c,X.env.cells.lookup x=some c
 cab:∀ x c,X.fn x=true->X.env.cells.lookup x=some c->X.s₀.heap.objs.size<=c
 hd:X.calm=true->X.A.handled=none
 frames:X.A.frames=some X.stack
 stk:X.stack=X.outer\/(X.stack=X.env::X.outer/\X.env.frame=some X.env.locals)
 exf:∀ b∈X.ex,b≠X.env.locals/\∀ x c,X.env.cells.lookup x=some c->c≠b
 bs:∀ b o,X.base.get? b=some o->X.s₀.heap.get? b=some o/\X.H₀ b=none
 bsz:X.base.objs.size<=X.s₀.heap.objs.size
 noex:∀ b o,X.base.get? b=some o->b∉X.ex
 exfs:∀ b∈X.ex,b∉X.fs
 funs:X.s₀.heap.FunFrames X.base X.outer
 frf:∀ b∈X.fs,X.H₀ b=none
structure Inv (X:Cx) (pins:List (Addr×Obj)) (σ:List (Option V)) (H:Hp) (s:Shared):Prop where
 ok:X.Ok
 os:s.os=X.s₀.os
 bare:ad9 s.gens
 base:Un X.fs X.ex X.H₀ H X.s₀.heap s.heap
 loc:∃ m,s.heap.Ns X.env.locals m/\∀ (i:Nat) (x:Str) (v:V),X.N[i]?=some x->σ[i]?=some (some v)->Vis X.env.scope x->∃ u,RelV v u/\Look X.env s.heap m x u
 cell:∀ x c,X.env.cells.lookup x=some c->∃ v,s.heap.IsCell c v
 free:H X.env.locals=none
 freeC:∀ x c,X.env.cells.lookup x=some c->H c=none
 pin:∀ p∈X.pn++pins,s.heap.get? p.1=some p.2/\H p.1=none/\p.1≠X.env.locals/\p.1∉X.fs/\∀ v,p.2.data≠.cell v
 hok:HOk X.prog X.w H s.heap
 len:σ.length=X.N.length
section
variable {X:Cx} {pins:List (Addr×Obj)} {σ:List (Option V)} {H H':Hp} {s:Shared} {h':Heap}
theorem Cx.Ok.nofr (ok:X.Ok) {b:Addr} {o:Obj} (e:X.base.get? b=some o):b∉X.fs:=fun hb=>by
 have:=(ok.funs.mem hb).1
 rw [e] at this; cases this
theorem Inv.bs (I:Inv X pins σ H s):∀ b o,X.base.get? b=some o->s.heap.get? b=some o/\H b=none:=fun b o e =>
 ⟨I.base.keep b o (I.ok.bs b o e).1 (I.ok.bs b o e).2 (I.ok.nofr e) (I.ok.noex b o e),I.base.free b o (I.ok.bs b o e).1 (I.ok.bs b o e).2 (I.ok.noex b o e)⟩
theorem Inv.bk (I:Inv X pins σ H s):∀ b o,X.base.get? b=some o->s.heap.get? b=some o:=fun b o e=>(I.bs b o e).1
theorem Inv.mod (I:Inv X pins σ H s):Mod X.K X.mg X.base:=I.ok.mod
theorem Inv.kIn (I:Inv X pins σ H s):X.K.In s.heap:=I.ok.mod.kin.keeps I.bk
theorem Inv.fr (I:Inv X pins σ H s):∃ m,Fr X.base X.env.locals s.heap m :=
 let ⟨m,hn,_⟩:=I.loc
 ⟨m,hn,I.bk,aa1 I.ok.bsz I.ok.above⟩
theorem Inv.lt (I:Inv X pins σ H s):X.env.locals<s.heap.objs.size:=let ⟨_,hn,_⟩:=I.loc; hn.lt
theorem Inv.sz (I:Inv X pins σ H s):X.s₀.heap.objs.size<=s.heap.objs.size:=aa1 I.ok.above (aeG I.lt)
theorem Inv.nofs (I:Inv X pins σ H s) {a:Addr} (h:s.heap.objs.size<=a):a∉X.fs:=fun hb=>by
 obtain ⟨_,o,ho,_⟩:=I.ok.funs.mem hb
 exact absurd (aaB (aak ho) (aa1 I.sz h)) (aa6 _)
theorem Inv.cne (I:Inv X pins σ H s):∀ x c,X.env.cells.lookup x=some c->c≠X.env.locals:=fun x c e z=>by
 obtain ⟨v,o,ho,hd⟩:=I.cell x c e
 obtain ⟨m,⟨o',es,ep,ho',hd',_⟩,_⟩:=I.loc
 rw [z,ho'] at ho; cases ho; rw [hd'] at hd; cases hd
theorem Inv.funs (I:Inv X pins σ H s):s.heap.FunFrames X.base X.outer:=by
 have all:∀ (l:List Env),(∀ b∈frs l,b∈X.fs)->X.s₀.heap.FunFrames X.base l->s.heap.FunFrames X.base l:=by
  intro l
  induction l with
  | nil=>intro _ _; trivial
  | cons env r ih =>
   intro hs hl
   obtain ⟨hk,⟨L,o,hf,hn,ho,hd⟩,hr⟩:=hl
   have hL:L∈X.fs:=hs L (by unfold frs; rw [aaY,hf]; exact aat)
   obtain ⟨sl,e⟩:=I.base.slot L o ho (I.ok.frf L hL) hL fun z=>I.ok.exfs L z hL
   exact ⟨hk,⟨L,_,hf,hn,e,hd⟩,ih (fun b hb=>hs b (by unfold frs; rw [aaY,hf]; exact aav _ hb)) hr⟩
 exact all X.outer (fun _ hb=>hb) I.ok.funs
theorem Inv.stack (I:Inv X pins σ H s):s.heap.FunFrames X.base X.stack:=by
 rcases I.ok.stk with e | ⟨e,hf⟩
 ·rw [e]; exact I.funs
 ·rw [e]
  obtain ⟨m,hn,_⟩:=I.loc
  refine .cons (by rw [I.ok.kind]; decide) hf hn ?_ I.funs
  exact Heap.get?_none_of_le (aa1 I.ok.bsz I.ok.above)
theorem Inv.stkSub (I:Inv X pins σ H s):∀ b∈frs X.stack,b∈X.env.locals::X.fs:=fun b hb=>by
 rcases I.ok.stk with e | ⟨e,hf⟩
 ·rw [e] at hb; exact aav _ hb
 ·rw [e] at hb
  unfold frs at hb
  rw [aaY,hf] at hb
  exact hb
theorem Inv.stkFree (I:Inv X pins σ H s):∀ b∈frs X.stack,H b=none:=fun b hb=>by
 rcases List.mem_cons.mp (I.stkSub b hb) with e | hb
 ·rw [e]; exact I.free
 ·obtain ⟨_,o,ho,_⟩:=I.ok.funs.mem hb
  exact I.base.free b o ho (I.ok.frf b hb) fun z=>I.ok.exfs b z hb
theorem Inv.step {g':Array GenState} {t':Nat} {d':Drawn} {ch:List Addr} (I:Inv X pins σ H s)
  (hch:∀ b∈ch,(b∈X.ex\/X.s₀.heap.objs.size<=b)/\b≠X.env.locals/\(∀ x c,X.env.cells.lookup x=some c->c≠b)/\∀ p∈X.pn++pins,p.1≠b)
  (keep:∀ b o,b≠X.env.locals->b∉X.fs->b∉ch->s.heap.get? b=some o->H b=none->h'.get? b=some o)
  (slot:∀ b o,b≠X.env.locals->b∈X.fs->b∉ch->s.heap.get? b=some o->H b=none->∃ sl,h'.get? b=some { o with slots:=sl }) (free:∀ b o,b∉ch->s.heap.get? b=some o->H b=none->H' b=none)
  (there:∀ b o,b∉ch->s.heap.get? b=some o->∃ o',h'.get? b=some o')
  (tups:∀ b xs,H b=some (.tup xs)->H' b=some (.tup xs)) (frzs:∀ b o u,H b=some (.frz o u)->H' b=some (.frz o u)) (tbls:∀ b ps,H b=some (.tbl ps)->∃ more,H' b=some (.tbl (ps++more)))
  (ns:∀ m,s.heap.Ns X.env.locals m->h'.Ns X.env.locals m) (hok:HOk X.prog X.w H' h') (hg:ad9 g') :
  Inv X pins σ H' { s with heap:=h',gens:=g',drawn:=d',toks:=t' }:=by
 have neL:∀ b o,X.s₀.heap.get? b=some o->b≠X.env.locals:=fun b o e=>aas (aaB (aak e) I.ok.above)
 have neC:∀ b o,X.s₀.heap.get? b=some o->b∉X.ex->b∉ch:=fun b o e hx hb=>by
  rcases (hch b hb).1 with z | z
  ·exact hx z
  ·exact absurd (aaB (aak e) z) (aa6 _)
 have cellK:∀ x c,X.env.cells.lookup x=some c->∀ v,s.heap.IsCell c v->h'.IsCell c v:=fun x c e v ⟨o,ho,hd⟩=>by
  have nch:c∉ch:=fun z=>(hch c z).2.2.1 x c e rfl
  by_cases hc:c∈X.fs
  ·obtain ⟨sl,q⟩:=slot c o (I.cne x c e) hc nch ho (I.freeC x c e)
   exact ⟨_,q,hd⟩
  ·exact ⟨o,keep c o (I.cne x c e) hc nch ho (I.freeC x c e),hd⟩
 refine ⟨I.ok,I.os,hg,⟨fun b o e n hb hx=>?_,fun b o e n hb hx=>?_,fun b o e n hx=>?_,fun b o e hx=>?_,fun b xs e=>tups b xs (I.base.tups b xs e),fun b o xs e=>frzs b o xs (I.base.frzs b o xs e),fun b ps e=>?_⟩,?_,fun x c e=>?_,?_,fun x c e=>?_,fun p hp=>?_,hok,I.len⟩
 ·exact keep b o (neL b o e) hb (neC b o e hx) (I.base.keep b o e n hb hx) (I.base.free b o e n hx)
 ·obtain ⟨sl,e1⟩:=I.base.slot b o e n hb hx
  obtain ⟨sl',e2⟩:=slot b _ (neL b o e) hb (neC b o e hx) e1 (I.base.free b o e n hx)
  exact ⟨sl',e2⟩
 ·obtain ⟨o',e1⟩:=I.base.there b o e hx
  exact free b o' (neC b o e hx) e1 (I.base.free b o e n hx)
 ·obtain ⟨o',e1⟩:=I.base.there b o e hx
  exact there b o' (neC b o e hx) e1
 ·obtain ⟨m1,e1⟩:=I.base.tbls b ps e
  obtain ⟨m2,e2⟩:=tbls b _ e1
  exact ⟨m1++m2,by rw [e2,Array.append_assoc]⟩
 ·obtain ⟨m,hn,hl⟩:=I.loc
  refine ⟨m,ns m hn,fun i x v e1 e2 e3=>?_⟩
  obtain ⟨u,r,l⟩:=hl i x v e1 e2 e3
  refine ⟨u,r,?_⟩
  rcases l with l | ⟨k,c,e,z⟩
  ·exact .inl l
  ·exact .inr ⟨k,c,e,cellK x c e _ z⟩
 ·obtain ⟨v,z⟩:=I.cell x c e
  exact ⟨v,cellK x c e v z⟩
 ·obtain ⟨m,⟨o,_,_,ho,_⟩,_⟩:=I.loc
  exact free _ o (fun z=>(hch _ z).2.1 rfl) ho I.free
 ·obtain ⟨v,o,ho,hd⟩:=I.cell x c e
  exact free c o (fun z=>(hch c z).2.2.1 x c e rfl) ho (I.freeC x c e)
 ·obtain ⟨e,n,ne,nf,d⟩:=I.pin p hp
  have nch:p.1∉ch:=fun z=>(hch p.1 z).2.2.2 p hp rfl
  exact ⟨keep p.1 p.2 ne nf nch e n,free p.1 p.2 nch e n,ne,nf,d⟩
theorem Inv.un {t':Nat} (I:Inv X pins σ H s) (u:Un X.fs [] H H' s.heap h') (hok:HOk X.prog X.w H' h'):Inv X pins σ H' { s with heap:=h',toks:=t' }:=by
 obtain ⟨m,⟨o,es,ep,ho,r⟩,_⟩:=id I.loc
 obtain ⟨sl,hL⟩:=u.any ho I.free (by simp)
 exact I.step (g':=s.gens) (d':=s.drawn) (ch:=[]) (fun _ z=>nomatch z) (fun b o _ hb _ e n=>u.keep b o e n hb (by simp)) (fun b o _ hb _ e n=>u.slot b o e n hb (by simp)) (fun b o _ e n=>u.free b o e n (by simp)) (fun b o _ e=>u.there b o e (by simp)) u.tups u.frzs u.tbls (fun m' hm=>by
  obtain ⟨o',es',ep',ho',r'⟩:=hm
  rw [ho] at ho'; cases ho'
  exact ⟨_,es',ep',hL,r'⟩) hok I.bare
theorem Inv.call {g':Array GenState} {t':Nat} {d':Drawn} {ch:List Addr} (I:Inv X pins σ H s) (u:Un (frs X.stack) ch H H' s.heap h') (hok:HOk X.prog X.w H' h') (hg:ad9 g')
  (hch:∀ b∈ch,(b∈X.ex\/X.s₀.heap.objs.size<=b)/\b≠X.env.locals/\(∀ x c,X.env.cells.lookup x=some c->c≠b)/\∀ p∈X.pn++pins,p.1≠b) :
  Inv X pins σ H' { s with heap:=h',gens:=g',drawn:=d',toks:=t' }:=by
 obtain ⟨m,⟨o,es,ep,ho,r⟩,_⟩:=id I.loc
 obtain ⟨sl,hL⟩:=u.any ho I.free fun z=>(hch _ z).2.1 rfl
 exact I.step (ch:=ch) hch (fun b o hL hb hc e n=>u.keep b o e n (fun z=>(List.mem_cons.mp (I.stkSub b z)).elim hL hb) hc) (fun b o _ _ hc e n=>u.any e n hc) (fun b o hc e n=>u.free b o e n hc) (fun b o hc e=>u.there b o e hc) u.tups u.frzs u.tbls (fun m' hm=>by
  obtain ⟨o',es',ep',ho',r'⟩:=hm
  rw [ho] at ho'; cases ho'
  exact ⟨_,es',ep',hL,r'⟩) hok hg
theorem Inv.turned {t':Nat} {it:Addr} (I:Inv X pins σ H s) (k:∀ b o,b≠it->s.heap.get? b=some o->h'.get? b=some o) (hn:H it=none) (hL:it≠X.env.locals)
  (h1:it∈X.ex\/X.s₀.heap.objs.size<=it) (h2:∀ x c,X.env.cells.lookup x=some c->c≠it) (h3:∀ p∈X.pn++pins,p.1≠it):Inv X pins σ H { s with heap:=h',toks:=t' }:=by
 have nit:∀ b u,H b=some u->b≠it:=fun b u e z=>by rw [z,hn] at e; cases e
 refine I.step (g':=s.gens) (d':=s.drawn) (ch:=[it]) (fun b hb=>?_) (fun b o _ _ hc e _=>k b o (fun z=>hc (by simp [z])) e) (fun b o _ _ hc e _=>⟨o.slots,k b o (fun z=>hc (by simp [z])) e⟩) (fun _ _ _ _ n=>n)
  (fun b o hc e=>⟨o,k b o (fun z=>hc (by simp [z])) e⟩) (fun _ _ e=>e) (fun _ _ _ e=>e) (fun b ps e=>⟨#[],by rw [e]; simp⟩) (fun m hm=>?_) (fun b u e=>?_) I.bare
 ·have e:b=it:=by simpa using hb
  subst e
  exact ⟨h1,hL,h2,h3⟩
 ·obtain ⟨o,es,ep,ho,r⟩:=hm
  exact ⟨o,es,ep,k _ o (abr hL) ho,r⟩
 ·refine (I.hok b u e).stay (fun c v hc q=>k c v ?_ q) (fun _ q=>q) fun _ _ q=>q
  rcases hc with z | z
  ·rw [z]; exact nit b u e
  ·exact nit c _ z
theorem Inv.tok (I:Inv X pins σ H s) (t:Nat):Inv X pins σ H { s with toks:=t }:=I.un (h':=s.heap) (t':=t) Un.refl I.hok
theorem Inv.kept {t':Nat} (I:Inv X pins σ H s) (k:∀ b u,s.heap.get? b=some u->h'.get? b=some u):Inv X pins σ H { s with heap:=h',toks:=t' }:=I.un (Un.kept k) (I.hok.kept k)
theorem Inv.laid {a:Addr} {o:HO} {t':Nat} (I:Inv X pins σ H s) (k:∀ b u,s.heap.get? b=some u->h'.get? b=some u) (hp:s.heap.objs.size<=a) (new:ObjOk X.prog X.w (upd H a o) h' a o) :
  Inv X pins σ (upd H a o) { s with heap:=h',toks:=t' }:=I.un (Un.laid k hp (I.hok.fresh hp)) (I.hok.laid k hp new)
theorem Inv.write {x e:Addr} {o:HO} {t':Nat} (I:Inv X pins σ H s) (mu:Mut (H x)) (he:e=x\/H e=some (.own x)) (k:∀ b u,b≠e->s.heap.get? b=some u->h'.get? b=some u) (heo:∃ u,h'.get? e=some u)
  (new:ObjOk X.prog X.w (upd H x o) h' x o):Inv X pins σ (upd H x o) { s with heap:=h',toks:=t' }:=I.un (Un.write mu he k heo) (I.hok.write mu he k heo new)
theorem Inv.weak {σ':List (Option V)} (I:Inv X pins σ H s) (hl:σ'.length=σ.length) (w:∀ (i:Nat) v,σ'[i]?=some (some v)->σ[i]?=some (some v)):Inv X pins σ' H s :=
 ⟨I.ok,I.os,I.bare,I.base,let ⟨m,hn,hl'⟩:=I.loc; ⟨m,hn,fun i x v e1 e2 e3=>hl' i x v e1 (w i v e2) e3⟩,I.cell,I.free,I.freeC,I.pin,I.hok,hl.trans I.len⟩
theorem Inv.pins_of {pins':List (Addr×Obj)} (I:Inv X pins σ H s) (h:∀ p∈pins',s.heap.get? p.1=some p.2/\H p.1=none/\p.1≠X.env.locals/\p.1∉X.fs/\∀ v,p.2.data≠.cell v):Inv X pins' σ H s :=
 ⟨I.ok,I.os,I.bare,I.base,I.loc,I.cell,I.free,I.freeC,fun p hp=>(List.mem_append.mp hp).elim (fun z=>I.pin p (adW _ z)) (h p),I.hok,I.len⟩
theorem mW {N:List Str} (hN:N.Nodup) {i j:Nat} {x:Str} (a:N[i]?=some x) (b:N[j]?=some x):i=j:=by
 obtain ⟨h1,e1⟩:=List.getElem?_eq_some_iff.mp a
 obtain ⟨h2,e2⟩:=List.getElem?_eq_some_iff.mp b
 exact (act hN).mp (e1.trans e2.symm)
theorem gv {M:Model} {A:Around} {E:Value->Shared->Prop} {i:Nat} {x:Str} {v:V} {u:Value} {Q:Unit->Shared->Prop} (I:Inv X pins σ H s) (hN:X.N.Nodup) (hi:X.N[i]?=some x) (hx:Loc X.env.scope x) (r:RelV v u)
  (h:∀ s',Inv X pins (σ.set i (some v)) H s'->(∃ a,ace a s.heap s'.heap/\(a=X.env.locals\/X.env.cells.lookup x=some a))->Q () s') (hf:autoParam (X.fn x=true\/X.env.scope.names.lookup x=some .local) Z0._auto_1):wpAny M A (storeName X.env x u) Q E s:=by
 obtain ⟨m,hn,hl⟩:=id I.loc
 have hcls:(X.env.scope.kind==.class || (X.env.scope.kind==.module && X.env.locals != X.env.globals))=false:=by rw [I.ok.kind]; rfl
 have hiσ:i<σ.length:=by rw [I.len]; exact (List.getElem?_eq_some_iff.mp hi).1
 have cne:=I.cne
 have tracked:∀ {a:Addr} {h':Heap},(∃ o,s.heap.get? a=some o/\H a=none)->ace a s.heap h'->HOk X.prog X.w H h':=fun {a h'} ha hs b ob e=>by
  obtain ⟨_,_,hfree⟩:=ha
  refine (I.hok b ob e).stay (fun c w' hc q=>(hs.2 c ?_).trans q) (fun _ q=>q) fun _ _ q=>q
  rintro rfl
  rcases hc with rfl | hc
  ·rw [hfree] at e; cases e
  ·rw [hfree] at hc; cases hc
 rcases hx with hk | hk
 ·refine wpAny_storeName_local hk hn (fun h' hn' hs=>?_) hcls
  obtain ⟨oL,_,_,hoL,_⟩:=id hn
  refine h _ ⟨I.ok,I.os,I.bare,⟨fun b o e n hb hx=>?_,fun b o e n hb hx=>?_,I.base.free,fun b o e hx=>?_,I.base.tups,I.base.frzs,I.base.tbls⟩,⟨_,hn',fun j y v' e1 e2 e3=>?_⟩,fun y c e=>?_,I.free,I.freeC,fun p hp=>?_,tracked ⟨oL,hoL,I.free⟩ hs,by simpa using I.len⟩ ⟨_,hs,.inl rfl⟩
  ·exact (hs.2 b (aas (aaB (aak e) I.ok.above))).trans (I.base.keep b o e n hb hx)
  ·obtain ⟨sl,e1⟩:=I.base.slot b o e n hb hx
   exact ⟨sl,(hs.2 b (aas (aaB (aak e) I.ok.above))).trans e1⟩
  ·obtain ⟨o',e1⟩:=I.base.there b o e hx
   exact ⟨o',(hs.2 b (aas (aaB (aak e) I.ok.above))).trans e1⟩
  ·by_cases hj:j=i
   ·subst hj
    rw [hi] at e1; cases e1
    rw [aa2 hiσ] at e2
    cases e2
    exact ⟨u,r,.inl ⟨hk,by simp⟩⟩
   ·rw [aap (abr hj)] at e2
    obtain ⟨u',r',q⟩:=hl j y v' e1 e2 e3
    refine ⟨u',r',?_⟩
    rcases q with ⟨k,e⟩ | ⟨k,c,e,z⟩
    ·refine .inl ⟨k,?_⟩
     have:y≠x:=fun e=>hj (mW hN e1 (e ▸ hi))
     simp [this,e]
    ·exact .inr ⟨k,c,e,z.sameBut hs (cne y c e)⟩
  ·obtain ⟨w',z⟩:=I.cell y c e
   exact ⟨w',z.sameBut hs (cne y c e)⟩
  ·obtain ⟨e,n,ne,nf,d⟩:=I.pin p hp
   exact ⟨(hs.2 p.1 ne).trans e,n,ne,nf,d⟩
 ·have hfn:X.fn x=true:=by
   rcases hf with z | z
   ·exact z
   ·rw [z] at hk; cases hk
  obtain ⟨c,hc⟩:=I.ok.has x (.inl hk)
  obtain ⟨w',z⟩:=I.cell x c hc
  refine wpAny_storeName_cell I.ok.kind hk hc z (fun h' hc' hs=>?_)
  obtain ⟨oc,hoc,hocd⟩:=id z
  refine h { s with heap:=h' } ⟨I.ok,I.os,I.bare,⟨fun b o e n hb hx=>?_,fun b o e n hb hx=>?_,I.base.free,fun b o e hx=>?_,I.base.tups,I.base.frzs,I.base.tbls⟩,⟨m,hn.sameBut hs (abr (cne x c hc)),fun j y v' e1 e2 e3=>?_⟩,fun y c' e=>?_,I.free,I.freeC,fun p hp=>?_,tracked ⟨oc,hoc,I.freeC x c hc⟩ hs,by simpa using I.len⟩ ⟨c,hs,.inr hc⟩
  ·exact (hs.2 b (aas (aaB (aak e) (I.ok.cab x c hfn hc)))).trans (I.base.keep b o e n hb hx)
  ·obtain ⟨sl,e1⟩:=I.base.slot b o e n hb hx
   exact ⟨sl,(hs.2 b (aas (aaB (aak e) (I.ok.cab x c hfn hc)))).trans e1⟩
  ·obtain ⟨o',e1⟩:=I.base.there b o e hx
   exact ⟨o',(hs.2 b (aas (aaB (aak e) (I.ok.cab x c hfn hc)))).trans e1⟩
  ·by_cases hj:j=i
   ·subst hj
    rw [hi] at e1; cases e1
    rw [aa2 hiσ] at e2
    cases e2
    exact ⟨u,r,.inr ⟨.inl hk,c,hc,hc'⟩⟩
   ·rw [aap (abr hj)] at e2
    obtain ⟨u',r',q⟩:=hl j y v' e1 e2 e3
    refine ⟨u',r',?_⟩
    rcases q with q | ⟨k,c',e,z'⟩
    ·exact .inl q
    ·refine .inr ⟨k,c',e,z'.sameBut hs ?_⟩
     rintro rfl
     exact hj (mW hN e1 (I.ok.inj _ _ _ e hc ▸ hi))
  ·by_cases hcc:c'=c
   ·subst hcc; exact ⟨_,hc'⟩
   ·obtain ⟨w2,z2⟩:=I.cell y c' e
    exact ⟨w2,z2.sameBut hs hcc⟩
  ·obtain ⟨e,n,ne,nf,d⟩:=I.pin p hp
   refine ⟨(hs.2 p.1 ?_).trans e,n,ne,nf,d⟩
   intro q
   rw [q,hoc] at e
   have q':oc=p.2:=aar e
   exact d w' (by rw [<- q']; exact hocd)
theorem fY {M:Model} {A:Around} {E:Value->Shared->Prop} {i:Nat} {x:Str} {v:V} {u:Value} {Q:Unit->Shared->Prop} (I:Inv X pins σ H s) (hN:X.N.Nodup) (hi:X.N[i]?=some x) (hx:Loc X.env.scope x) (r:RelV v u)
  (h:∀ s',Inv X pins (σ.set i (some v)) H s'->Q () s') (hf:autoParam (X.fn x=true\/X.env.scope.names.lookup x=some .local) Z0._auto_1):wpAny M A (storeName X.env x u) Q E s :=
 gv I hN hi hx r (fun s' I' _=>h s' I') hf
theorem Inv.call' {s':Shared} {ch:List Addr} (I:Inv X pins σ H s) (ho:s'.os=s.os) (u:Un (frs X.stack) ch H H' s.heap s'.heap) (hok:HOk X.prog X.w H' s'.heap) (hg:ad9 s'.gens)
  (hch:∀ b∈ch,(b∈X.ex\/X.s₀.heap.objs.size<=b)/\b≠X.env.locals/\(∀ x c,X.env.cells.lookup x=some c->c≠b)/\∀ p∈X.pn++pins,p.1≠b):Inv X pins σ H' s':=by
 obtain ⟨h',g',d',t',o'⟩:=s'
 have e:o'=s.os:=ho
 subst e
 exact I.call (g':=g') (t':=t') (d':=d') u hok hg hch
end
noncomputable abbrev XK:=Value->Option Addr->Hp->Prop
noncomputable abbrev St:=List (Option V)
noncomputable abbrev VK:=V->Hp->Prop
noncomputable abbrev TE:=St->Hp->VK->Prop
noncomputable abbrev TT:=St->Hp->(Bool->Hp->Prop)->Prop
noncomputable abbrev TA:=St->Hp->(List V->Hp->Prop)->Prop
structure Ends where
 nx:St->Hp->Prop
 rt:VK
 bk:St->Hp->Prop:=fun _ _=>False
 ct:St->Hp->Prop:=fun _ _=>False
noncomputable abbrev TS:=Ends->St->Hp->Prop
noncomputable def EP (X:Cx) (pins:List (Addr×Obj)) (σ:St) (Q:VK) (u:Value) (s':Shared):Prop:=∃ v H',Inv X pins σ H' s'/\RelV v u/\Q v H'
noncomputable def TP (X:Cx) (pins:List (Addr×Obj)) (σ:St) (Q:Bool->Hp->Prop) (b:Bool) (s':Shared):Prop:=∃ H',Inv X pins σ H' s'/\Q b H'
noncomputable def AP (X:Cx) (pins:List (Addr×Obj)) (σ:St) (Q:List V->Hp->Prop) (us:List Value) (s':Shared):Prop:=∃ vs H',Inv X pins σ H' s'/\Vals vs us/\Q vs H'
noncomputable def SP (X:Cx) (pins:List (Addr×Obj)) (D:Ends) (f:Flow) (s':Shared):Prop :=
 match f with
 | .next=>∃ σ' H',Inv X pins σ' H' s'/\D.nx σ' H'
 | .brk=>∃ σ' H',Inv X pins σ' H' s'/\D.bk σ' H'
 | .cont=>∃ σ' H',Inv X pins σ' H' s'/\D.ct σ' H'
 | .ret u=>∃ v σ' H',Inv X pins σ' H' s'/\RelV v u/\D.rt v H'
noncomputable def PE (X:Cx) (e:Expr) (t:TE):Prop :=
 ∀ (pins:List (Addr×Obj)) (s:Shared) (σ:St) (H:Hp) (Q:VK),Inv X pins σ H s->t σ H Q->wpAny (model X.prog X.w) X.A (eval e X.env) (EP X pins σ Q) X.xe s
noncomputable def PT (X:Cx) (e:Expr) (t:TT):Prop :=
 ∀ (pins:List (Addr×Obj)) (s:Shared) (σ:St) (H:Hp) (Q:Bool->Hp->Prop),Inv X pins σ H s->t σ H Q->wpAny (model X.prog X.w) X.A (isTrue e X.env (eval e X.env)) (TP X pins σ Q) X.xe s
noncomputable def PW (X:Cx) (e:Expr) (t:TT):Prop :=
 ∀ (whole:Sem Value) (pins:List (Addr×Obj)) (s:Shared) (σ:St) (H:Hp) (Q:Bool->Hp->Prop),Inv X pins σ H s->t σ H Q->wpAny (model X.prog X.w) X.A (isTrue e X.env whole) (TP X pins σ Q) X.xe s
theorem PW.pt {X:Cx} {e:Expr} {t:TT} (h:PW X e t):PT X e t:=h _
noncomputable def PA (X:Cx) (es:List Expr) (t:TA):Prop :=
 ∀ (pos:Pos) (pins:List (Addr×Obj)) (s:Shared) (σ:St) (H:Hp) (Q:List V->Hp->Prop),Inv X pins σ H s->t σ H Q->wpAny (model X.prog X.w) X.A (spliced (backTo pos (aan es X.env))) (AP X pins σ Q) X.xe s
noncomputable def PS (X:Cx) (st:Stmt) (t:TS):Prop :=
 ∀ (pins:List (Addr×Obj)) (s:Shared) (σ:St) (H:Hp) (D:Ends),Inv X pins σ H s->t D σ H->wpAny (model X.prog X.w) X.A (exec st X.env) (SP X pins D) X.xe s
noncomputable def PSs (X:Cx) (st:List Stmt) (t:TS):Prop :=
 ∀ (pins:List (Addr×Obj)) (s:Shared) (σ:St) (H:Hp) (D:Ends),Inv X pins σ H s->t D σ H->wpAny (model X.prog X.w) X.A (execs st X.env) (SP X pins D) X.xe s
theorem thn {α:Type} {t:Sem α} {Q Q':α->Shared->Prop} {M:Model} {A:Around} {E:Value->Shared->Prop} {s:Shared} (h:wpAny M A t Q E s) (hQ:∀ a s,Q a s->Q' a s):wpAny M A t Q' E s:=aaI h hQ fun _ _ x=>x
end L2
namespace L2
open PySem PySem.Spec PyProof.Rows
section
variable {X:Cx}
noncomputable def tVar (i:Nat):TE:=fun σ H Q=>∃ v,σ[i]?=some (some v)/\Q v H
noncomputable def tC (v:V):TE:=fun _ H Q=>Q v H
theorem wa {i:Nat} {x:Str} {pos:Pos} (hN:X.N[i]?=some x) (hv:Vis X.env.scope x) (hd:autoParam ((x==("__debug__" : Str))=false) Z1._auto_1) (hcd:autoParam ((x==("__classdict__" : Str))=false) Z1._auto_1):PE X (.Name x pos) (tVar i):=by
 intro pins s σ H Q I h
 obtain ⟨v,e,h⟩:=h
 obtain ⟨m,hn,hl⟩:=I.loc
 obtain ⟨u,r,l⟩:=hl i x v hN e hv
 have fin:EP X pins σ Q u s:=⟨v,H,I,r,h⟩
 rcases l with ⟨hk,hm⟩ | ⟨hk,c,hc,hcell⟩
 ·exact aer (wpAny_loadName_local I.ok.kind hk hn hm fin) hd
 ·rcases hk with hk | hk
  ·exact aer (wpAny_loadName_cell I.ok.kind hk hc hcell fin) hd
  ·exact aer (wpAny_loadName_free I.ok.kind hk hc hcell fin hcd) hd
theorem aG {i j pos}:PE X (.Constant (.int i) j pos) (tC (.int i)):=fun _ _ _ H _ I h=>wpAny_Constant_int ⟨.int i,H,I.tok _,⟨_,rfl⟩,h⟩
theorem xu {b j pos}:PE X (.Constant (.bool b) j pos) (tC (.bl b)):=fun _ _ _ H _ I h=>Constant_bool ⟨.bl b,H,I,rfl,h⟩
theorem wc {x j pos}:PE X (.Constant (.str x) j pos) (tC (.str x)):=fun _ _ _ H _ I h=>Calls.Constant_str ⟨.str x,H,I.tok _,⟨_,rfl⟩,h⟩
noncomputable def Gl (X:Cx) (x:Str):Prop:=X.env.kindOf x=some .globalImplicit
theorem kK {E:Value->Shared->Prop} {pins:List (Addr×Obj)} {s:Shared} {σ:St} {H:Hp} {x:Str} {u:Value} {pos:Pos} {Q:Value->Shared->Prop} (I:Inv X pins σ H s) (hg:Gl X x) (hm:X.mg x=some u) (h:Q u s)
  (hd:autoParam ((x==("__debug__" : Str))=false) Z1._auto_1):wpAny (model X.prog X.w) X.A (eval (.Name x pos) X.env) Q E s :=
 afd I.ok.kind hg (Calls.loadGlobal_global (by rw [I.ok.glob]; exact I.mod.glob.keeps I.bk) hm h) hd
theorem gL {E:Value->Shared->Prop} {pins:List (Addr×Obj)} {s:Shared} {σ:St} {H:Hp} {x:Str} {u:Value} {pos:Pos} {Q:Value->Shared->Prop} (I:Inv X pins σ H s) (hg:Gl X x) (hm:X.mg x=none) (hv:abZ x=some u) (h:Q u s)
  (hn:autoParam (x ≠ "__name__") Z1._auto_1) (hd:autoParam ((x==("__debug__" : Str))=false) Z1._auto_1):wpAny (model X.prog X.w) X.A (eval (.Name x pos) X.env) Q E s:=by
 obtain ⟨mb,h1,h2⟩:=I.mod.blt
 exact afd I.ok.kind hg (Calls.loadGlobal_builtin (by rw [I.ok.glob]; exact I.mod.glob.keeps I.bk) hm (by rw [I.ok.blt]; exact h1.keeps I.bk) ((h2 x hn).trans hv) h) hd
theorem um {x:Str} {v:V} {u:Value} {pos:Pos} (hg:Gl X x) (hm:X.mg x=some u) (r:RelV v u) (hd:autoParam ((x==("__debug__" : Str))=false) Z1._auto_1):PE X (.Name x pos) (tC v) :=
 fun _ _ _ H _ I h=>kK I hg hm ⟨v,H,I,r,h⟩ hd
theorem uo {x:Str} {v:V} {u:Value} {pos:Pos} (hg:Gl X x) (hm:X.mg x=none) (hv:abZ x=some u) (r:RelV v u) (hn:autoParam (x ≠ "__name__") Z1._auto_1) (hd:autoParam ((x==("__debug__" : Str))=false) Z1._auto_1):PE X (.Name x pos) (tC v) :=
 fun _ _ _ H _ I h=>gL I hg hm hv ⟨v,H,I,r,h⟩ hn hd
variable {a b:Expr} {ta tb:TE} {pos:Pos}
variable {tA tB':TT} {rest:List Expr}
noncomputable def tAnd (t u:TT):TT:=fun σ H Q=>t σ H fun c H1=>if c=true then u σ H1 Q else Q false H1
noncomputable def tOr (t u:TT):TT:=fun σ H Q=>t σ H fun c H1=>if c=true then Q true H1 else u σ H1 Q
noncomputable def tNot (t:TT):TT:=fun σ H Q=>t σ H fun c H1=>Q (!c) H1
theorem pw_and1 (ha:PT X a tA):PW X (.BoolOp .And [a] pos) tA:=by
 intro wh pins s σ H Q I h
 refine isTrue_and (thn (ha pins s σ H Q I h) fun c s1 e=>?_)
 cases c with
 | true=>exact isTrue_and_nil e
 | false=>exact e
theorem pw_or1 (ha:PT X a tA):PW X (.BoolOp .Or [a] pos) tA:=by
 intro wh pins s σ H Q I h
 refine isTrue_or (thn (ha pins s σ H Q I h) fun c s1 e=>?_)
 cases c with
 | false=>exact isTrue_or_nil e
 | true=>exact e
theorem pw_and (ha:PT X a tA) (hb:PW X (.BoolOp .And (b::rest) pos) tB'):PW X (.BoolOp .And (a::b::rest) pos) (tAnd tA tB'):=by
 intro wh pins s σ H Q I h
 refine isTrue_and (thn (ha pins s σ H _ I h) fun c s1 ⟨H1,I1,q1⟩=>?_)
 cases c with
 | true=>exact hb wh pins s1 σ H1 Q I1 q1
 | false=>exact ⟨H1,I1,q1⟩
theorem pw_or (ha:PT X a tA) (hb:PW X (.BoolOp .Or (b::rest) pos) tB'):PW X (.BoolOp .Or (a::b::rest) pos) (tOr tA tB'):=by
 intro wh pins s σ H Q I h
 refine isTrue_or (thn (ha pins s σ H _ I h) fun c s1 ⟨H1,I1,q1⟩=>?_)
 cases c with
 | true=>exact ⟨H1,I1,q1⟩
 | false=>exact hb wh pins s1 σ H1 Q I1 q1
theorem vS (ha:PT X a tA):PT X (.UnaryOp .Not a pos) (tNot tA):=by
 intro pins s σ H Q I h
 exact isTrue_not (ha pins s σ H (fun c H1=>Q (!c) H1) I h)
noncomputable def tAndV (ta tb:TE):TE:=fun σ H Q=>ta σ H fun x H1=>∃ c,x=.bl c/\if c=true then tb σ H1 Q else Q (.bl false) H1
noncomputable def tNotV (ta:TE):TE:=fun σ H Q=>ta σ H fun x H1=>∃ c,x=.bl c/\Q (.bl (!c)) H1
theorem wg {op} {t:TE} (h:PE X a t):PE X (.BoolOp op [a] pos) t:=fun pins s σ H Q I hw=>BoolOp_one (h pins s σ H Q I hw)
theorem wm (ha:PE X a ta) (hb:PE X (.BoolOp .And (b::rest) pos) tb):PE X (.BoolOp .And (a::b::rest) pos) (tAndV ta tb):=by
 intro pins s σ H Q I h
 refine BoolOp_and (thn (ha pins s σ H _ I h) fun v s1 ⟨x,H1,I1,r1,q1⟩=>?_)
 obtain ⟨c,rfl,q1⟩:=q1
 cases r1
 refine abJ ?_
 cases c with
 | true=>exact hb pins s1 σ H1 Q I1 q1
 | false=>exact ⟨.bl false,H1,I1,rfl,q1⟩
theorem wj (ha:PE X a ta):PE X (.UnaryOp .Not a pos) (tNotV ta):=by
 intro pins s σ H Q I h
 refine UnaryOp_ (thn (ha pins s σ H _ I h) fun v s1 ⟨x,H1,I1,r1,q1⟩=>?_)
 obtain ⟨c,rfl,q1⟩:=q1
 cases r1
 exact not_of (abJ ⟨.bl (!c),H1,I1,rfl,q1⟩)
noncomputable def tIf (t:TT) (ta tb:TE):TE:=fun σ H Q=>t σ H fun c H1=>if c=true then ta σ H1 Q else tb σ H1 Q
theorem sv {c:Expr} (hc:PT X c tA) (ha:PE X a ta) (hb:PE X b tb):PE X (.IfExp c a b pos) (tIf tA ta tb):=by
 intro pins s σ H Q I h
 refine wpAny_IfExp (thn (hc pins s σ H _ I h) fun d s1 ⟨H1,I1,q1⟩=>?_)
 cases d with
 | true=>exact ha pins s1 σ H1 Q I1 q1
 | false=>exact hb pins s1 σ H1 Q I1 q1
end
end L2
namespace L2
open PySem PySem.Spec PyProof.Rows
noncomputable def SqL (K:aad) (H:Hp) (a:Addr) (xs:List V):Prop :=
 Rd H a (.lst xs) \/
  ∃ (o:Obj) (its:Array Value) (n:Nat),K.lookup a=some o/\o.cls=.type "list" /\ o.dict=none/\o.data=.seq its n/\its.size<=sizeLine/\Vals xs its.toList
noncomputable def SqT (K:aad) (H:Hp) (a:Addr) (xs:List V):Prop :=
 Rd H a (.tup xs) \/
  ∃ (o:Obj) (its:Array Value) (n:Nat),K.lookup a=some o/\o.cls=.type "tuple" /\ o.data=.seq its n/\its.size<=sizeLine/\Vals xs its.toList
noncomputable def absV:Value->Option V
 | .none=>some .non
 | .bool b=>some (.bl b)
 | .int i _=>some (.int i)
 | .str x _=>some (.str x)
 | .bytes b _=>some (.byt b)
 | .float b _=>some (.flt b)
 | .ref a=>some (.ref a)
 | .type n=>some (.ty n)
 | _=>none
theorem RelV.abs {x:V} {u:Value} (r:RelV x u):absV u=some x:=by
 cases x with
 | non=>cases r; rfl
 | bl _=>cases r; rfl
 | int _=>obtain ⟨t,rfl⟩:=r; rfl
 | str _=>obtain ⟨t,rfl⟩:=r; rfl
 | byt _=>obtain ⟨t,rfl⟩:=r; rfl
 | flt _=>obtain ⟨t,rfl⟩:=r; rfl
 | ref _=>cases r; rfl
 | ty _=>cases r; rfl
theorem RelV.inj {x y:V} {u:Value} (r:RelV x u) (q:RelV y u):x=y:=aar (r.abs.symm.trans q.abs)
theorem Vals.inj:∀ {xs ys:List V} {us:List Value},Vals xs us->Vals ys us->xs=ys
 | _,_,_,.nil,.nil=>rfl
 | _,_,_,.cons r t,.cons r' t'=>by rw [r.inj r',Vals.inj t t']
section
variable {X:Cx} {pins:List (Addr×Obj)} {σ:St} {H:Hp} {s:Shared} {a:Addr} {xs ys:List V}
theorem SqL.of {K:aad} (h:H a=some (.lst xs)):SqL K H a xs:=.inl (.inl h)
theorem Inv.list (I:Inv X pins σ H s) (h:SqL X.K H a xs):∃ its:List Value,Vals xs its/\PlainL s.heap a its.toArray/\xs.length<=sizeLine:=by
 rcases h with h | ⟨o,its,n,hk,hc,hd,hs,hz,r⟩
 ·obtain ⟨z,its,n,r,e⟩:=h.ok I.hok
  exact ⟨its,r,⟨_,n,e,rfl,rfl,rfl⟩,z⟩
 ·refine ⟨its.toList,r,⟨o,n,I.kIn a o hk,hc,hd,by simpa using hs⟩,?_⟩
  have e:=r.length
  simp only [aax] at e
  omega
theorem Inv.tuple (I:Inv X pins σ H s) (h:SqT X.K H a xs):∃ its:List Value,Vals xs its/\IsTup s.heap a its.toArray/\xs.length<=sizeLine:=by
 rcases h with h | ⟨o,its,n,hk,hc,hs,hz,r⟩
 ·obtain ⟨z,its,r,p⟩:=h.ok I.hok
  exact ⟨its,r,p,z⟩
 ·refine ⟨its.toList,r,⟨o,I.kIn a o hk,hc,n,by simpa using hs⟩,?_⟩
  have e:=r.length
  simp only [aax] at e
  omega
theorem Inv.list_inj (I:Inv X pins σ H s) (h:SqL X.K H a xs) (h':SqL X.K H a ys):xs=ys:=by
 obtain ⟨its,r,⟨o,n,e,_,_,d⟩,_⟩:=I.list h
 obtain ⟨its',r',⟨o',n',e',_,_,d'⟩,_⟩:=I.list h'
 rw [e] at e'; cases e'
 rw [d] at d'
 injection d' with d1 _
 have:its=its':=by simpa using congrArg Array.toList d1
 subst this
 exact r.inj r'
theorem Inv.tuple_inj (I:Inv X pins σ H s) (h:SqT X.K H a xs) (h':SqT X.K H a ys):xs=ys:=by
 obtain ⟨its,r,⟨o,e,_,n,d⟩,_⟩:=I.tuple h
 obtain ⟨its',r',⟨o',e',_,n',d'⟩,_⟩:=I.tuple h'
 rw [e] at e'; cases e'
 rw [d] at d'
 injection d' with d1 _
 have:its=its':=by simpa using congrArg Array.toList d1
 subst this
 exact r.inj r'
end
noncomputable abbrev Cx.wish (X:Cx) (E:Value->Shared->Prop):Cx:={ X with xe:=E }
noncomputable abbrev Cx.nox (X:Cx):Cx:=X.wish fun _ _=>False
theorem Cx.Ok.wish {X:Cx} (ok:X.Ok) (E:Value->Shared->Prop):(X.wish E).Ok :=
 ⟨ok.mod,ok.kind,ok.glob,ok.blt,ok.above,ok.inj,ok.has,ok.cab,ok.hd,ok.frames,ok.stk,ok.exf,ok.bs,ok.bsz,ok.noex,ok.exfs,ok.funs,ok.frf⟩
theorem Cx.Ok.unwish {X:Cx} {E:Value->Shared->Prop} (ok:(X.wish E).Ok):X.Ok :=
 ⟨ok.mod,ok.kind,ok.glob,ok.blt,ok.above,ok.inj,ok.has,ok.cab,ok.hd,ok.frames,ok.stk,ok.exf,ok.bs,ok.bsz,ok.noex,ok.exfs,ok.funs,ok.frf⟩
section
variable {X:Cx} {pins:List (Addr×Obj)} {σ:St} {H:Hp} {s:Shared} {E:Value->Shared->Prop}
theorem Inv.wish (I:Inv X pins σ H s) (E:Value->Shared->Prop):Inv (X.wish E) pins σ H s:=⟨I.ok.wish E,I.os,I.bare,I.base,I.loc,I.cell,I.free,I.freeC,I.pin,I.hok,I.len⟩
theorem Inv.unwish (I:Inv (X.wish E) pins σ H s):Inv X pins σ H s:=⟨I.ok.unwish,I.os,I.bare,I.base,I.loc,I.cell,I.free,I.freeC,I.pin,I.hok,I.len⟩
theorem SP.unwish {D:Ends} {f:Flow} {s':Shared} (h:SP (X.wish E) pins D f s'):SP X pins D f s':=by
 cases f with
 | next=>obtain ⟨σ',H',I,q⟩:=h; exact ⟨σ',H',I.unwish,q⟩
 | brk=>obtain ⟨σ',H',I,q⟩:=h; exact ⟨σ',H',I.unwish,q⟩
 | cont=>obtain ⟨σ',H',I,q⟩:=h; exact ⟨σ',H',I.unwish,q⟩
 | ret u=>obtain ⟨v,σ',H',I,r,q⟩:=h; exact ⟨v,σ',H',I.unwish,r,q⟩
theorem PSs.nox {st:List Stmt} {t:TS} (h:PSs X.nox st t):PSs X st t:=fun pins s σ H D I hw =>
 aaI (h pins s σ H D (I.wish _) hw) (fun _ _ q=>q.unwish) fun _ _ z=>acz z
end
section
variable {X:Cx} {st:Stmt} {rest:List Stmt} {t u:TS} {e:Expr} {te:TE} {pos:Pos}
noncomputable def tNext:TS:=fun D σ H=>D.nx σ H
noncomputable def tSeq (t u:TS):TS:=fun D σ H=>t { D with nx:=u D } σ H
theorem oG:PSs X [] tNext:=fun _ _ σ H _ I h=>adG ⟨σ,H,I,h⟩
theorem bQ (h1:PS X st t) (h2:PSs X rest u):PSs X (st::rest) (tSeq t u):=by
 intro pins s σ H D I h
 refine wpAny_execs_cons (thn (h1 pins s σ H { D with nx:=u D } I h) fun f s1 q=>?_)
 cases f with
 | next =>
  obtain ⟨σ',H',I',q⟩:=q
  exact h2 pins s1 σ' H' D I' q
 | ret v=>exact q
 | brk=>exact q
 | cont=>exact q
theorem da (h1:PS X st t):PSs X [st] t:=by
 intro pins s σ H D I h
 refine wpAny_execs_cons (thn (h1 pins s σ H D I h) fun f s1 q=>?_)
 cases f with
 | next=>exact adG q
 | ret v=>exact q
 | brk=>exact q
 | cont=>exact q
theorem Inv.quiet {pins:List (Addr×Obj)} {σ:St} {H:Hp} {s:Shared} (I:Inv X pins σ H s):interactive X.env=false:=by simp [interactive,I.ok.kind]
noncomputable def tDrop (te:TE):TS:=fun D σ H=>te σ H fun _ H1=>D.nx σ H1
theorem oH (he:PE X e te) (hs:autoParam (acp e none pos.line X.env=pure false) Z2._auto_1):PS X (.Expr e pos) (tDrop te):=by
 intro pins s σ H D I h
 exact wpAny_Expr_any (thn (he pins s σ H _ I h) fun v s1 ⟨x,H1,I1,r1,q1⟩=>⟨σ,H1,I1,q1⟩) I.quiet hs
noncomputable def tRet (te:TE):TS:=fun D σ H=>te σ H D.rt
theorem gH (he:PE X e te):PS X (.Return (some e) pos) (tRet te):=by
 intro pins s σ H D I h
 exact wpAny_Return_some (thn (he pins s σ H _ I h) fun v s1 ⟨x,H1,I1,r1,q1⟩=>⟨x,σ,H1,I1,r1,q1⟩)
noncomputable def tIfS (c:TT) (t u:TS):TS:=fun D σ H=>c σ H fun b H1=>if b=true then t D σ H1 else u D σ H1
theorem tJ {c:Expr} {a b:List Stmt} {tc:TT} (hc:PT X c tc) (ha:PSs X a t) (hb:PSs X b u):PS X (.If c a b pos) (tIfS tc t u):=by
 intro pins s σ H D I h
 refine wpAny_If (thn (hc pins s σ H _ I h) fun d s1 ⟨H1,I1,q1⟩=>?_)
 cases d with
 | true=>exact ha pins s1 σ H1 D I1 q1
 | false=>exact hb pins s1 σ H1 D I1 q1
end
noncomputable abbrev TG:=V->St->Hp->(St->Hp->Prop)->Prop
noncomputable abbrev TGs:=List V->St->Hp->(St->Hp->Prop)->Prop
noncomputable def PG (X:Cx) (target:Expr) (t:TG):Prop :=
 ∀ (pins:List (Addr×Obj)) (s:Shared) (σ:St) (H:Hp) (v:V) (u:Value) (Q:St->Hp->Prop),Inv X pins σ H s->RelV v u->t v σ H Q ->
  wpAny (model X.prog X.w) X.A (assign target X.env u) (fun _ s'=>∃ σ' H',Inv X pins σ' H' s'/\Q σ' H') X.xe s
noncomputable def PGs (X:Cx) (ts:List Expr) (t:TGs):Prop :=
 ∀ (pins:List (Addr×Obj)) (s:Shared) (σ:St) (H:Hp) (vs:List V) (us:List Value) (Q:St->Hp->Prop),Inv X pins σ H s->Vals vs us->t vs σ H Q ->
  wpAny (model X.prog X.w) X.A (assignInOrder ((aci ts X.env).map (·.2)) us) (fun _ s'=>∃ σ' H',Inv X pins σ' H' s'/\Q σ' H') X.xe s
noncomputable abbrev TSet:=V->V->V->Hp->(Hp->Prop)->Prop
noncomputable def PSet (X:Cx) (t:TSet):Prop :=
 ∀ (pins:List (Addr×Obj)) (s:Shared) (σ:St) (H:Hp) (o i v:V) (ov iv u:Value) (Q:Hp->Prop),Inv X pins σ H s->RelV o ov->RelV i iv->RelV v u->t o i v H Q ->
  wpAny (model X.prog X.w) X.A (setItem ov iv u) (fun _ s'=>∃ H',Inv X pins σ H' s'/\Q H') X.xe s
section
variable {X:Cx} {pos:Pos}
noncomputable def gName (i:Nat):TG:=fun v σ H Q=>Q (σ.set i (some v)) H
theorem aM {i:Nat} {x:Str} (hN:X.N.Nodup) (hi:X.N[i]?=some x) (hx:Loc X.env.scope x) (hf:autoParam (X.fn x=true\/X.env.scope.names.lookup x=some .local) Z0._auto_1):PG X (.Name x pos) (gName i):=by
 intro pins s σ H v u Q I r h
 exact aeq (fY I hN hi hx r (fun s' I'=>⟨_,H,I',h⟩) hf)
noncomputable def gNil:TGs:=fun vs σ H Q=>vs=[]/\Q σ H
noncomputable def gCons (t:TG) (u:TGs):TGs:=fun vs σ H Q=>∃ v r,vs=v::r/\t v σ H fun σ' H'=>u r σ' H' Q
theorem oJ:PGs X [] gNil:=by
 intro pins s σ H vs us Q I r h
 obtain ⟨e,h⟩:=h
 subst e
 cases r
 exact assignInOrder_nil ⟨σ,H,I,h⟩
theorem i7 {e:Expr} {es:List Expr} {t:TG} {u:TGs} (h1:PG X e t) (h2:PGs X es u)
  (hs:autoParam ((aci (e::es) X.env).map (·.2)=assign e X.env::(aci es X.env).map (·.2)) Z2._auto_1):PGs X (e::es) (gCons t u):=by
 intro pins s σ H vs us Q I r h
 obtain ⟨v,vr,e1,h⟩:=h
 subst e1
 cases r with
 | cons r rr =>
  rw [hs]
  refine aeh (thn (h1 pins s σ H _ _ _ I r h) fun _ s1 ⟨σ1,H1,I1,q1⟩=>?_)
  exact h2 pins s1 σ1 H1 _ _ Q I1 rr q1
noncomputable def gTup (K:aad) (n:Nat) (t:TGs):TG:=fun v σ H Q=>∃ a xs,v=.ref a/\SqT K H a xs/\xs.length=n/\t xs σ H Q
theorem qB {es:List Expr} {k:Nat} {t:TGs} {n:Nat} (hc:X.calm=true) (h:PGs X es t)
  (hn:autoParam ((aci es X.env).length=n) Z2._auto_1) (hst:autoParam ((aci es X.env).findIdx? (·.1)=none) Z2._auto_1):PG X (.Tuple es k pos) (gTup X.K n t):=by
 intro pins s σ H v u Q I r hw
 obtain ⟨a,xs,e1,hq,hl,hw⟩:=hw
 subst e1
 cases r
 obtain ⟨its,rv,ht,hz⟩:=I.tuple hq
 refine assign_Tuple_tuple (I.ok.hd hc) ht (by simp [hn,<- hl,rv.length]) hst fun h' hx=>?_
 have I1:Inv X pins σ H { s with heap:=h' }:=I.kept (t':=s.toks) fun b o e=>hx b o (aas (aak e)) e
 exact h pins _ σ H xs _ Q I1 (by simpa using rv) hw
noncomputable def gSub (to ti:TE) (t:TSet):TG:=fun v σ H Q=>to σ H fun o H1=>ti σ H1 fun i H2=>t o i v H2 fun H3=>Q σ H3
theorem qC {o i:Expr} {to ti:TE} {t:TSet} (ho:PE X o to) (hi:PE X i ti) (hs:PSet X t)
  (ha:autoParam (∀ v,assign (.Subscript o i pos) X.env v=(do
   let ov <- aeZ [v] (eval o X.env)
   let iv <- aeZ [v,ov] (eval i X.env)
   standAt pos
   aeZ [v,ov,iv] (setItem ov iv v)
   release [v,ov,iv] [])) Z3._auto_1):PG X (.Subscript o i pos) (gSub to ti t):=by
 intro pins s σ H v u Q I r h
 rw [ha]
 refine aaa (aaQ (thn (ho pins s σ H _ I h) fun ov s1 ⟨x,H1,I1,r1,q1⟩=>?_))
 refine aaa (aaQ (thn (hi pins s1 σ H1 _ I1 q1) fun iv s2 ⟨y,H2,I2,r2,q2⟩=>?_))
 refine aaa (acf (aaa (aaQ (thn (hs pins s2 σ H2 x y v ov iv u _ I2 r1 r2 r q2) fun _ s3 ⟨H3,I3,q3⟩=>?_))))
 exact wpAny_release ⟨σ,H3,I3,q3⟩
noncomputable def tAsg (te:TE) (g:TG):TS:=fun D σ H=>te σ H fun x H1=>g x σ H1 D.nx
theorem mN {tg e:Expr} {te:TE} {g:TG} (he:PE X e te) (hg:PG X tg g) (hs:autoParam (aec [tg] e pos.line X.env=pure false) Z2._auto_1) (hw:autoParam (aed [tg] e X.env=pure none) Z2._auto_1)
  (h1:autoParam ((aci [tg] X.env).map (·.2)=[assign tg X.env]) Z2._auto_1):PS X (.Assign [tg] e pos) (tAsg te g):=by
 intro pins s σ H D I h
 refine wpAny_Assign_stores (thn (he pins s σ H _ I h) fun v s1 ⟨x,H1,I1,r1,q1⟩=>?_) hs hw
 rw [h1]
 exact thn (hg pins s1 σ H1 x v _ I1 r1 q1) fun _ s2 q=>q
theorem dZ {i:Nat} {x:Str} {e:Expr} {te:TE} {pos':Pos} (hN:X.N.Nodup) (hi:X.N[i]?=some x) (hx:Loc X.env.scope x) (he:PE X e te) (hs:autoParam (acp e (some (.Name x pos')) pos.line X.env=pure false) Z2._auto_1) (hf:autoParam (X.fn x=true\/X.env.scope.names.lookup x=some .local) Z0._auto_1) :
  PS X (.Assign [.Name x pos'] e pos) (tAsg te (gName i)):=by
 intro pins s σ H D I h
 refine wpAny_Assign_Name (thn (he pins s σ H _ I h) fun v s1 ⟨y,H1,I1,r1,q1⟩=>?_) hs
 exact fY I1 hN hi hx r1 (fun s2 I2=>⟨_,H1,I2,q1⟩) hf
noncomputable def tPar (i j:Nat) (ta:TA):TS:=fun D σ H=>ta σ H fun vs H1=>∃ v w,vs=[v,w]/\D.nx ((σ.set i (some v)).set j (some w)) H1
theorem vU {i j:Nat} {x y:Str} {a b:Expr} {ta:TA} {px py pt:Pos} {kt k2 pt2} (hc:X.calm=true) (hN:X.N.Nodup) (hi:X.N[i]?=some x) (hj:X.N[j]?=some y) (hij:i≠j)
  (hx:X.env.scope.names.lookup x=some .local) (hy:X.env.scope.names.lookup y=some .local) (ha:PA X [a,b] ta)
  (hw:aed [.Tuple [.Name x px,.Name y py] kt pt] (.Tuple [a,b] k2 pt2) X.env=pure (some [x,y]))
  (hs:autoParam (aec [.Tuple [.Name x px,.Name y py] kt pt] (.Tuple [a,b] k2 pt2) pos.line X.env=pure false) Z2._auto_1) :
  PS X (.Assign [.Tuple [.Name x px,.Name y py] kt pt] (.Tuple [a,b] k2 pt2) pos) (tPar i j ta):=by
 intro pins s σ H D I h
 rw [exec_Assign_arm]
 refine aaa (acf ?_)
 rw [hs]
 refine aaa (aag ?_)
 rw [if_neg (by decide)]
 refine aaa (Tuple_ (thn (ha _ pins s σ H _ I h) fun us s1 ⟨vs,H1,I1,r1,q1⟩=>?_))
 obtain ⟨v,w,e1,q1⟩:=q1
 subst e1
 obtain ⟨u1,u2,rfl,rv,rw'⟩:∃ u1 u2,us=[u1,u2]/\RelV v u1/\RelV w u2:=by
  cases r1 with
  | cons p q =>
   cases q with
   | cons p' q' =>
    cases q'
    exact ⟨_,_,rfl,p,p'⟩
 refine aa3 ?_ (by show 2<=sizeLine; decide)
 have I2:Inv X pins σ H1 { s1 with heap:=s1.heap.push { cls:=.type "tuple",data:=.seq [u1,u2].toArray } }:=I1.kept (t':=s1.toks) fun b o e=>aac _ e
 rw [hw]
 refine aaa (aag ?_)
 show wpAny (model X.prog X.w) X.A (do rule "assign.swapped-stores"; let items <- unpackItems (.ref s1.heap.objs.size) 2 none; assignInOrder [fun v=>bindName X.env y v,fun v=>bindName X.env x v] items.reverse; pure Flow.next) _ _ _
 refine aaa (adQ (aaa (unpackItems_tuple (items:=#[u1,u2]) (I.ok.hd hc) (afa s1.heap _) fun h' hx'=>?_)))
 have I3:=I2.kept (h':=h') (t':=s1.toks) fun b o e=>hx' b o (aas (aak e)) e
 show wpAny _ _ (assignInOrder [fun v=>bindName X.env y v,fun v=>bindName X.env x v] [u2,u1] >>= fun _=>pure Flow.next) _ _ _
 refine aaa (aeh (wpAny_bindName (fY I3 hN hj (.inl hy) rw' (fun s2 I4=>?_) (.inr hy))))
 refine aeh (wpAny_bindName (fY I4 hN hi (.inl hx) rv (fun s3 I5=>assignInOrder_nil (aag ?_)) (.inr hx)))
 rw [List.set_comm _ _ (abr hij)] at I5
 exact ⟨_,H1,I5,q1⟩
end
section
variable {X:Cx} {pos:Pos}
noncomputable def tWhile (c:TT) (tb:TS):TS:=fun D σ H=>∃ W:Nat->St->Hp->Prop,(∃ m,W m σ H)/\∀ m σ H,W m σ H ->
 c σ H fun b H1=>if b=true then ∃ N:St->Hp->Prop,(∀ σ' H',N σ' H'->∃ m',m'<m/\W m' σ' H')/\tb { D with nx:=N,ct:=N,bk:=D.nx } σ H1 else D.nx σ H1
theorem sj {c:Expr} {body:List Stmt} {tc:TT} {tb:TS} (hp:PassesOwn (model X.prog X.w) X.A X.env X.xe) (hc:PT X c tc) (hb:PSs X body tb):PS X (.While c body [] pos) (tWhile tc tb):=by
 intro pins s σ H D I h
 obtain ⟨W,⟨m0,w0⟩,turn⟩:=h
 refine wpAny_While (codeAny_whileLoop (fun n s'=>∃ σ' H',Inv X pins σ' H' s'/\W n σ' H') ?_ m0 ⟨σ,H,I,w0⟩)
 rintro n s1 ⟨σ1,H1,I1,w1⟩
 refine acb hp (thn (hc pins s1 σ1 H1 _ I1 (turn n σ1 H1 w1)) fun b s2 ⟨H2,I2,q2⟩=>?_)
 cases b with
 | true =>
  obtain ⟨N,hN,q2⟩:=q2
  rw [if_pos rfl]
  refine acb hp (thn (hb pins s2 σ1 H2 _ I2 q2) fun f s3 q3=>?_)
  cases f with
  | next =>
   obtain ⟨σ3,H3,I3,n3⟩:=q3
   obtain ⟨m',hm,w3⟩:=hN σ3 H3 n3
   exact ⟨m',hm,σ3,H3,I3,w3⟩
  | cont =>
   obtain ⟨σ3,H3,I3,n3⟩:=q3
   obtain ⟨m',hm,w3⟩:=hN σ3 H3 n3
   exact ⟨m',hm,σ3,H3,I3,w3⟩
  | brk=>exact q3
  | ret v=>exact q3
 | false =>
  rw [if_neg aay]
  exact adG ⟨σ1,H2,I2,q2⟩
end
structure It where
 go:Nat->Hp->Prop
 yld:Nat->Hp->V->Hp->Prop
 stop:Nat->Hp->Prop
noncomputable def FpOk (X:Cx) (pins:List (Addr×Obj)) (H:Hp) (b:Addr):Prop :=
 H b=none/\b≠X.env.locals/\b∉X.fs/\(b∈X.ex\/X.s₀.heap.objs.size<=b)/\(∀ x c,X.env.cells.lookup x=some c->c≠b)/\∀ p∈X.pn++pins,p.1≠b
theorem Inv.fpOk {X:Cx} {pins:List (Addr×Obj)} {σ:St} {H H':Hp} {s:Shared} {b:Addr} (I:Inv X pins σ H s) (hb:s.heap.objs.size<=b) (hn:H' b=none):FpOk X pins H' b:=by
 refine ⟨hn,acd (aaB I.lt hb),I.nofs hb,.inr (aa1 I.sz hb),fun x c e z=>?_,fun p hp z=>?_⟩
 ·obtain ⟨v,q⟩:=I.cell x c e
  exact absurd (aaB q.lt (by rw [z]; exact hb)) (aa6 _)
 ·exact absurd (aaB (aak (I.pin p hp).1) (by rw [z]; exact hb)) (aa6 _)
structure Turn (P:aaq) (w:World) (K:aad) (tg:Expr) (J:It) (fp:List Addr) (it:Addr) (tn:Nat->Heap->Prop):Prop where
 mem:it∈fp
 obj:∀ i h,tn i h->∀ b∈fp,∃ o,h.get? b=some o/\∀ v,o.data≠.cell v
 keep:∀ i h h',tn i h->(∀ b∈fp,∀ o,h.get? b=some o->h'.get? b=some o)->tn i h'
 item:∀ (X:Cx),X.prog=P->X.w=w->X.K=K->X.calm=true->∀ (i:Nat) (pins:List (Addr×Obj)) (s:Shared) (σ:St) (H:Hp) (E:Value->Shared->Prop),Inv X pins σ H s->(∀ b∈fp,FpOk X pins H b)->tn i s.heap->J.go i H ->
  wpAny (model P w) X.A (pyNext (.ref it)) (fun r s1=>∃ u,r=some u /\
   wpAny (model P w) X.A (adI tg (.ref it) u) (fun _ s2=>∃ x H',Inv X pins σ H' s2/\RelV x u/\J.yld i H x H'/\tn (i+1) s2.heap/\∀ b∈fp,H' b=none) E s1) E s
 done:∀ (X:Cx),X.prog=P->X.w=w->X.K=K->X.calm=true->∀ (i:Nat) (pins:List (Addr×Obj)) (s:Shared) (σ:St) (H:Hp) (E:Value->Shared->Prop),Inv X pins σ H s->(∀ b∈fp,FpOk X pins H b)->tn i s.heap->J.stop i H ->
  wpAny (model P w) X.A (pyNext (.ref it)) (fun r s1=>r=none/\Inv X pins σ H s1) E s
 self:∀ (A:Around) (i:Nat) (s:Shared) (Q:Value->Shared->Prop) (E:Value->Shared->Prop),tn i s.heap->Q (.ref it) s->wpAny (model P w) A (pyIter (.ref it)) Q E s
noncomputable abbrev TI:=St->Hp->(It->Hp->Prop)->Prop
noncomputable def PIE (X:Cx) (pins:List (Addr×Obj)) (σ:St) (tg:Expr) (R:It->Hp->Prop) (itv:Value) (s2:Shared):Prop :=
 ∃ (it:Addr) (fp:List Addr) (tn:Nat->Heap->Prop) (J:It) (H':Hp),itv=.ref it/\Inv X pins σ H' s2/\Turn X.prog X.w X.K tg J fp it tn/\tn 0 s2.heap/\(∀ b∈fp,FpOk X pins H' b)/\R J H'
noncomputable def PI (X:Cx) (tg iter:Expr) (wi:TI):Prop :=
 ∀ (pins:List (Addr×Obj)) (s:Shared) (σ:St) (H:Hp) (R:It->Hp->Prop),Inv X pins σ H s->wi σ H R ->
  wpAny (model X.prog X.w) X.A (eval iter X.env) (fun v s1=>wpAny (model X.prog X.w) X.A (pyIter v) (PIE X pins σ tg R) X.xe s1) X.xe s
theorem mw {M:Model} {A:Around} {E:Value->Shared->Prop} {s:Shared} {tg:Expr} {it:Addr} {u:Value} {o:Obj} {n:String} {vs:Array Value} {Q:Unit->Shared->Prop} (ho:s.heap.get? it=some o) (hc:o.cls=.type n) (hd:o.data=.fields vs)
  (hn:["enumerate", "zip", "dict_itemiterator", "dict_reverseitemiterator", "odict_iterator", "itertools.zip_longest", "itertools.pairwise"].contains n=false) (hQ:Q () s):wpAny M A (adI tg (.ref it) u) Q E s:=by
 unfold adI
 cases tg <;> first
  | exact aag hQ
  | (cases u <;> first
    | exact aag hQ
    | (
      refine aaa (wpAny_load ho ?_)
      rw [hc,hd]
      show wpAny M A (if (["enumerate", "zip", "dict_itemiterator", "dict_reverseitemiterator", "odict_iterator", "itertools.zip_longest", "itertools.pairwise"].contains n && vs[0]?==some (rawInt _))=true then _ else _) Q E s
      rw [if_neg (by intro h; rw [hn,afl] at h; cases h)]
      exact aag hQ))
noncomputable def Itl (K:aad) (a:Addr):It :=
 ⟨fun i H=>∃ xs x,SqL K H a xs/\xs[i]?=some x,fun i H x H'=>H'=H/\∀ xs,SqL K H a xs->xs[i]?=some x,fun i H=>∃ xs,SqL K H a xs/\xs.length<=i⟩
noncomputable def Itt (K:aad) (a:Addr):It :=
 ⟨fun i H=>∃ xs x,SqT K H a xs/\xs[i]?=some x,fun i H x H'=>H'=H/\∀ xs,SqT K H a xs->xs[i]?=some x,fun i H=>∃ xs,SqT K H a xs/\xs.length<=i⟩
noncomputable def Itr (lo:Int) (n:Nat):It:=⟨fun i _=>i<n,fun i H x H'=>H'=H/\x=.int (lo+i),fun i _=>n<=i⟩
theorem ll {P:aaq} {w:World} {K:aad} {tg:Expr} (a it:Addr):Turn P w K tg (Itl K a) [it] it (fun i h=>h.IsListIter it a i) where
 mem:=by simp
 obj:=fun i h st b hb=>by
  have e:b=it:=by simpa using hb
  subst e
  obtain ⟨o,e,c,d⟩:=st
  exact ⟨o,e,fun v z=>by rw [d] at z; cases z⟩
 keep:=fun i h h' st k=>st.at fun o e=>k it (by simp) o e
 item:=by
  intro X hP hw hK hc i pins s σ H E I hf st hg
  subst hP hw hK
  obtain ⟨xs,x,hq,hx⟩:=hg
  obtain ⟨its,rv,p,hz⟩:=I.list hq
  obtain ⟨u,hu,ru⟩:=rv.get hx
  obtain ⟨f0,f1,f2,f3,f4,f5⟩:=hf it (by simp)
  refine wpAny_pyNext_list_item st p.isList (x:=u) (by simpa using hu) fun h' st' sb=>?_
  have I1:Inv X pins σ H { s with heap:=h' }:=I.turned (t':=s.toks) (fun b o hb e=>(sb.2 b hb).trans e) f0 f1 f3 f4 f5
  obtain ⟨o,e,c,d⟩:=id st'
  exact ⟨u,rfl,mw (s:={ s with heap:=h' }) e c d (by decide) ⟨x,H,I1,ru,⟨rfl,fun ys hy=>by rw [I.list_inj hy hq]; exact hx⟩,st',fun b hb=>(hf b hb).1⟩⟩
 done:=by
  intro X hP hw hK hc i pins s σ H E I hf st hg
  subst hP hw hK
  obtain ⟨xs,hq,hx⟩:=hg
  obtain ⟨its,rv,p,hz⟩:=I.list hq
  obtain ⟨f0,f1,f2,f3,f4,f5⟩:=hf it (by simp)
  have hl:=rv.length
  exact wpAny_pyNext_list_end (I.ok.hd hc) st p.isList (by simp; omega) fun h' eb=>⟨rfl,I.turned (t':=s.toks) (fun b o hb e=>eb b o hb e) f0 f1 f3 f4 f5⟩
 self:=fun _ _ _ _ _ st h=>wpAny_pyIter_listiter st h
theorem pk {P:aaq} {w:World} {K:aad} {tg:Expr} (a it:Addr):Turn P w K tg (Itt K a) [it] it (fun i h=>h.IsTupleIter it a i) where
 mem:=by simp
 obj:=fun i h st b hb=>by
  have e:b=it:=by simpa using hb
  subst e
  obtain ⟨o,e,c,d⟩:=st
  exact ⟨o,e,fun v z=>by rw [d] at z; cases z⟩
 keep:=fun i h h' st k=>st.at fun o e=>k it (by simp) o e
 item:=by
  intro X hP hw hK hc i pins s σ H E I hf st hg
  subst hP hw hK
  obtain ⟨xs,x,hq,hx⟩:=hg
  obtain ⟨its,rv,p,hz⟩:=I.tuple hq
  obtain ⟨u,hu,ru⟩:=rv.get hx
  obtain ⟨f0,f1,f2,f3,f4,f5⟩:=hf it (by simp)
  refine wpAny_pyNext_tuple_item st (show s.heap.IsTuple a its.toArray from p) (x:=u) (by simpa using hu) fun h' st' sb=>?_
  have I1:Inv X pins σ H { s with heap:=h' }:=I.turned (t':=s.toks) (fun b o hb e=>(sb.2 b hb).trans e) f0 f1 f3 f4 f5
  obtain ⟨o,e,c,d⟩:=id st'
  exact ⟨u,rfl,mw (s:={ s with heap:=h' }) e c d (by decide) ⟨x,H,I1,ru,⟨rfl,fun ys hy=>by rw [I.tuple_inj hy hq]; exact hx⟩,st',fun b hb=>(hf b hb).1⟩⟩
 done:=by
  intro X hP hw hK hc i pins s σ H E I hf st hg
  subst hP hw hK
  obtain ⟨xs,hq,hx⟩:=hg
  obtain ⟨its,rv,p,hz⟩:=I.tuple hq
  obtain ⟨f0,f1,f2,f3,f4,f5⟩:=hf it (by simp)
  have hl:=rv.length
  exact wpAny_pyNext_tuple_end (I.ok.hd hc) st (show s.heap.IsTuple a its.toArray from p) (by simp; omega) fun h' eb=>⟨rfl,I.turned (t':=s.toks) (fun b o hb e=>eb b o hb e) f0 f1 f3 f4 f5⟩
 self:=fun _ _ _ _ _ st h=>wpAny_pyIter_tupleiter st h
theorem pq {P:aaq} {w:World} {K:aad} {tg:Expr} (it:Addr) (lo:Int) (n:Nat):Turn P w K tg (Itr lo n) [it] it (fun i h=>IsRangeIter h it (lo+(i:Nat)*1) ((n:Int) - (i:Nat)) 1) where
 mem:=by simp
 obj:=fun i h st b hb=>by
  have e:b=it:=by simpa using hb
  subst e
  exact ⟨_,st,fun v z=>by
   have z':Data.fields _=Data.cell v:=z
   cases z'⟩
 keep:=fun i h h' st k=>k it (by simp) _ st
 item:=by
  intro X hP hw hK hc i pins s σ H E I hf st hg
  subst hP hw hK
  obtain ⟨f0,f1,f2,f3,f4,f5⟩:=hf it (by simp)
  have W:=Walks.range (prog:=X.prog) (w:=X.w) (I.ok.hd hc) it lo 1 n
  refine W.item i s _ _ hg st fun v h' tk hv st' kk=>?_
  obtain ⟨t,rfl⟩:=hv
  have I1:Inv X pins σ H { s with heap:=h',toks:=tk }:=I.turned (fun b o hb e=>kk b o (by simpa using hb) e) f0 f1 f3 f4 f5
  refine ⟨_,rfl,mw (s:={ s with heap:=h',toks:=tk }) (n := "range_iterator") st' rfl rfl (by decide) ⟨.int (lo+i),H,I1,⟨t,?_⟩,⟨rfl,rfl⟩,st',fun b hb=>(hf b hb).1⟩⟩
  rw [Int.mul_one]
 done:=by
  intro X hP hw hK hc i pins s σ H E I hf st hg
  subst hP hw hK
  obtain ⟨f0,f1,f2,f3,f4,f5⟩:=hf it (by simp)
  exact wpAny_pyNext_range_end (I.ok.hd hc) st (by have:n<=i:=hg; omega) fun h' eb=>⟨rfl,I.turned (t':=s.toks) (fun b o hb e=>eb b o hb e) f0 f1 f3 f4 f5⟩
 self:=fun _ _ _ _ _ st h=>wpAny_pyIter_rangeiter st h
end L2
namespace L2
open PySem PySem.Spec PyProof.Rows
section
variable {X:Cx} {tg:Expr}
noncomputable def iList (K:aad) (tl:TE):TI:=fun σ H R=>tl σ H fun x H1=>∃ a,x=.ref a/\(∃ xs,SqL K H1 a xs)/\R (Itl K a) H1
theorem oI {l:Expr} {tl:TE} (hl:PE X l tl):PI X tg l (iList X.K tl):=by
 intro pins s σ H R I h
 refine thn (hl pins s σ H _ I h) fun v s1 ⟨x,H1,I1,r1,q1⟩=>?_
 obtain ⟨a,e,⟨xs,hq⟩,q⟩:=q1
 subst e
 cases r1
 obtain ⟨its,rv,p,hz⟩:=I1.list hq
 refine adk p.isList ?_
 refine ⟨s1.heap.objs.size,[s1.heap.objs.size],_,_,H1,rfl,I1.kept (t':=s1.toks) fun b o e=>aac _ e,ll a _,⟨_,aai _ rfl,rfl,rfl⟩,fun b hb=>?_,q⟩
 have e:b=s1.heap.objs.size:=by simpa using hb
 subst e
 exact I1.fpOk (aaj _) (I1.hok.fresh (aaj _))
theorem r9 {pins:List (Addr×Obj)} {σ:St} {H:Hp} {s:Shared} {R:It->Hp->Prop} {E:Value->Shared->Prop} {lo hi:Int} {t u v:Tok} {tk:Nat} (I:Inv X pins σ H s) (h1 : -(2 ^ 62)<=lo) (h2:lo<2 ^ 62) (h3 : -(2 ^ 62)<=hi) (h4:hi<2 ^ 62)
  (q:R (Itr lo (hi - lo).toNat) H):wpAny (model X.prog X.w) X.A (pyIter (.ref s.heap.objs.size)) (PIE X pins σ tg R) E { s with heap:=s.heap.push { cls:=.type "range",data:=.fields #[.int lo t,.int hi u,.int 1 v] },toks:=tk }:=by
 refine wpAny_pyIter_range (IsRange.new ..) (small_one h1 h2 h3 h4) ?_
 have I1:Inv X pins σ H { s with heap:=s.heap.push { cls:=.type "range",data:=.fields #[.int lo t,.int hi u,.int 1 v] },toks:=tk }:=I.kept fun b o e=>aac _ e
 refine ⟨(s.heap.push { cls:=.type "range",data:=.fields #[.int lo t,.int hi u,.int 1 v] }).objs.size,[(s.heap.push { cls:=.type "range",data:=.fields #[.int lo t,.int hi u,.int 1 v] }).objs.size],_,_,H,rfl,
  I1.kept (t':=tk) fun b o e=>aac _ e,pq _ lo (hi - lo).toNat,?_,fun b hb=>?_,q⟩
 ·have e1:lo+((0:Nat):Int)*1=lo:=by simp
  have e2:(((hi - lo).toNat:Nat):Int) - ((0:Nat):Int)=Builtin.Range.rangeSize lo hi 1:=by rw [rangeSize_one]; split <;> omega
  show IsRangeIter _ _ (lo+((0:Nat):Int)*1) ((((hi - lo).toNat:Nat):Int) - ((0:Nat):Int)) 1
  rw [e1,e2]
  exact aai _ rfl
 ·have e:b=(s.heap.push { cls:=.type "range",data:=.fields #[.int lo t,.int hi u,.int 1 v] }).objs.size:=by simpa using hb
  subst e
  exact I1.fpOk (aaj _) (I1.hok.fresh (aaj _))
noncomputable def iRng1 (ta:TA):TI:=fun σ H R=>ta σ H fun vs H1=>∃ j:Int,vs=[.int j] /\ -(2 ^ 62)<=j/\j<2 ^ 62/\R (Itr 0 j.toNat) H1
theorem qA {a:Expr} {ta:TA} {p pos:Pos} (hg:Gl X "range") (hm:X.mg "range" = none) (ha:PA X [a] ta) (hs:autoParam (aan [a] X.env=[(false,eval a X.env)]) Z2._auto_1):PI X tg (.Call (.Name "range" p) [a] [] pos) (iRng1 ta):=by
 intro pins s σ H R I h
 refine Call_ (gL I hg hm boot_range (ae5 (thn (ha pos pins s σ H _ I h) fun us s1 ⟨vs,H1,I1,r1,q1⟩=>?_) hs rfl))
 obtain ⟨j,e,q1,q2,q⟩:=q1
 subst e
 cases r1 with
 | cons r rr =>
  cases rr
  obtain ⟨t,rfl⟩:=r
  exact call_range_1 (r9 I1 (by omega) (by omega) q1 q2 (by simpa using q))
noncomputable def tFor (wi:TI) (g:TG) (tb:TS):TS:=fun D σ H=>wi σ H fun J H1=>∃ W:Nat->Nat->St->Hp->Prop,(∃ m,W 0 m σ H1)/\∀ i m σ H,W i m σ H ->
 (J.stop i H/\D.nx σ H)\/(J.go i H/\∃ N:St->Hp->Prop,(∀ σ' H',N σ' H'->∃ m',m'<m/\W (i+1) m' σ' H')/\∀ x H',J.yld i H x H'->g x σ H' fun σ2 H2=>tb { D with nx:=N,ct:=N,bk:=D.nx } σ2 H2)
noncomputable def pinsAt (fp:List Addr) (h:Heap):List (Addr×Obj):=fp.filterMap fun b=>(h.get? b).map fun o=>(b,o)
theorem b9 {fp:List Addr} {h:Heap} {b:Addr} {o:Obj} (hb:b∈fp) (e:h.get? b=some o):(b,o)∈pinsAt fp h:=List.mem_filterMap.mpr ⟨b,hb,by rw [e]; rfl⟩
theorem qL {fp:List Addr} {h:Heap} {p:Addr×Obj} (hp:p∈pinsAt fp h):p.1∈fp/\h.get? p.1=some p.2:=by
 obtain ⟨b,hb,e⟩:=List.mem_filterMap.mp hp
 cases q:h.get? b with
 | none=>rw [q] at e; cases e
 | some o =>
  rw [q] at e
  have e':(b,o)=p:=aar e
  subst e'
  exact ⟨hb,q⟩
theorem Inv.pinned {pins:List (Addr×Obj)} {σ:St} {H:Hp} {s:Shared} {fp:List Addr} (I:Inv X pins σ H s) (hf:∀ b∈fp,FpOk X pins H b) (ho:∀ b∈fp,∃ o,s.heap.get? b=some o/\∀ v,o.data≠.cell v):Inv X (pins++pinsAt fp s.heap) σ H s :=
 I.pins_of fun p hp=>(List.mem_append.mp hp).elim (fun z=>I.pin p (aaE _ z)) fun z=>by
  obtain ⟨hb,e⟩:=qL z
  obtain ⟨f0,f1,f2,_⟩:=hf p.1 hb
  obtain ⟨o,e',d⟩:=ho p.1 hb
  rw [e] at e'; cases e'
  exact ⟨e,f0,f1,f2,d⟩
theorem Inv.unpinned {pins pl:List (Addr×Obj)} {σ:St} {H:Hp} {s:Shared} (I:Inv X (pins++pl) σ H s):Inv X pins σ H s:=I.pins_of fun p hp=>I.pin p (aaE _ (adW _ hp))
theorem qx {iter:Expr} {body:List Stmt} {wi:TI} {g:TG} {tb:TS} {pos:Pos} (hp:PassesOwn (model X.prog X.w) X.A X.env X.xe) (hc:X.calm=true) (hi:PI X tg iter wi) (hg:PG X tg g) (hb:PSs X body tb)
  (hs:autoParam (∀ x,abb iter X.env x=pure x) Z3._auto_1):PS X (.For tg iter body [] pos) (tFor wi g tb):=by
 intro pins s σ H D I h
 refine wpAny_For (thn (hi pins s σ H _ I h) fun v s1 h1=>thn h1 fun itv s2 h2=>?_) hs
 obtain ⟨it,fp,tn,J,H2,e,I2,T,st2,f2,W,⟨m0,w0⟩,turn⟩:=h2
 subst e
 have stat:∀ {H':Hp},(∀ b∈fp,H' b=none)->∀ b∈fp,FpOk X pins H' b:=fun hn b hb=>⟨hn b hb,(f2 b hb).2⟩
 refine codeAny_forLoop_any (fun n s'=>∃ i σ' H',Inv X pins σ' H' s'/\tn i s'.heap/\(∀ b∈fp,H' b=none)/\W i n σ' H') ?_ m0 ⟨0,σ,H2,I2,st2,fun b hb=>(f2 b hb).1,w0⟩
 rintro n s3 ⟨i,σ3,H3,I3,st3,fr3,w3⟩
 rcases turn i n σ3 H3 w3 with ⟨stop,qn⟩ | ⟨go,N,hN,step⟩
 ·refine acb hp (thn (T.done X rfl rfl rfl hc i pins s3 σ3 H3 X.xe I3 (stat fr3) st3 stop) fun r s4 ⟨hr,I4⟩=>?_)
  subst hr
  exact adG ⟨σ3,H3,I4,qn⟩
 ·refine acb hp (thn (T.item X rfl rfl rfl hc i pins s3 σ3 H3 X.xe I3 (stat fr3) st3 go) fun r s4 ⟨u,hr,h4⟩=>?_)
  subst hr
  refine acb hp (thn h4 fun _ s5 ⟨x,H5,I5,r5,y5,st5,fr5⟩=>?_)
  have I5':=I5.pinned (stat fr5) (T.obj _ _ st5)
  refine acb hp (thn (hg _ s5 σ3 H5 x u _ I5' r5 (step x H5 y5)) fun _ s6 ⟨σ6,H6,I6,q6⟩=>?_)
  refine acb hp (thn (hb _ s6 σ6 H6 _ I6 q6) fun f s7 q7=>?_)
  have again:∀ {σ7:St} {H7:Hp},Inv X (pins++pinsAt fp s5.heap) σ7 H7 s7->N σ7 H7->∃ m,m<n/\∃ i σ' H',Inv X pins σ' H' s7/\tn i s7.heap/\(∀ b∈fp,H' b=none)/\W i m σ' H':=fun {σ7 H7} I7 n7=>by
   obtain ⟨m',hm,w7⟩:=hN σ7 H7 n7
   refine ⟨m',hm,i+1,σ7,H7,I7.unpinned,T.keep _ _ _ st5 fun b hb o e=>(I7.pin (b,o) (aaE _ (aaE _ (b9 hb e)))).1,fun b hb=>?_,w7⟩
   obtain ⟨o,e,d⟩:=T.obj _ _ st5 b hb
   exact (I7.pin (b,o) (aaE _ (aaE _ (b9 hb e)))).2.1
  cases f with
  | next=>obtain ⟨σ7,H7,I7,n7⟩:=q7; exact again I7 n7
  | cont=>obtain ⟨σ7,H7,I7,n7⟩:=q7; exact again I7 n7
  | brk=>obtain ⟨σ7,H7,I7,q7⟩:=q7; exact ⟨σ7,H7,I7.unpinned,q7⟩
  | ret v=>obtain ⟨x7,σ7,H7,I7,r7,q7⟩:=q7; exact ⟨x7,σ7,H7,I7.unpinned,r7,q7⟩
end
theorem sW {K:aad} {a:Addr} {xs:List V} {g:TG} {tb:TS} {D:Ends} {σ:St} {H:Hp} (Pv:Nat->St->Hp->Prop) (h0:Pv 0 σ H) (hl:∀ i σ H,i<=xs.length->Pv i σ H->SqL K H a xs)
  (hs:∀ i x σ H,xs[i]?=some x->Pv i σ H->g x σ H fun σ2 H2=>tb { D with nx:=Pv (i+1),ct:=Pv (i+1),bk:=D.nx } σ2 H2) (hd:∀ σ H,Pv xs.length σ H->D.nx σ H) :
  ∃ W:Nat->Nat->St->Hp->Prop,(∃ m,W 0 m σ H)/\∀ i m σ H,W i m σ H ->
   ((Itl K a).stop i H/\D.nx σ H)\/((Itl K a).go i H/\∃ N:St->Hp->Prop,(∀ σ' H',N σ' H'->∃ m',m'<m/\W (i+1) m' σ' H')/\∀ x H',(Itl K a).yld i H x H'->g x σ H' fun σ2 H2=>tb { D with nx:=N,ct:=N,bk:=D.nx } σ2 H2):=by
 refine ⟨fun i m σ H=>m=xs.length - i/\i<=xs.length/\Pv i σ H,⟨xs.length,by simp,abl _,h0⟩,?_⟩
 rintro i m σ H ⟨rfl,hi,p⟩
 have q:=hl i σ H hi p
 by_cases hlt:i<xs.length
 ·refine .inr ⟨⟨xs,xs[i],q,by simp [hlt]⟩,Pv (i+1),fun σ' H' p'=>⟨xs.length - (i+1),by omega,rfl,hlt,p'⟩,fun x H' y=>?_⟩
  obtain ⟨e,y⟩:=y
  subst e
  exact hs i x σ _ (y xs q) p
 ·have e:i=xs.length:=by omega
  subst e
  exact .inl ⟨⟨xs,q,aaj _⟩,hd σ H p⟩
end L2
namespace L2
open PySem PySem.Spec PyProof.Rows
noncomputable abbrev R2:=V->V->Hp->VK->Prop
noncomputable def OpR (X:Cx) (f:Value->Value->Sem Value) (r:R2):Prop :=
 ∀ (pins:List (Addr×Obj)) (s:Shared) (σ:St) (H:Hp) (x y:V) (v u:Value) (Q:VK),Inv X pins σ H s->RelV x v->RelV y u->r x y H Q ->
  wpAny (model X.prog X.w) X.A (f v u) (EP X pins σ Q) X.xe s
noncomputable def UnR (X:Cx) (f:Value->Sem Value) (r:V->Hp->VK->Prop):Prop :=
 ∀ (pins:List (Addr×Obj)) (s:Shared) (σ:St) (H:Hp) (x:V) (v:Value) (Q:VK),Inv X pins σ H s->RelV x v->r x H Q ->
  wpAny (model X.prog X.w) X.A (f v) (EP X pins σ Q) X.xe s
noncomputable def CallR (X:Cx) (f:Value) (r:List V->Hp->VK->Prop):Prop :=
 ∀ (pins:List (Addr×Obj)) (s:Shared) (σ:St) (H:Hp) (xs:List V) (us:List Value) (Q:VK),Inv X pins σ H s->Vals xs us->r xs H Q ->
  wpAny (model X.prog X.w) X.A (call f us) (EP X pins σ Q) X.xe s
noncomputable def TruR (X:Cx) (r:V->Hp->(Bool->Hp->Prop)->Prop):Prop :=
 ∀ (pins:List (Addr×Obj)) (s:Shared) (σ:St) (H:Hp) (x:V) (v:Value) (Q:Bool->Hp->Prop),Inv X pins σ H s->RelV x v->r x H Q ->
  wpAny (model X.prog X.w) X.A (truthy v) (TP X pins σ Q) X.xe s
noncomputable def tOp (r:R2) (ta tb:TE):TE:=fun σ H Q=>ta σ H fun x H1=>tb σ H1 fun y H2=>r x y H2 Q
noncomputable def tUn (r:V->Hp->VK->Prop) (ta:TE):TE:=fun σ H Q=>ta σ H fun x H1=>r x H1 Q
noncomputable def rI (C:Int->Int->Prop) (g:Int->Int->V):R2:=fun x y H Q=>∃ i j,x=.int i/\y=.int j/\C i j/\Q (g i j) H
noncomputable def rI0 (g:Int->Int->V):R2:=fun x y H Q=>∃ i j,x=.int i/\y=.int j/\Q (g i j) H
noncomputable def rU (g:Int->V):V->Hp->VK->Prop:=fun x H Q=>∃ i,x=.int i/\Q (g i) H
section
variable {X:Cx} {a b c:Expr} {ta tb tc:TE} {pos:Pos}
theorem binT (ha:PE X a ta) (hb:PE X b tb) {pins:List (Addr×Obj)} {s:Shared} {σ:St} {H:Hp} {R:V->V->Hp->Prop} (I:Inv X pins σ H s)
  (h:ta σ H fun x H1=>tb σ H1 fun y H2=>R x y H2) {Q:Value->Shared->Prop} {f:Value->Value->Sem Value}
  (hf:∀ v u s2 x y H2,Inv X pins σ H2 s2->RelV x v->RelV y u->R x y H2->wpAny (model X.prog X.w) X.A (f v u) Q X.xe s2) :
  wpAny (model X.prog X.w) X.A (eval a X.env) (fun v s₁=>wpAny (model X.prog X.w) X.A (eval b X.env) (fun u s₂=>wpAny (model X.prog X.w) X.A (f v u) Q X.xe s₂) X.xe s₁) X.xe s:=by
 refine thn (ha pins s σ H _ I h) fun v s1 ⟨x,H1,I1,r1,q1⟩=>?_
 refine thn (hb pins s1 σ H1 _ I1 q1) fun u s2 ⟨y,H2,I2,r2,q2⟩=>?_
 exact hf v u s2 x y H2 I2 r1 r2 q2
theorem bv {op:Operator} {r:R2} (ho:OpR X (ab2 op) r) (ha:PE X a ta) (hb:PE X b tb):PE X (.BinOp a op b pos) (tOp r ta tb):=by
 intro pins s σ H Q I h
 exact wpAny_BinOp (binT ha hb I h fun v u s2 x y H2 I2 rx ry q=>ho pins s2 σ H2 x y v u Q I2 rx ry q)
theorem xr {op:UnaryOp} {r:V->Hp->VK->Prop} (ho:UnR X (unaryOp op) r) (ha:PE X a ta):PE X (.UnaryOp op a pos) (tUn r ta):=by
 intro pins s σ H Q I h
 exact UnaryOp_ (thn (ha pins s σ H _ I h) fun v s1 ⟨x,H1,I1,r1,q1⟩=>ho pins s1 σ H1 x v Q I1 r1 q1)
theorem opI {f:Value->Value->Sem Value} {C:Int->Int->Prop} {g:Int->Int->Int}
  (rule:∀ (i j:Int) (t u:Tok) (s:Shared) (Q:Value->Shared->Prop) (E:Value->Shared->Prop),C i j->Q (.int (g i j) s.toks) { s with toks:=s.toks+1 }->wpAny (model X.prog X.w) X.A (f (.int i t) (.int j u)) Q E s) :
  OpR X f (rI C fun i j=>.int (g i j)):=by
 intro pins s σ H x y v u Q I rx ry h
 obtain ⟨i,j,rfl,rfl,hc,q⟩:=h
 obtain ⟨t,rfl⟩:=rx
 obtain ⟨t',rfl⟩:=ry
 exact rule i j t t' s _ _ hc ⟨.int (g i j),H,I.tok _,⟨_,rfl⟩,q⟩
theorem opI0 {f:Value->Value->Sem Value} {g:Int->Int->Int}
  (rule:∀ (i j:Int) (t u:Tok) (s:Shared) (Q:Value->Shared->Prop) (E:Value->Shared->Prop),Q (.int (g i j) s.toks) { s with toks:=s.toks+1 }->wpAny (model X.prog X.w) X.A (f (.int i t) (.int j u)) Q E s) :
  OpR X f (rI0 fun i j=>.int (g i j)):=by
 intro pins s σ H x y v u Q I rx ry h
 obtain ⟨i,j,rfl,rfl,q⟩:=h
 obtain ⟨t,rfl⟩:=rx
 obtain ⟨t',rfl⟩:=ry
 exact rule i j t t' s _ _ ⟨.int (g i j),H,I.tok _,⟨_,rfl⟩,q⟩
theorem opB0 {f:Value->Value->Sem Value} {g:Int->Int->Bool}
  (rule:∀ (i j:Int) (t u:Tok) (s:Shared) (Q:Value->Shared->Prop) (E:Value->Shared->Prop),Q (.bool (g i j)) s->wpAny (model X.prog X.w) X.A (f (.int i t) (.int j u)) Q E s) :
  OpR X f (rI0 fun i j=>.bl (g i j)):=by
 intro pins s σ H x y v u Q I rx ry h
 obtain ⟨i,j,rfl,rfl,q⟩:=h
 obtain ⟨t,rfl⟩:=rx
 obtain ⟨t',rfl⟩:=ry
 exact rule i j t t' s _ _ ⟨.bl (g i j),H,I,rfl,q⟩
noncomputable def CDiv (i j:Int):Prop:=0<j/\j<1073741824
noncomputable def CPow (i j:Int):Prop:=0<=j/\j<=1000000/\i.natAbs<2 ^ 64
noncomputable def CMul (i j:Int):Prop:=(-(2 ^ 64)<i/\i<2 ^ 64)\/(-(2 ^ 64)<j/\j<2 ^ 64)
theorem CMul.ok {i j:Int} (h:CMul i j):IntMulOk i j:=by
 rcases h with ⟨h1,h2⟩ | ⟨h1,h2⟩
 ·exact .of_left (intBits_le_64 h1 h2)
 ·exact .of_right (intBits_le_64 h1 h2)
theorem gK:OpR X (ab2 .Add) (rI0 fun i j=>.int (i+j)):=opI0 fun _ _ _ _ _ _ _ q=>add_int q
theorem wq:OpR X (ab2 .Sub) (rI0 fun i j=>.int (i - j)):=opI0 fun _ _ _ _ _ _ _ q=>sub_int q
theorem jM:OpR X (ab2 .Mult) (rI CMul fun i j=>.int (i*j)):=opI fun _ _ _ _ _ _ _ hc q=>mul_int q hc.ok
theorem kA:OpR X (ab2 .FloorDiv) (rI CDiv fun i j=>.int (i / j)):=opI fun i j _ _ _ _ _ hc q=>by
 have h1:(0:Int)<j:=hc.1
 have h2:j<1073741824:=hc.2
 exact floordiv_int (by omega) (by rw [Int.fdiv_eq_ediv_of_nonneg i (by omega)]; exact q) (.inl (PyProof.noPylong_small (by omega)))
theorem eg:OpR X (ab2 .Mod) (rI (fun _ j=>0<j) fun i j=>.int (i % j)):=opI fun i j _ _ _ _ _ hc q=>by
 have h1:(0:Int)<j:=hc
 exact mod_int' (by omega) (by rw [Int.fmod_eq_emod_of_nonneg i (by omega)]; exact q)
theorem mT:OpR X (ab2 .Pow) (rI CPow fun i j=>.int (i ^ j.toNat)):=opI fun _ _ _ _ _ _ _ hc q=>pow_int_small hc.1 hc.2.1 hc.2.2 q
theorem unI {f:Value->Sem Value} {g:Int->Int}
  (rule:∀ (i:Int) (t:Tok) (s:Shared) (Q:Value->Shared->Prop) (E:Value->Shared->Prop),Q (.int (g i) s.toks) { s with toks:=s.toks+1 }->wpAny (model X.prog X.w) X.A (f (.int i t)) Q E s) :
  UnR X f (rU fun i=>.int (g i)):=by
 intro pins s σ H x v Q I rx h
 obtain ⟨i,rfl,q⟩:=h
 obtain ⟨t,rfl⟩:=rx
 exact rule i t s _ _ ⟨.int (g i),H,I.tok _,⟨_,rfl⟩,q⟩
theorem vI:UnR X (unaryOp .USub) (rU fun i=>.int (-i)):=unI fun _ _ _ _ _ q=>neg_int q
end
noncomputable def scal:V->V->Bool
 | .non,.non=>true | .non,.int _=>true | .int _,.non=>true | .non,.bl _=>true | .bl _,.non=>true | .non,.str _=>true | .str _,.non=>true
 | .int _,.int _=>true | .bl _,.bl _=>true | .str _,.str _=>true | .byt _,.byt _=>true
 | .int _,.str _=>true | .str _,.int _=>true | .bl _,.str _=>true | .str _,.bl _=>true
 | _,_=>false
noncomputable def rEq:R2:=fun x y H Q=>scal x y=true/\Q (.bl (decide (x=y))) H
noncomputable def rNe:R2:=fun x y H Q=>scal x y=true/\Q (.bl (!decide (x=y))) H
theorem o7 {i j:Int}:decide (V.int i=V.int j)=(i==j):=by
 rw [abz]
 simp
theorem rF {i j:Bool}:decide (V.bl i=V.bl j)=(i==j):=by
 rw [abz]
 simp
theorem o6 {i j:Str}:decide (V.str i=V.str j)=(i==j):=by
 rw [abz]
 simp
theorem o8 {i j:Array UInt8}:decide (V.byt i=V.byt j)=(i.toList==j.toList):=by
 rw [abz]
 cases i
 cases j
 simp
section
variable {X:Cx} {a b c:Expr} {ta tb tc:TE} {pos:Pos}
theorem aI {pins:List (Addr×Obj)} {σ:St} {H:Hp} {s:Shared} {Q:VK} {k k':Bool} (I:Inv X pins σ H s) (q:Q (.bl k) H) (e:k=k'):EP X pins σ Q (.bool k') s:=by
 subst e
 exact ⟨.bl k,H,I,rfl,q⟩
theorem xA:OpR X (aaS .Eq) rEq:=by
 intro pins s σ H x y v u Q I rx ry h
 obtain ⟨hs,q⟩:=h
 cases x with
 | non =>
  cases rx
  cases y with
  | non=>cases ry; exact PySem.EqNone.eq_none_none (aI I q (by simp))
  | bl j=>cases ry; exact PySem.EqNone.eq_none_bool (aI I q (by simp))
  | int j=>obtain ⟨t',rfl⟩:=ry; exact PySem.EqNone.eq_none_int (aI I q (by simp))
  | str j=>obtain ⟨t',rfl⟩:=ry; exact PySem.EqNone.eq_none_str (aI I q (by simp))
  | _=>exact absurd (show false=true from hs) aay
 | bl i =>
  cases rx
  cases y with
  | non=>cases ry; exact PySem.EqNone.eq_bool_none (aI I q (by simp))
  | bl j=>cases ry; exact eq_bool (aI I q rF)
  | str j=>obtain ⟨t',rfl⟩:=ry; exact PySem.EqMixed.eq_bool_str (aI I q (by simp))
  | _=>exact absurd (show false=true from hs) aay
 | int i =>
  obtain ⟨t,rfl⟩:=rx
  cases y with
  | non=>cases ry; exact PySem.EqNone.eq_int_none (aI I q (by simp))
  | int j=>obtain ⟨t',rfl⟩:=ry; exact eq_int (aI I q o7)
  | str j=>obtain ⟨t',rfl⟩:=ry; exact PySem.EqMixed.eq_int_str (aI I q (by simp))
  | _=>exact absurd (show false=true from hs) aay
 | str i =>
  obtain ⟨t,rfl⟩:=rx
  cases y with
  | non=>cases ry; exact PySem.EqNone.eq_str_none (aI I q (by simp))
  | bl j=>cases ry; exact PySem.EqMixed.eq_str_bool (aI I q (by simp))
  | int j=>obtain ⟨t',rfl⟩:=ry; exact PySem.EqMixed.eq_str_int (aI I q (by simp))
  | str j=>obtain ⟨t',rfl⟩:=ry; exact eq_str (aI I q o6)
  | _=>exact absurd (show false=true from hs) aay
 | byt i =>
  obtain ⟨t,rfl⟩:=rx
  cases y with
  | byt j=>obtain ⟨t',rfl⟩:=ry; exact PySem.W.eq_bytes (aI I q o8)
  | _=>exact absurd (show false=true from hs) aay
 | _=>cases y <;> exact absurd (show false=true from hs) aay
theorem xv:OpR X (aaS .NotEq) rNe:=by
 intro pins s σ H x y v u Q I rx ry h
 obtain ⟨hs,q⟩:=h
 cases x with
 | non =>
  cases rx
  cases y with
  | non=>cases ry; exact PySem.EqNone.ne_none_none (aI I q (by simp))
  | bl j=>cases ry; exact PySem.EqNone.ne_none_bool (aI I q (by simp))
  | int j=>obtain ⟨t',rfl⟩:=ry; exact PySem.EqNone.ne_none_int (aI I q (by simp))
  | str j=>obtain ⟨t',rfl⟩:=ry; exact PySem.EqNone.ne_none_str (aI I q (by simp))
  | _=>exact absurd (show false=true from hs) aay
 | bl i =>
  cases rx
  cases y with
  | non=>cases ry; exact PySem.EqNone.ne_bool_none (aI I q (by simp))
  | bl j=>cases ry; exact ne_bool (aI I q (congrArg not rF))
  | str j=>obtain ⟨t',rfl⟩:=ry; exact PySem.EqMixed.ne_bool_str (aI I q (by simp))
  | _=>exact absurd (show false=true from hs) aay
 | int i =>
  obtain ⟨t,rfl⟩:=rx
  cases y with
  | non=>cases ry; exact PySem.EqNone.ne_int_none (aI I q (by simp))
  | int j=>obtain ⟨t',rfl⟩:=ry; exact ne_int (aI I q (congrArg not o7))
  | str j=>obtain ⟨t',rfl⟩:=ry; exact PySem.EqMixed.ne_int_str (aI I q (by simp))
  | _=>exact absurd (show false=true from hs) aay
 | str i =>
  obtain ⟨t,rfl⟩:=rx
  cases y with
  | non=>cases ry; exact PySem.EqNone.ne_str_none (aI I q (by simp))
  | bl j=>cases ry; exact PySem.EqMixed.ne_str_bool (aI I q (by simp))
  | int j=>obtain ⟨t',rfl⟩:=ry; exact PySem.EqMixed.ne_str_int (aI I q (by simp))
  | str j=>obtain ⟨t',rfl⟩:=ry; exact ne_str (aI I q (congrArg not o6))
  | _=>exact absurd (show false=true from hs) aay
 | byt i =>
  obtain ⟨t,rfl⟩:=rx
  cases y with
  | byt j=>obtain ⟨t',rfl⟩:=ry; exact PySem.W.ne_bytes (aI I q (congrArg not o8))
  | _=>exact absurd (show false=true from hs) aay
 | _=>cases y <;> exact absurd (show false=true from hs) aay
theorem xw:OpR X (aaS .Lt) (rI0 fun i j=>.bl (decide (i<j))):=opB0 fun _ _ _ _ _ _ _ q=>lt_int q
theorem xx:OpR X (aaS .LtE) (rI0 fun i j=>.bl (decide (i<=j))):=opB0 fun _ _ _ _ _ _ _ q=>le_int q
theorem mq:OpR X (aaS .Gt) (rI0 fun i j=>.bl (decide (j<i))):=opB0 fun _ _ _ _ _ _ _ q=>gt_int q
theorem xz:OpR X (aaS .GtE) (rI0 fun i j=>.bl (decide (j<=i))):=opB0 fun _ _ _ _ _ _ _ q=>ge_int q
theorem qI:OpR X (aaS .Lt) (fun x y H Q=>∃ i j,x=.str i/\y=.str j/\Q (.bl (decide (i.cps.toList<j.cps.toList))) H):=by
 intro pins s σ H x y v u Q I rx ry h
 obtain ⟨i,j,rfl,rfl,q⟩:=h
 obtain ⟨t,rfl⟩:=rx
 obtain ⟨t',rfl⟩:=ry
 exact lt_str (aI I q rfl)
theorem qK:OpR X (aaS .In) (fun x y H Q=>∃ i j,x=.str i/\y=.str j/\Q (.bl (!(acH j i 0 j.length 1).isEmpty)) H):=by
 intro pins s σ H x y v u Q I rx ry h
 obtain ⟨i,j,rfl,rfl,q⟩:=h
 obtain ⟨t,rfl⟩:=rx
 obtain ⟨t',rfl⟩:=ry
 exact in_str (aI I q rfl)
theorem nomark (b:Expr) {op:CmpOp} (h:autoParam (op≠.In) Z1._auto_1) (h2:autoParam (op≠.NotIn) Z1._auto_1):acV op b=false:=by
 have e1:(op==CmpOp.In)=false:=by cases op <;> first | rfl | exact absurd rfl h
 have e2:(op==CmpOp.NotIn)=false:=by cases op <;> first | rfl | exact absurd rfl h2
 cases b <;> simp [acV,e1,e2]
theorem oK {op:CmpOp} {r:R2} (ho:OpR X (aaS op) r) (ha:PE X a ta) (hb:PE X b tb) (hm:acV op b=false):PE X (.Compare a [op] [b] pos) (tOp r ta tb):=by
 intro pins s σ H Q I h
 exact wpAny_Compare1 (binT ha hb I h fun v u s2 x y H2 I2 rx ry q=>ho pins s2 σ H2 x y v u Q I2 rx ry q) hm
noncomputable def tTest (t:TE):TT:=fun σ H Q=>t σ H fun x H'=>∃ k,x=.bl k/\Q k H'
theorem fA {op:CmpOp} {r:R2} (ho:OpR X (aaS op) r) (ha:PE X a ta) (hb:PE X b tb) (hm:acV op b=false):PT X (.Compare a [op] [b] pos) (tTest (tOp r ta tb)):=by
 intro pins s σ H Q I h
 refine wpAny_isTrue_Compare1 (thn (ha pins s σ H _ I h) fun v s1 ⟨x,H1,I1,r1,q1⟩=>thn (hb pins s1 σ H1 _ I1 q1) fun u s2 ⟨y,H2,I2,r2,q2⟩ =>
  thn (ho pins s2 σ H2 x y v u _ I2 r1 r2 q2) fun c s3 ⟨z,H3,I3,r3,k,e,q3⟩=>?_) hm
 subst e
 cases r3
 exact abJ ⟨H3,I3,q3⟩
noncomputable def tChain (r r':R2) (ta tb tc:TE):TE:=fun σ H Q=>ta σ H fun x H1=>tb σ H1 fun y H2=>r x y H2 fun z H3=>∃ k,z=.bl k /\
 (if k=true then tc σ H3 fun w' H4=>r' y w' H4 Q else Q (.bl false) H3)
theorem sx {op op':CmpOp} {r r':R2} (ho:OpR X (aaS op) r) (ho':OpR X (aaS op') r') (ha:PE X a ta) (hb:PE X b tb) (hc:PE X c tc)
  (hm:autoParam (lastMarks [op,op'] [b,c]=false) Z4._auto_1):PE X (.Compare a [op,op'] [b,c] pos) (tChain r r' ta tb tc):=by
 intro pins s σ H Q I h
 refine Compare_chain (thn (ha pins s σ H _ I h) fun v s1 ⟨x,H1,I1,r1,q1⟩=>chain_link (thn (hb pins s1 σ H1 _ I1 q1) fun u s2 ⟨y,H2,I2,r2,q2⟩ =>
  thn (ho pins s2 σ H2 x y v u _ I2 r1 r2 q2) fun d s3 ⟨z,H3,I3,r3,k,e,q3⟩=>?_)) hm
 subst e
 cases r3
 refine abJ ?_
 cases k with
 | false=>exact ite_ff ⟨.bl false,H3,I3,rfl,q3⟩
 | true=>exact ite_tt (chain_last (thn (hc pins s3 σ H3 _ I3 q3) fun w' s4 ⟨z',H4,I4,r4,q4⟩=>ho' pins s4 σ H4 y z' u w' Q I4 r2 r4 q4))
theorem si {op op':CmpOp} {r r':R2} (ho:OpR X (aaS op) r) (ho':OpR X (aaS op') r') (ha:PE X a ta) (hb:PE X b tb) (hc:PE X c tc)
  (hm:autoParam (lastMarks [op,op'] [b,c]=false) Z4._auto_1):PT X (.Compare a [op,op'] [b,c] pos) (tTest (tChain r r' ta tb tc)):=by
 intro pins s σ H Q I h
 refine isTrue_chain (thn (ha pins s σ H _ I h) fun v s1 ⟨x,H1,I1,r1,q1⟩=>test_link (thn (hb pins s1 σ H1 _ I1 q1) fun u s2 ⟨y,H2,I2,r2,q2⟩ =>
  thn (ho pins s2 σ H2 x y v u _ I2 r1 r2 q2) fun d s3 ⟨z,H3,I3,r3,k,e,q3⟩=>?_)) hm
 subst e
 cases r3
 refine abJ ?_
 cases k with
 | false =>
  obtain ⟨k',e',q'⟩:=q3
  cases e'
  exact ite_ff ⟨H3,I3,q'⟩
 | true =>
  refine ite_tt (test_last (thn (hc pins s3 σ H3 _ I3 q3) fun w' s4 ⟨z',H4,I4,r4,q4⟩=>thn (ho' pins s4 σ H4 y z' u w' _ I4 r2 r4 q4) fun d' s5 ⟨z2,H5,I5,r5,k2,e2,q5⟩=>?_))
  subst e2
  cases r5
  exact abJ ⟨H5,I5,q5⟩
noncomputable def TruV (K:aad) (x:V) (H:Hp) (k:Bool):Prop :=
 match x with
 | .non=>k=false
 | .bl b=>k=b
 | .int i=>k=(i != 0)
 | .str y=>y.length<=sizeLine/\k=((y.length:Int) != 0)
 | .byt y=>y.size<=sizeLine/\k=((y.size:Int) != 0)
 | .ref p=>(∃ xs,SqL K H p xs/\k=!xs.isEmpty)\/(∃ xs,SqT K H p xs/\k=!xs.isEmpty)\/∃ kvs,H p=some (.dK kvs)/\k=!kvs.isEmpty
 | _=>False
theorem pN {κ:Type} {kvs:List (κ×V)} {vs:List (κ×Value)} (r:KV kvs vs):(!vs.isEmpty)=!kvs.isEmpty:=by
 cases r <;> rfl
theorem jS {xs:List V} {its:List Value} (r:Vals xs its):(!its.toArray.isEmpty)=!xs.isEmpty:=by
 cases r <;> simp
theorem line63:(sizeLine:Nat)<2 ^ 63:=by rw [aaA]; decide
theorem vL:TruR X (fun x H Q=>∃ k,TruV X.K x H k/\Q k H):=by
 intro pins s σ H x v Q I rx h
 obtain ⟨k,e,q⟩:=h
 have hl:=line63
 have hs:sizeLine=16777216:=aaA
 cases x with
 | non =>
  cases rx
  have e':k=false:=e
  subst e'
  exact truthy_none ⟨H,I,q⟩
 | bl b =>
  cases rx
  have e':k=b:=e
  subst e'
  exact abJ ⟨H,I,q⟩
 | int i =>
  obtain ⟨t,rfl⟩:=rx
  have e':k=(i != 0):=e
  subst e'
  exact PySem.P.truthy_int ⟨H,I,q⟩
 | str y =>
  obtain ⟨t,rfl⟩:=rx
  obtain ⟨hy,e'⟩:y.length<=sizeLine/\k=((y.length:Int) != 0):=e
  subst e'
  exact PySem.P.truthy_str (by omega) ⟨H,I.tok _,q⟩
 | byt y =>
  obtain ⟨t,rfl⟩:=rx
  obtain ⟨hy,e'⟩:y.size<=sizeLine/\k=((y.size:Int) != 0):=e
  subst e'
  exact PySem.W.truthy_bytes (by omega) ⟨H,I.tok _,q⟩
 | ref p =>
  cases rx
  have e':(∃ xs,SqL X.K H p xs/\k=!xs.isEmpty)\/(∃ xs,SqT X.K H p xs/\k=!xs.isEmpty)\/∃ kvs,H p=some (.dK kvs)/\k=!kvs.isEmpty:=e
  rcases e' with ⟨xs,hx,e'⟩ | ⟨xs,hx,e'⟩ | ⟨kvs,hx,e'⟩
  ·subst e'
   obtain ⟨its,r,pl,hz⟩:=I.list hx
   have hlen:=r.length
   exact wpAny_truthy_list pl.isList (by simp only [aaf]; omega) ⟨H,I.tok _,by rw [jS r]; exact q⟩
  ·subst e'
   obtain ⟨its,r,pl,hz⟩:=I.tuple hx
   have hlen:=r.length
   exact truthy_tuple pl (by simp only [aaf]; omega) ⟨H,I.tok _,by rw [jS r]; exact q⟩
  ·subst e'
   obtain ⟨hz,hS,vs,r,m⟩:kvs.length<=sizeLine/\(p==ach)=false/\∃ vs,KV kvs vs/\s.heap.DictOf (aR X.prog X.w) p vs:=I.hok p _ hx
   have hlen:kvs.length=vs.length:=Paired.length r
   exact wpAny_truthy_dict hS m (by omega) ⟨H,I.tok _,by rw [pN r]; exact q⟩
 | _=>exact (show False from e).elim
theorem sh (ha:PE X a ta) (he:∀ whole,isTrue a X.env whole=(do let v <- whole; standAt a.pos; aeZ [v] (truthy v))) :
  PT X a (fun σ H Q=>ta σ H fun x H'=>∃ k,TruV X.K x H' k/\Q k H'):=by
 intro pins s σ H Q I h
 exact isTrue_plain (thn (ha pins s σ H _ I h) fun v s1 ⟨x,H1,I1,r1,q1⟩=>vL pins s1 σ H1 x v Q I1 r1 q1) (he _)
theorem pJ:OpR X (ab2 .Add) (fun x y H Q=>∃ i j,x=.str i/\y=.str j/\i.length+j.length<=sizeLine/\Q (.str (i++j)) H):=by
 intro pins s σ H x y v u Q I rx ry h
 obtain ⟨i,j,rfl,rfl,hz,q⟩:=h
 obtain ⟨t,rfl⟩:=rx
 obtain ⟨t',rfl⟩:=ry
 exact add_str (fun t' tk=>⟨.str (i++j),H,I.tok _,⟨_,rfl⟩,q⟩) hz
theorem vals1 {x:V} {us:List Value} (r:Vals [x] us):∃ u,us=[u]/\RelV x u:=by
 cases r with
 | cons r1 r2=>cases r2; exact ⟨_,rfl,r1⟩
theorem vals2 {x y:V} {us:List Value} (r:Vals [x,y] us):∃ u w',us=[u,w']/\RelV x u/\RelV y w':=by
 cases r with
 | cons r1 r2 =>
  cases r2 with
  | cons r3 r4=>cases r4; exact ⟨_,_,rfl,r1,r3⟩
theorem nI:CallR X (.builtin "abs") (fun xs H Q=>∃ i,xs=[.int i]/\Q (.int (if i<0 then -i else i)) H):=by
 intro pins s σ H xs us Q I r h
 obtain ⟨i,rfl,q⟩:=h
 obtain ⟨u,rfl,t,rfl⟩:=vals1 r
 exact call_abs_int fun u tk=>⟨.int (if i<0 then -i else i),H,I.tok _,⟨_,rfl⟩,q⟩
theorem rL (hc:X.calm=true):CallR X (.builtin "max") (fun xs H Q=>∃ i j,xs=[.int i,.int j]/\Q (.int (if j > i then j else i)) H):=by
 intro pins s σ H xs us Q I r h
 obtain ⟨i,j,rfl,q⟩:=h
 obtain ⟨u,w',rfl,⟨t,rfl⟩,⟨t',rfl⟩⟩:=vals2 r
 refine max_two_ints (I.ok.hd hc) fun h' tk k=>⟨_,H,I.kept k,?_,q⟩
 by_cases hj:j > i
 ·rw [if_pos hj,if_pos hj]; exact ⟨_,rfl⟩
 ·rw [if_neg hj,if_neg hj]; exact ⟨_,rfl⟩
theorem rK (hc:X.calm=true):CallR X (.builtin "min") (fun xs H Q=>∃ i j,xs=[.int i,.int j]/\Q (.int (if j<i then j else i)) H):=by
 intro pins s σ H xs us Q I r h
 obtain ⟨i,j,rfl,q⟩:=h
 obtain ⟨u,w',rfl,⟨t,rfl⟩,⟨t',rfl⟩⟩:=vals2 r
 refine min_two_ints (I.ok.hd hc) fun h' tk k=>⟨_,H,I.kept k,?_,q⟩
 by_cases hj:j<i
 ·rw [if_pos hj,if_pos hj]; exact ⟨_,rfl⟩
 ·rw [if_neg hj,if_neg hj]; exact ⟨_,rfl⟩
end
end L2
namespace L2
open PySem PySem.Spec PyProof.Rows
structure ObjM (h:Heap) (x dx C:Addr) (mA:Str->Option Value):Prop where
 obj:h.get? x=some (ae3 C dx)
 ns:h.Ns1 dx mA
 ne:dx≠x
theorem qO {h:Heap} {dx:Addr} {mA:Str->Option Value} (n:h.Ns1 dx mA):∃ od,h.get? dx=some od/\∀ name,aff name od=some (mA name):=by
 obtain ⟨o,es,ep,ho,hd,hk,_,hm⟩:=n
 refine ⟨o,ho,fun name=>?_⟩
 have e:=hm name
 unfold nsFind findBy at e
 rw [<- Array.find?_toList] at e
 unfold aff
 rw [hd]
 dsimp only
 split
 ·rename_i y q
  rw [q] at e
  exact congrArg some e
 ·rename_i q
  rw [q] at e
  have a:es.toList.any (·.refKey)=false:=by
   rw [List.any_eq_false]
   intro y hy
   obtain ⟨z,t,hkey⟩:=hk y (Array.mem_toList_iff.mp hy)
   simp [DictEntry.refKey,hkey]
  have a':¬ es.toList.any (·.refKey)=true:=by rw [a]; exact aay
  rw [if_neg a']
  exact congrArg some e
theorem ObjM.look {h:Heap} {x dx C:Addr} {mA:Str->Option Value} (I:ObjM h x dx C mA):∃ od,PySem.W.InstAt h x (ae3 C dx) C (some od)/\∀ name,aff name od=some (mA name) :=
 let ⟨od,ho,hl⟩:=qO I.ns
 ⟨od,⟨I.obj,rfl,rfl,ho⟩,hl⟩
section
variable {prog:aaq} {w:World} {A:Around} {E:Value->Shared->Prop} {s:Shared} {K:aad} {x dx C f:Addr} {mA:Str->Option Value} {name:Str} {v:Value}
end
theorem RelO.some_of {v:V} {o:Option Value} (r:RelO (some v) o):∃ u,o=some u/\RelV v u:=by
 cases o with
 | none=>exact (show False from r).elim
 | some u=>exact ⟨u,rfl,r⟩
section
variable {P:aaq} {w:World} {H H':Hp} {h h':Heap} {a C dx:Addr} {fs fs':List (Str×V)}
theorem u4 (hok:HOk P w H h) (e:H a=some (.ins C dx fs)):∃ mA,ObjM h a dx C mA/\(∀ f,RelO (fs.lookup f) (mA f))/\PySem.Within mA (fs.map (·.1))/\fs.length<=1000/\H dx=some (.own a):=by
 obtain ⟨d,z,ne,ob,mA,n,r,q⟩:=(show ObjOk P w H h a (.ins C dx fs) from hok a _ e)
 exact ⟨mA,⟨ob,n,ne⟩,r,q,z,d⟩
end
structure Cls (K:aad) (C:Addr):Prop where
 pg:PySem.W.plainGet K C Str.empty=true
 hd:PySem.W.hasDictIn K C=true
 po:PySem.W.plainOver K C=true
 sa:PySem.W.findIn K (.ref C) "__setattr__" = some (some (.builtin "object.__setattr__"))
theorem Cls.get {K:aad} {C:Addr} (c:Cls K C) (f:Str):PySem.W.plainGet K C f=true:=c.pg
section
variable {X:Cx} {pins:List (Addr×Obj)} {σ:St} {H:Hp} {s:Shared} {a C dx:Addr} {fs:List (Str×V)} {f:Str} {v:V} {A:Around} {E:Value->Shared->Prop}
end
section
variable {X:Cx} {o e value:Expr} {f:Str} {pos pos' tpos:Pos} {ta tv:TE}
end
section
variable {X:Cx} {pins:List (Addr×Obj)} {σ:St} {H:Hp} {s:Shared} {A:Around} {E:Value->Shared->Prop} {Q:Value->Shared->Prop} {c:Value} {b:Bool}
inductive TyOf (K:aad) (H:Hp):V->Value->Prop where
 | non:TyOf K H .non (.type "NoneType")
 | bl (x:Bool):TyOf K H (.bl x) (.type "bool")
 | int (i:Int):TyOf K H (.int i) (.type "int")
 | str (x:Str):TyOf K H (.str x) (.type "str")
 | flt (x:UInt64):TyOf K H (.flt x) (.type "float")
 | lst {a:Addr} {xs:List V} (e:H a=some (.lst xs)):TyOf K H (.ref a) (.type "list")
 | frz {a:Addr} {o:Obj} {xs:List V} (e:H a=some (.frz o (.lst xs))):TyOf K H (.ref a) (.type "list")
 | tup {a:Addr} {xs:List V} (e:H a=some (.tup xs)):TyOf K H (.ref a) (.type "tuple")
 | dK {a:Addr} {kvs:List (Key×V)} (e:H a=some (.dK kvs)):TyOf K H (.ref a) (.type "dict")
 | dT {a:Addr} {kvs:List (List Key×V)} (e:H a=some (.dT kvs)):TyOf K H (.ref a) (.type "dict")
 | ins {a C dx:Addr} {fs:List (Str×V)} (e:H a=some (.ins C dx fs)) (cl:Cls K C) (ha:PySem.W.findIn K (.ref C) "__class__" = some (some (.builtin "object.__class__")))
   (hn:PySem.W.specialIn K (.builtin "object.__class__") "__get__" = some (some (.builtin "getset_descriptor.__get__"))) (htk:PySem.W.takesIn K (.builtin "object.__class__")=some true)
   (hm:PySem.W.mroIn K C (.type "object")=some true):TyOf K H (.ref a) (.ref C)
theorem qW {x:V} {u t:Value} (I:Inv X pins σ H s) (rx:RelV x u) (ty:TyOf X.K H x t) (e:ad0 X.K t c=some b) (h:∀ tk,Q (.bool b) { s with toks:=tk }) :
  wpAny (model X.prog X.w) A (call (.builtin "isinstance") [u,c]) Q E s:=by
 cases ty with
 | non=>cases (show u=aa0 from rx); exact abo PySem.W.kitx_none I.kIn acX e (fun z=>nomatch z) h
 | bl y=>cases (show u=Value.bool y from rx); exact abo PySem.W.kitx_bool I.kIn acX e (fun z=>nomatch z) h
 | int i=>obtain ⟨t,q⟩:=(show ∃ t,u=Value.int i t from rx); cases q; exact abo PySem.W.kitx_int I.kIn acX e (fun z=>nomatch z) h
 | str y=>obtain ⟨t,q⟩:=(show ∃ t,u=ab9 y t from rx); cases q; exact abo PySem.W.kitx_str I.kIn acX e (fun z=>nomatch z) h
 | flt y=>obtain ⟨t,q⟩:=(show ∃ t,u=Value.float y t from rx); cases q; exact abo PySem.W.kitx_float I.kIn acX e (fun z=>nomatch z) h
 | @lst a xs ea =>
  cases (show u=aaH a from rx)
  obtain ⟨_,_,n,_,h1⟩:=(show ObjOk X.prog X.w H s.heap a (.lst xs) from I.hok a _ ea)
  exact abo PySem.W.kitx_list I.kIn ⟨_,h1,rfl⟩ e (fun z=>nomatch z) h
 | @frz a ob xs ea =>
  cases (show u=aaH a from rx)
  obtain ⟨_,_,_,n,_,h1⟩:=(show ObjOk X.prog X.w H s.heap a (.frz ob (.lst xs)) from I.hok a _ ea)
  exact abo PySem.W.kitx_list I.kIn ⟨_,h1,rfl⟩ e (fun z=>nomatch z) h
 | @tup a xs ea =>
  cases (show u=aaH a from rx)
  obtain ⟨_,_,_,p⟩:=(show ObjOk X.prog X.w H s.heap a (.tup xs) from I.hok a _ ea)
  obtain ⟨o,h1,h2,_⟩:=p
  exact abo PySem.W.kitx_tuple I.kIn ⟨o,h1,h2⟩ e (fun z=>nomatch z) h
 | @dK a kvs ea =>
  cases (show u=aaH a from rx)
  obtain ⟨_,_,vs,_,p⟩:=(show ObjOk X.prog X.w H s.heap a (.dK kvs) from I.hok a _ ea)
  obtain ⟨o,es,ep,h1,h2,_⟩:=p
  exact abo PySem.W.kitx_dict I.kIn ⟨o,h1,h2.1⟩ e (fun z=>nomatch z) h
 | @dT a kvs ea =>
  cases (show u=aaH a from rx)
  obtain ⟨_,_,xs,_,o,es,ep,h1,h2,_⟩:=(show ObjOk X.prog X.w H s.heap a (.dT kvs) from I.hok a _ ea)
  exact abo PySem.W.kitx_dict I.kIn ⟨o,h1,h2.1⟩ e (fun z=>nomatch z) h
 | @ins a C dx fs ea cl ha hn htk hm =>
  cases (show u=aaH a from rx)
  obtain ⟨mA,O,_⟩:=u4 I.hok ea
  obtain ⟨od,J,_⟩:=O.look
  exact abo (PySem.W.kitx_own (cl.get _) cl.hd ha hn htk hm) I.kIn J e (fun z=>nomatch z) h
end
end L2
namespace L2
open PySem PySem.Spec PyProof.Rows
structure Room (k:Nat) (A:Around):Prop where
 hd:A.handled=none
 dp:A.depth+3*k+5<recursionLimit
 un:A.units+16*k+200<cLine
 gd:A.guards=some []
theorem Room.mono {j k:Nat} {A:Around} (r:Room k A) (h:j<=k):Room j A:=⟨r.hd,by have:=r.dp; omega,by have:=r.un; omega,r.gd⟩
theorem Room.deeper {k:Nat} {A:Around} (r:Room (k+1) A) (env:Env):Room k (A.deeper env) :=
 ⟨r.hd,by have:=r.dp; show A.depth+1+3*k+5<_; omega,by have:=r.un; show A.units+3+16*k+200<_; omega,r.gd⟩
theorem Room.depth {k:Nat} {A:Around} (r:Room k A):A.depth<recursionLimit:=by have:=r.dp; omega
theorem Room.units0 {k:Nat} {A:Around} (r:Room k A):A.units<cLine:=by have:=r.un; omega
noncomputable def tNil:TA:=fun _ H Q=>Q [] H
noncomputable def tCons (ta:TE) (tr:TA):TA:=fun σ H Q=>ta σ H fun x H1=>tr σ H1 fun xs H2=>Q (x::xs) H2
section
variable {X:Cx} {e:Expr} {es:List Expr} {te:TE} {t:TA} {pos:Pos}
theorem bG:PA X [] tNil:=fun _ _ _ _ H Q I h=>Calls.spliced_nil ⟨[],H,I,.nil,h⟩
theorem bb (ha:PE X e te) (hr:PA X es t) (hs:autoParam (aan (e::es) X.env=(false,eval e X.env)::aan es X.env) Z2._auto_1):PA X (e::es) (tCons te t):=by
 intro pos pins s σ H Q I h
 rw [hs]
 show wpAny _ _ (spliced ((false,eval e X.env)::backTo pos (aan es X.env))) _ _ s
 refine Calls.spliced_cons (thn (ha pins s σ H _ I h) fun u s1 ⟨x,H1,I1,r1,q1⟩=>?_)
 exact thn (hr pos pins s1 σ H1 _ I1 q1) fun us s2 ⟨xs,H2,I2,r2,q2⟩=>⟨x::xs,H2,I2,.cons r1 r2,q2⟩
noncomputable def tTup (t:TA):TE:=fun σ H Q=>t σ H fun xs H1=>xs.length<=sizeLine/\∀ p,H1 p=none->Q (.ref p) (upd H1 p (.tup xs))
noncomputable def tLst (t:TA):TE:=fun σ H Q=>t σ H fun xs H1=>xs.length<=sizeLine/\∀ p,H1 p=none->Q (.ref p) (upd H1 p (.lst xs))
theorem wb {x1} (h:PA X es t):PE X (.Tuple es x1 pos) (tTup t):=by
 intro pins s σ H Q I hq
 refine wpAny_Tuple_spliced (thn (h pos pins s σ H _ I hq) fun us s1 ⟨xs,H1,I1,r,z,q⟩=>⟨by rw [<- r.length]; exact z,?_⟩)
 have hf:H1 s1.heap.objs.size=none:=I1.hok.fresh (aaj _)
 refine ⟨.ref s1.heap.objs.size,upd H1 s1.heap.objs.size (.tup xs),I1.laid (t':=s1.toks) (fun b u e=>aac _ e) (aaj _) ?_,rfl,q _ hf⟩
 exact ⟨z,us,r,⟨_,aai _ rfl,rfl,_,rfl⟩⟩
theorem jH (h:PA X es t):PE X (.List es pos) (tLst t):=by
 intro pins s σ H Q I hq
 refine wpAny_List_spliced (thn (h pos pins s σ H _ I hq) fun us s1 ⟨xs,H1,I1,r,z,q⟩=>⟨by rw [<- r.length]; exact z,?_⟩)
 have hf:H1 s1.heap.objs.size=none:=I1.hok.fresh (aaj _)
 refine ⟨.ref s1.heap.objs.size,upd H1 s1.heap.objs.size (.lst xs),I1.laid (t':=s1.toks) (fun b u e=>aac _ e) (aaj _) ?_,rfl,q _ hf⟩
 exact ⟨z,us,0,r,aai _ rfl⟩
end
noncomputable abbrev Sp:=List V->Hp->VK->XK->Prop
noncomputable abbrev CXT:=List Env->Hp->Shared->XK->Value->Shared->Prop
structure Env0 (P:aaq) (w:World) (K:aad) (mg:Str->Option Value) (base:Heap) (A:Around) (outer:List Env) (s:Shared) (H:Hp):Prop where
 frames:A.frames=some outer
 mod:Mod K mg base
 bs:∀ b o,base.get? b=some o->s.heap.get? b=some o/\H b=none
 bsz:base.objs.size<=s.heap.objs.size
 funs:s.heap.FunFrames base outer
 frf:∀ b∈frs outer,H b=none
 hok:HOk P w H s.heap
 bare:ad9 s.gens
noncomputable def CE (outer:List Env) (P:aaq) (w:World) (H:Hp) (s:Shared) (Q:VK) (u:Value) (s':Shared):Prop :=
 ∃ v H',s'.os=s.os/\ad9 s'.gens/\Un (frs outer) [] H H' s.heap s'.heap/\HOk P w H' s'.heap/\RelV v u/\Q v H'
noncomputable def CR (CX:CXT) (outer:List Env) (P:aaq) (w:World) (H:Hp) (s:Shared) (Q:VK) (E:XK) (r:Result) (s':Shared):Prop :=
 match r with
 | .ok (.ret u)=>CE outer P w H s Q u s'
 | .ok _=>False
 | .error e=>CX outer H s E e s'
structure FnOk (P:aaq) (w:World) (K:aad) (mg:Str->Option Value) (base:Heap) (CX:CXT) (k:Nat) (f:Addr) (fd:aaT) (ps:List Str) (sp:Sp):Prop where
 len:∀ vs H Q E,sp vs H Q E->vs.length=ps.length
 run:∀ (A:Around) (outer:List Env) (s:Shared) (H:Hp) (args:Args) (us:List Value) (vs:List V) (Q:VK) (E:XK),Room k A->Env0 P w K mg base A outer s H->BindsTo s fd args (ps.zip us)->Vals vs us->sp vs H Q E ->
  adJ (model P w) A (.call (.ref f) args) (CR CX outer P w H s Q E) s
theorem FnOk.mono {P:aaq} {w:World} {K:aad} {mg:Str->Option Value} {base:Heap} {CX:CXT} {j k:Nat} {f:Addr} {fd:aaT} {ps:List Str} {sp:Sp} (F:FnOk P w K mg base CX j f fd ps sp) (h:j<=k) :
  FnOk P w K mg base CX k f fd ps sp:=⟨F.len,fun A outer s H args us vs Q E hr=>F.run A outer s H args us vs Q E (hr.mono h)⟩
theorem FnOk.imp {P:aaq} {w:World} {K:aad} {mg:Str->Option Value} {base:Heap} {CX:CXT} {k:Nat} {f:Addr} {fd:aaT} {ps:List Str} {sp sp':Sp} (F:FnOk P w K mg base CX k f fd ps sp)
  (h:∀ vs H Q E,sp' vs H Q E->sp vs H Q E):FnOk P w K mg base CX k f fd ps sp' :=
 ⟨fun vs H Q E q=>F.len vs H Q E (h _ _ _ _ q),fun A outer s H args us vs Q E hr he hb hv hs=>F.run A outer s H args us vs Q E hr he hb hv (h _ _ _ _ hs)⟩
section
variable {X:Cx} {pins:List (Addr×Obj)} {σ:St} {H:Hp} {s s':Shared}
theorem Inv.env0 (I:Inv X pins σ H s):Env0 X.prog X.w X.K X.mg X.base X.A X.stack s H :=
 ⟨I.ok.frames,I.ok.mod,I.bs,aa1 I.ok.bsz I.sz,I.stack,I.stkFree,I.hok,I.bare⟩
theorem Inv.after {Q:VK} {u:Value} (I:Inv X pins σ H s) (h:CE X.stack X.prog X.w H s Q u s'):EP X pins σ Q u s':=by
 obtain ⟨v,H',os,bare,un,hok,r,q⟩:=h
 obtain ⟨hh,g,d,t,os'⟩:=s'
 obtain rfl:os'=s.os:=os
 exact ⟨v,H',I.call (h':=hh) (g':=g) (d':=d) (t':=t) (ch:=[]) un hok bare (fun b z=>absurd z (by simp)),r,q⟩
end
noncomputable def tCall (sp:Sp) (dvs:List V) (E:XK) (t:TA):TE:=fun σ H Q=>t σ H fun vs H1=>sp (vs++dvs) H1 Q E
noncomputable def Binds (K:aad) (fd:aaT) (ps:List Str) (ds:List Value):Prop :=
 ∀ (s:Shared) (us:List Value),K.In s.heap->(us++ds).length=ps.length->BindsTo s fd ⟨us,[]⟩ (ps.zip (us++ds))
theorem Binds.all {K:aad} {fd:aaT} {ps:List Str} (h:∀ us:List Value,us.length=ps.length->acL fd ⟨us,[]⟩=pure (ps.zip us)):Binds K fd ps []:=fun s us _ hl=>by
 rw [aby] at hl ⊢
 exact .of_eq (h us hl)
noncomputable def Passes (CX:CXT) (X:Cx) (E:XK):Prop:=∀ (pins:List (Addr×Obj)) (σ:St) (H:Hp) (s:Shared) (e:Value) (s':Shared),Inv X pins σ H s->CX X.stack H s E e s'->X.xe e s'
section
variable {X:Cx} {CX:CXT} {k:Nat} {f C:Addr} {fd:aaT} {ps:List Str} {sp:Sp} {dvs:List V} {ds:List Value} {E:XK} {x m:Str} {p pos apos:Pos} {e o:Expr} {es:List Expr} {ta:TE} {t:TA}
theorem qp {pins:List (Addr×Obj)} {σ:St} {H:Hp} {s:Shared} {Q:VK} {us:List Value} {vs:List V} (F:FnOk X.prog X.w X.K X.mg X.base CX k f fd ps sp) (hr:Room k X.A) (hb:Binds X.K fd ps ds) (hd:Vals dvs ds) (hx:Passes CX X E)
  (I:Inv X pins σ H s) (r:Vals vs us) (h:sp (vs++dvs) H Q E):wpAny (model X.prog X.w) X.A (call (.ref f) us) (EP X pins σ Q) X.xe s:=by
 have r2:Vals (vs++dvs) (us++ds):=r.append hd
 have hl:(us++ds).length=ps.length:=by rw [<- r2.length]; exact F.len _ _ _ _ h
 refine wpAny_call (ac9 (F.run X.A X.stack s H ⟨us,[]⟩ (us++ds) (vs++dvs) Q E hr I.env0 (hb s us I.kIn hl) r2 h) fun r s' hq=>?_)
 cases r with
 | error e=>exact hx pins σ H s e s' I hq
 | ok fl =>
  cases fl with
  | ret u=>exact I.after hq
  | next=>exact acz hq
  | brk=>exact acz hq
  | cont=>exact acz hq
theorem fB (F:FnOk X.prog X.w X.K X.mg X.base CX k f fd ps sp) (hr:Room k X.A) (hg:Gl X x) (hm:X.mg x=some (.ref f)) (hk:abv X.K (.ref f)=true) (hb:Binds X.K fd ps ds) (hd:Vals dvs ds) (hx:Passes CX X E)
  (ha:PA X (e::es) t) (hdb:autoParam ((x==("__debug__" : Str))=false) Z1._auto_1) (he:autoParam (aan (e::es) X.env=(false,eval e X.env)::aan es X.env) Z2._auto_1) (hpl:autoParam ((backTo pos (aan es X.env)).any (·.1)=false) Z2._auto_1) :
  PE X (.Call (.Name x p) (e::es) [] pos) (tCall sp dvs E t):=by
 intro pins s σ H Q I h
 refine acB (kK I hg hm ?_ hdb)
 refine PySem.W.callWith_K (h₀:=X.base) I.ok.mod.kin hk (thn (ha pos pins s σ H _ I h) fun us s1 ⟨vs,H1,I1,r,q⟩=>⟨I1.kIn,?_⟩) he hpl
 exact qp F hr hb hd hx I1 r q
end
noncomputable def PK (X:Cx) (kws:List Keyword) (t:TA):Prop :=
 ∀ (pos:Pos) (pins:List (Addr×Obj)) (s:Shared) (σ:St) (H:Hp) (Q:List V->Hp->Prop),Inv X pins σ H s->t σ H Q->wpAny (model X.prog X.w) X.A (evalAll ((backToKw pos (aeY kws X.env)).map (·.2))) (AP X pins σ Q) X.xe s
section
variable {X:Cx} {CX:CXT} {k:Nat} {f C:Addr} {fd:aaT} {ps ks:List Str} {sp:Sp} {E:XK} {x m:Str} {p pos apos kpos:Pos} {e o:Expr} {es:List Expr} {kws:List Keyword} {te ta:TE} {t tk:TA} {nm:Option Str}
theorem vW:PK X [] tNil:=fun _ _ _ _ H Q I h=>wpAny_evalAll_nil ⟨[],H,I,.nil,h⟩
theorem uk (ha:PE X e te) (hr:PK X kws t):PK X (⟨nm,e,kpos⟩::kws) (tCons te t):=by
 intro pos pins s σ H Q I h
 show wpAny _ _ (evalAll ((do let v <- eval e X.env; standAt pos; pure v)::(backToKw pos (aeY kws X.env)).map (·.2))) _ _ s
 refine wpAny_evalAll_cons (aaa (thn (ha pins s σ H _ I h) fun u s1 ⟨x,H1,I1,r1,q1⟩=>aaa (acf (aag ?_))))
 exact thn (hr pos pins s1 σ H1 _ I1 q1) fun us s2 ⟨xs,H2,I2,r2,q2⟩=>⟨x::xs,H2,I2,.cons r1 r2,q2⟩
variable {g:List Value->List Value->List Value} {gV:List V->List V->List V}
end
structure aB (N P:List Str) (sc:Scope):Prop where
 kind:sc.kind=.function
 co:sc.isCoroutine=false
 gen:sc.isGenerator=false
 nd:N.Nodup
 pre:N.take P.length=P
 par:∀ x∈P,sc.names.lookup x=some .local\/sc.names.lookup x=some .cell
 nofree:∀ y∈sc.names,y.2≠.free
theorem lM {kindOf:Str->Option acE} {x:Str}:∀ {binds:List (Str×Value)} {m:Str->Option Value},(∀ v,(x,v)∉binds)->bindL kindOf binds m x=m x
 | [],_,_=>rfl
 | (n,v)::r,m,h=>by
  unfold bindL
  rw [lM fun w hw=>h w (aav _ hw)]
  split
  ·have:x≠n:=by rintro rfl; exact h v aat
   simp [this]
  ·rfl
theorem lO {kindOf:Str->Option acE} {x:Str}:∀ {binds:List (Str×Value)} {m:Str->Option Value},(∀ v,(x,v)∉binds)->bindC kindOf binds m x=m x
 | [],_,_=>rfl
 | (n,v)::r,m,h=>by
  unfold bindC
  rw [lO fun w hw=>h w (aav _ hw)]
  split
  ·rfl
  ·have:x≠n:=by rintro rfl; exact h v aat
   simp [this]
theorem lN {kindOf:Str->Option acE} {x:Str} {v:Value}:∀ {P:List Str} {vs:List Value} {i:Nat} {m:Str->Option Value},P.Nodup->P[i]?=some x->vs[i]?=some v->kindOf x=some .local ->
  bindL kindOf (P.zip vs) m x=some v
 | [],_,_,_,_,h,_,_=>by simp at h
 | _::_,[],_,_,_,_,h,_=>by simp at h
 | p::P,w::vs,0,m,nd,h1,h2,hk=>by
  simp at h1 h2; subst h1; subst h2
  show bindL kindOf ((p,w)::P.zip vs) m p=_
  unfold bindL
  rw [lM fun v hv=>(List.nodup_cons.mp nd).1 (ae6 hv).1,if_pos hk]
  simp
 | p::P,w::vs,i+1,m,nd,h1,h2,hk=>by
  show bindL kindOf ((p,w)::P.zip vs) m x=_
  unfold bindL
  exact lN (i:=i) (List.nodup_cons.mp nd).2 (by simpa using h1) (by simpa using h2) hk
theorem lP {kindOf:Str->Option acE} {x:Str} {v:Value}:∀ {P:List Str} {vs:List Value} {i:Nat} {m:Str->Option Value},P.Nodup->P[i]?=some x->vs[i]?=some v->kindOf x≠some .local ->
  bindC kindOf (P.zip vs) m x=some v
 | [],_,_,_,_,h,_,_=>by simp at h
 | _::_,[],_,_,_,_,h,_=>by simp at h
 | p::P,w::vs,0,m,nd,h1,h2,hk=>by
  simp at h1 h2; subst h1; subst h2
  show bindC kindOf ((p,w)::P.zip vs) m p=_
  unfold bindC
  rw [lO fun v hv=>(List.nodup_cons.mp nd).1 (ae6 hv).1,if_neg hk]
  simp
 | p::P,w::vs,i+1,m,nd,h1,h2,hk=>by
  show bindC kindOf ((p,w)::P.zip vs) m x=_
  unfold bindC
  exact lP (i:=i) (List.nodup_cons.mp nd).2 (by simpa using h1) (by simpa using h2) hk
noncomputable def start (N:List Str) (vs:List V):St:=vs.map some++aaC (N.length - vs.length) none
noncomputable def cxOf (CX:CXT) (P:aaq) (w:World) (K:aad) (mg:Str->Option Value) (base:Heap) (N:List Str) (qual:Str) (scope:Scope) (f:Addr) (cd:Value) (A:Around) (outer:List Env) (s:Shared) (H:Hp) (E:XK):Cx where
 prog:=P
 w:=w
 K:=K
 mg:=mg
 base:=base
 A:=A.deeper (envOfC qual scope s.heap.objs.size f cd)
 N:=N
 s₀:=s
 H₀:=H
 env:=envOfC qual scope s.heap.objs.size f cd
 outer:=outer
 stack:=envOfC qual scope s.heap.objs.size f cd::outer
 ex:=[]
 calm:=true
 fn:=fun _=>true
 pn:=[]
 xe:=fun e s'=>wpAny (model P w) (A.deeper (envOfC qual scope s.heap.objs.size f cd)) (leaving (envOfC qual scope s.heap.objs.size f cd) e) (fun _ s''=>CX outer H s E e s'') (fun e' s''=>CX outer H s E e' s'') s'
theorem nB {sc:Scope} {n:Nat} {x:Str} (h:sc.names.lookup x=some .cell):∃ c,(cellsFrom n sc.names []).lookup x=some c:=by
 have q:=PySem.W.cellsFrom_some sc.names n [] (.inl h)
 exact Option.isSome_iff_exists.mp q
theorem qX {CX:CXT} {P:aaq} {w:World} {K:aad} {mg:Str->Option Value} {base:Heap} {N ps:List Str} {qual:Str} {scope:Scope} {f:Addr} {cd:Value} {A:Around} {outer:List Env} {s s1:Shared} {H:Hp} {E:XK} {us:List Value} {vs:List V}
  (S:aB N ps scope) (hd:A.handled=none) (e0:Env0 P w K mg base A outer s H) (hl:vs.length=ps.length) (r:Vals vs us)
  (x:InCallC s s.heap.objs.size (bindL (envOfC qual scope s.heap.objs.size f cd).kindOf (ps.zip us) fun _=>none) (cellsFrom (s.heap.objs.size+1) scope.names []) (bindC (envOfC qual scope s.heap.objs.size f cd).kindOf (ps.zip us) fun _=>none) s1) :
  Inv (cxOf CX P w K mg base N qual scope f cd A outer s H E) [] (start N vs) H s1:=by
 have hpl:ps.length<=N.length:=by have:=congrArg acw S.pre; rw [aba] at this; omega
 obtain ⟨h1,tk,rfl,hk⟩:=x.done
 have noA:∀ b:Addr,b∉(cxOf CX P w K mg base N qual scope f cd A outer s H E).ex:=fun b z=>absurd (show b∈([]:List Addr) from z) (by simp)
 refine ⟨⟨e0.mod,S.kind,rfl,rfl,aaj _,fun y z c h1 h2=>?_,fun y hy=>?_,fun y c _ h=>?_,fun _=>hd,Around.frames_deeper e0.frames,.inr ⟨rfl,rfl⟩,fun b z=>absurd z (noA b),e0.bs,e0.bsz,fun b _ _=>noA b,fun b z=>absurd z (noA b),e0.funs,e0.frf⟩,
  rfl,e0.bare,Un.kept hk,⟨_,x.toInCall.ns,fun i y v h1 h2 h3=>?_⟩,fun y c h=>⟨_,x.cell y c h⟩,e0.hok.fresh (aaj _),fun y c h=>?_,fun p hp=>absurd (show p∈([]:List (Addr×Obj)) from hp) (by simp),e0.hok.kept hk,?_⟩
 ·exact name_of_addr x.apart (abL h1) (abL h2)
 ·have hy:scope.names.lookup y=some .cell\/scope.names.lookup y=some .free:=hy
  rcases hy with hy | hy
  ·exact nB hy
  ·exact absurd rfl (S.nofree _ (abL hy))
 ·exact aeG (x.above y c (abL h))
 ·have hi:i<vs.length:=by
   unfold start at h2
   by_cases hi:i<vs.length
   ·exact hi
   ·rw [acm (by simpa using hi)] at h2
    rw [List.getElem?_replicate] at h2
    split at h2 <;> cases h2
  have ha:vs[i]?=some v:=by
   unfold start at h2
   rw [aaw (by simpa using hi),aal] at h2
   cases e:vs[i]? with
   | none=>rw [e] at h2; cases h2
   | some a=>rw [e] at h2; cases h2; rfl
  obtain ⟨u,hu,rv⟩:=r.get ha
  have hp:ps[i]?=some y:=by
   rw [<- S.pre,List.getElem?_take_of_lt (by omega)]; exact h1
  have ndP:ps.Nodup:=by rw [<- S.pre]; exact S.nd.sublist (acJ _ _)
  refine ⟨u,rv,?_⟩
  rcases S.par y (abf hp) with k | k
  ·exact .inl ⟨k,lN ndP hp hu k⟩
  ·obtain ⟨c,e⟩:=nB (n:=s.heap.objs.size+1) k
   refine .inr ⟨.inl k,c,e,?_⟩
   have q:=x.cell y c e
   rw [lP ndP hp hu (by show scope.names.lookup y≠_; rw [k]; decide)] at q
   exact q
 ·exact e0.hok.fresh (aeG (x.above y c (abL h)))
 ·unfold start
  show _=N.length
  rw [aau,aae,abO]
  omega
theorem tP {CX:CXT} {P:aaq} {w:World} {K:aad} {mg:Str->Option Value} {base:Heap} {k:Nat} {f:Addr} {name qual:Str} {params:Arguments} {body:List Stmt} {scope:Scope} {dV kV doc pm cdv ct oc:Value} {an od:Option Addr}
  {osl:Array (Option Value)} {N ps:List Str} {sp:Sp} (lk:K.lookup f=some ⟨oc,od,.func (acy name qual params body scope dV kV doc pm an cdv ct),osl⟩) (hcd:ad1 K cdv qual=true) (S:aB N ps scope)
  (len:∀ vs H Q E,sp vs H Q E->vs.length=ps.length)
  (hbody:∀ (A:Around) (outer:List Env) (s:Shared) (H:Hp) (vs:List V) (Q:VK) (E:XK),Room k (A.deeper (envOfC qual scope s.heap.objs.size f cdv))->sp vs H Q E ->
   ∃ t,PSs (cxOf CX P w K mg base N qual scope f cdv A outer s H E) body t/\t { nx:=fun _ H'=>Q .non H',rt:=Q } (start N vs) H) :
  FnOk P w K mg base CX (k+1) f (acy name qual params body scope dV kV doc pm an cdv ct) ps sp:=by
 refine ⟨len,fun A outer s H args us vs Q E hr e0 hb r hsp=>?_⟩
 have hl:=len _ _ _ _ hsp
 have KX:K.In s.heap:=e0.mod.kin.keeps fun b o e=>(e0.bs b o e).1
 have lim:s.heap.NoLimit:=e0.mod.nolimit.keeps fun b o e=>(e0.bs b o e).1
 have hkind:∀ y∈ps.zip us,scope.names.lookup y.1=some .local\/(scope.names.lookup y.1=some .cell/\((cellsFrom (s.heap.objs.size+1) scope.names []).lookup y.1).isSome=true):=fun ⟨n,v⟩ hy=>by
  rcases S.par n (ae6 hy).1 with q | q
  ·exact .inl q
  ·exact .inr ⟨q,PySem.W.cellsFrom_some _ _ _ (.inl q)⟩
 refine codeAny_call_function hr.depth (KX _ _ lk) rfl S.co S.gen rfl (PySem.W.codeRec_of KX hcd) (hb _ _ _ _ ?_)
 refine wpAny_newFunctionEnv_cells S.kind hkind fun env he s1 x=>?_
 subst he
 refine ⟨lim.keeps x.toInCall.keep,codeAny_func ?_⟩
 obtain ⟨t,ht,hq⟩:=hbody A outer s H vs Q E (hr.deeper _) hsp
 have I:Inv (cxOf CX P w K mg base N qual scope f cdv A outer s H E) [] (start N vs) H s1:=qX S hr.hd e0 hl r x
 refine aaI (ht [] s1 (start N vs) H _ I hq) (fun fl s' hs=>?_) fun e s' hs=>hs
 have fin:∀ {σ':St} {H':Hp} {v:V} {u:Value},Inv (cxOf CX P w K mg base N qual scope f cdv A outer s H E) [] σ' H' s'->RelV v u->Q v H'->CE outer P w H s Q u s' :=
  fun {σ' H' v u} J rv q=>⟨v,H',J.os,J.bare,J.base,J.hok,rv,q⟩
 cases fl with
 | ret u =>
  obtain ⟨v,σ',H',J,rv,q⟩:=hs
  exact fin J rv q
 | next =>
  obtain ⟨σ',H',J,q⟩:=hs
  exact fin (v:=V.non) (u:=aa0) J rfl q
 | brk =>
  obtain ⟨_,_,_,q⟩:=hs
  exact acz q
 | cont =>
  obtain ⟨_,_,_,q⟩:=hs
  exact acz q
end L2
namespace L2
open PySem PySem.Spec PyProof.Rows
section
variable {X:Cx} {x:Str} {p pos:Pos} {e:Expr} {es:List Expr} {t:TA} {id T:String} {r:List V->Hp->VK->Prop}
noncomputable def tCB (r:List V->Hp->VK->Prop) (t:TA):TE:=fun σ H Q=>t σ H fun vs H1=>r vs H1 Q
theorem bC (hc:CallR X (.builtin id) r) (hg:Gl X x) (hm:X.mg x=none) (hv:abZ x=some (.builtin id)) (ha:PA X (e::es) t) (hn:autoParam (x ≠ "__name__") Z1._auto_1) (hdb:autoParam ((x==("__debug__" : Str))=false) Z1._auto_1)
  (he:autoParam (aan (e::es) X.env=(false,eval e X.env)::aan es X.env) Z2._auto_1) (hpl:autoParam ((backTo pos (aan es X.env)).any (·.1)=false) Z2._auto_1):PE X (.Call (.Name x p) (e::es) [] pos) (tCB r t):=by
 intro pins s σ H Q I h
 refine acB (gL I hg hm hv ?_ hn hdb)
 exact PyProof.Rows.callWith_builtin1 (thn (ha pos pins s σ H _ I h) fun us s1 ⟨vs,H1,I1,r1,q1⟩=>hc pins s1 σ H1 vs us Q I1 r1 q1) he hpl
theorem gI (hc:CallR X (.type T) r) (hg:Gl X x) (hm:X.mg x=none) (hv:abZ x=some (.type T)) (ha:PA X (e::es) t) (hn:autoParam (x ≠ "__name__") Z1._auto_1) (hdb:autoParam ((x==("__debug__" : Str))=false) Z1._auto_1)
  (he:autoParam (aan (e::es) X.env=(false,eval e X.env)::aan es X.env) Z2._auto_1) (hpl:autoParam ((backTo pos (aan es X.env)).any (·.1)=false) Z2._auto_1):PE X (.Call (.Name x p) (e::es) [] pos) (tCB r t):=by
 intro pins s σ H Q I h
 refine acB (gL I hg hm hv ?_ hn hdb)
 exact ae5 (thn (ha pos pins s σ H _ I h) fun us s1 ⟨vs,H1,I1,r1,q1⟩=>hc pins s1 σ H1 vs us Q I1 r1 q1) he hpl
end
end L2
namespace HT
open PySem PyProof.Rows
section
open PySem.SeqAt
open PySem.AutoSeq1 (wpAny_loadPart')
open PySem.MeetsSeq PySem.MeetsSeq2 PySem.MeetsSeq3
end
section
variable {prog:aaq} {w:World} {A:Around} {E:Value->Shared->Prop} {s:Shared}
theorem cat_tup {t b:Addr} {vs ws:List Value} {Q:Value->Shared->Prop} (ht:IsTup s.heap t vs.toArray) (hb:IsTup s.heap b ws.toArray) (hv:vs≠[])
  (h1:ws=[]->Q (.ref t) s) (h2:ws≠[]->Q (.ref s.heap.objs.size) { s with heap:=s.heap.push { cls:=.type "tuple",data:=.seq (vs++ws).toArray } })
  (hsz:vs.length+ws.length<=sizeLine):wpAny (model prog w) A (ab2 .Add (.ref t) (.ref b)) Q E s:=by
 obtain ⟨⟨cls,dd,data,sl⟩,ho,hc,n,hd⟩:=id ht
 obtain ⟨⟨cls2,dd2,data2,sl2⟩,ho2,hc2,n2,hd2⟩:=id hb
 simp only at hc hd hc2 hd2
 subst hc hd hc2 hd2
 have e:vs.toArray++ws.toArray=(vs++ws).toArray:=by simp
 by_cases hw:ws=[]
 ·exact concat_meets ⟨_,ho,rfl⟩ ⟨_,ho2,rfl⟩ aeN seq_tuple_add adC ady (adn _ _)
   (tuple_addW1 t b vs.toArray ws.toArray n n2 dd dd2 sl sl2 (by simpa using hv) (by simp [hw])) ⟨ho,ho2,h1 hw⟩
 ·refine concat_meets ⟨_,ho,rfl⟩ ⟨_,ho2,rfl⟩ aeN seq_tuple_add adC ady (adn _ _)
   (tuple_addW2 t b vs.toArray ws.toArray n n2 dd dd2 sl sl2 (by simpa using hv) (by simpa using hw) (by rw [aaf,aaf]; exact hsz)) ⟨ho,ho2,?_⟩
  rw [e]
  exact h2 hw
noncomputable def sIx (n d:Nat):Option Int->Nat
 | none=>d
 | some v=>if v<0 then (v+(n:Int)).toNat else min v.toNat n
theorem sIx_none (n d:Nat):sIx n d none=d:=rfl
theorem sIx_nat (n d k:Nat):sIx n d (some (k:Int))=min k n:=by
 show (if (k:Int)<0 then ((k:Int)+(n:Int)).toNat else min (k:Int).toNat n)=min k n
 rw [if_neg (by omega),acl]
theorem vP (n d:Nat) (hd:d<=n) (o:Option Int):sIx n d o<=n:=by
 cases o with
 | none=>exact hd
 | some v =>
  show (if v<0 then (v+(n:Int)).toNat else min v.toNat n)<=n
  by_cases hv:v<0
  ·rw [if_pos hv]; omega
  ·rw [if_neg hv]; exact Nat.min_le_right _ _
theorem pd (v:Int) (n d:Nat):(if v<0 then max (v+(n:Int)) 0 else min v (n:Int))=((sIx n d (some v):Nat):Int):=by
 show (if v<0 then max (v+(n:Int)) 0 else min v (n:Int))=(((if v<0 then (v+(n:Int)).toNat else min v.toNat n):Nat):Int)
 by_cases hv:v<0
 ·simp only [if_pos hv]; omega
 ·simp only [if_neg hv]; omega
theorem pZ (lo hi:Option Int) (n:Nat):adh lo hi 1 (n:Int)=(((sIx n 0 lo:Nat):Int),((sIx n n hi:Nat):Int)):=by
 have h1:¬ ((1:Int)<0):=by omega
 unfold adh
 simp only [h1,if_false]
 refine Prod.ext ?_ ?_
 ·cases lo with
  | none=>rfl
  | some v=>exact pd v n 0
 ·cases hi with
  | none=>rfl
  | some v=>exact pd v n n
theorem pI (i j:Nat):abq (i:Int) (j:Int) 1=j - i:=by
 unfold abq
 have h1:(1:Int) > 0:=by omega
 simp only [h1,if_true,Int.ediv_one]
 split <;> omega
theorem slicePart_ {v:Value} {o:Option Int} {Q:Option Int->Shared->Prop} (p:IsPart v o) (h:Q o s):wpAny (model prog w) A (Builtin.Slice.slicePartIndex v) Q E s:=by
 cases p with
 | none=>exact slicePart_none h
 | int i t=>exact slicePart_int h
theorem sliceApplied_gen {sl:Addr} {vl vu:Value} {lo hi:Option Int} {n:Nat} {Q:Int×Int×Nat->Shared->Prop} (hs:s.heap.IsSliceOf sl vl vu .none) (pl:IsPart vl lo) (pu:IsPart vu hi)
  (h:Q (((sIx n 0 lo:Nat):Int),1,sIx n n hi - sIx n 0 lo) s):wpAny (model prog w) A (acn (.ref sl) (pure (n:Int))) Q E s:=by
 obtain ⟨os,hos,hcs,hds⟩:=id hs
 unfold acn afk
 refine aaa (aaa (ads hos hds (x:=vl) rfl (aaa (ads hos hds (x:=vu) rfl (aaa (ads hos hds (x:=.none) rfl (aag ?_)))))))
 refine aaa (slicePart_none ?_)
 show wpAny _ _ (if ((1:Int)==0)=true then _ else _) _ _ s
 rw [if_neg (by decide)]
 refine aaa (slicePart_ pl (aaa (slicePart_ pu (aaa (aag ?_)))))
 show wpAny _ _ (match adh lo hi 1 (n:Int) with | (lo,hi)=>pure (lo,(1:Int),abq lo hi 1)) _ _ s
 rw [pZ lo hi n]
 show wpAny _ _ (pure (((sIx n 0 lo:Nat):Int),(1:Int),abq ((sIx n 0 lo:Nat):Int) ((sIx n n hi:Nat):Int) 1)) _ _ s
 rw [pI]
 exact aag h
theorem so (xs:Array Value) (i k:Nat):((aaM k).filterMap fun (m:Nat)=>xs[((i:Int)+(m:Int)*1).toNat]?).toArray=((xs.toList.drop i).take k).toArray:=by
 have e:(fun (m:Nat)=>xs[((i:Int)+(m:Int)*1).toNat]?)=fun m=>xs[i+m]?:=by
  funext m
  have:((i:Int)+(m:Int)*1).toNat=i+m:=by omega
  rw [this]
 rw [e]
 have:=pick_run xs i k
 rw [aen] at this
 have e2:((fun x=>xs[x]?) ∘ fun x=>i+x)=fun m=>xs[i+m]?:=rfl
 rw [e2] at this
 rw [this]
theorem getItem_tuple_cut {t sl:Addr} {items:Array Value} {vl vu:Value} {lo hi:Option Int} {Q:Value->Shared->Prop} (ht:IsTup s.heap t items) (hs:s.heap.IsSliceOf sl vl vu .none) (pl:IsPart vl lo) (pu:IsPart vu hi)
  (hw:¬ (sIx items.size 0 lo=0/\sIx items.size items.size hi=items.size))
  (h:Q (.ref s.heap.objs.size) { s with heap:=s.heap.push { cls:=.type "tuple",data:=.seq ((items.toList.drop (sIx items.size 0 lo)).take (sIx items.size items.size hi - sIx items.size 0 lo)).toArray } })
  (hsz:items.size<=sizeLine):wpAny (model prog w) A (acP (.ref t) (.ref sl)) Q E s:=by
 have htake:sizeOk (.seq ((items.toList.drop (sIx items.size 0 lo)).take (sIx items.size items.size hi - sIx items.size 0 lo)).toArray):=by
  show ((items.toList.drop (sIx items.size 0 lo)).take (sIx items.size items.size hi - sIx items.size 0 lo)).toArray.size<=sizeLine
  rw [aaf,aba,List.length_drop,aax]
  omega
 have hj:sIx items.size items.size hi<=items.size:=vP _ _ (aaj _) hi
 obtain ⟨os,hos,hcs,hds⟩:=id hs
 have hTs:s.TypeIs (.ref sl) "slice" := ⟨os,hos,hcs⟩
 unfold acP
 try with_reducible refine aaQ ?_
 first | refine aaa (aag ?_) | skip
 refine aaa (adi ht.typeIs (by decide) ?_)
 refine aaa (ab1 (name:=aaN "__getitem__") ht.typeIs abk
  (aa8 abk ht.typeIs ad5 ?_ (aei _ _)))
 show wpAny _ _ (ac7 (.ref t) >>= _) _ _ s
 refine aaa (tupleItemsOf_ ht ?_)
 refine aaa (ac8 hTs ?_)
 rw [if_pos (by decide)]
 refine aaa (sliceApplied_gen hs pl pu ?_)
 have hno:¬ ((((sIx items.size 0 lo:Nat):Int)==0 && (1:Int)==1 && (sIx items.size items.size hi - sIx items.size 0 lo)==items.size)=true):=by
  intro q
  rw [aaK,aaK] at q
  have q1:((sIx items.size 0 lo:Nat):Int)=0:=eq_of_beq q.1.1
  have q2:sIx items.size items.size hi - sIx items.size 0 lo=items.size:=eq_of_beq q.2
  exact hw ⟨by omega,by omega⟩
 show wpAny _ _ (if (((sIx items.size 0 lo:Nat):Int)==0 && (1:Int)==1 && (sIx items.size items.size hi - sIx items.size 0 lo)==items.size)=true then _ else _) _ _ s
 rw [if_neg hno,so]
 first
  | exact aaa (m:=abF _) (aa3 (aag ⟨_,rfl,aag h⟩) htake)
  | exact aaa (m:=abF _) (aa3 (aaa (aag (aag ⟨_,rfl,aag h⟩))) htake)
  | exact aaa (aaa (m:=abF _) (aa3 (aag (aag ⟨_,rfl,aag h⟩)) htake))
  | exact aaa (aaa (m:=abF _) (aa3 (aag ⟨_,rfl,aag h⟩) htake))
end
end HT
namespace L2
open PySem PySem.Spec PyProof.Rows
noncomputable abbrev TO:=St->Hp->(Option Int->Hp->Prop)->Prop
noncomputable def PO (X:Cx) (e:Option Expr) (t:TO):Prop :=
 ∀ (pins:List (Addr×Obj)) (s:Shared) (σ:St) (H:Hp) (Q:Option Int->Hp->Prop),Inv X pins σ H s->t σ H Q ->
  wpAny (model X.prog X.w) X.A (evalPart e X.env) (fun u s'=>∃ o H',Inv X pins σ H' s'/\IsPart u o/\Q o H') X.xe s
noncomputable def t7:TO:=fun _ H Q=>Q none H
noncomputable def tPart (t:TE):TO:=fun σ H Q=>t σ H fun x H1=>∃ i,x=.int i/\Q (some i) H1
section
variable {X:Cx} {e:Expr} {te:TE} {lo hi:Option Expr} {tl th:TO} {pos p2:Pos}
theorem ku:PO X none t7:=by
 intro pins s σ H Q I h
 rw [aef]
 exact aag ⟨none,H,I,.none,h⟩
theorem ko (h:PE X e te):PO X (some e) (tPart te):=by
 intro pins s σ H Q I hw
 rw [evalPart_some]
 refine thn (h pins s σ H _ I hw) fun u s1 ⟨x,H1,I1,r1,q1⟩=>?_
 obtain ⟨i,rfl,q⟩:=q1
 obtain ⟨t,rfl⟩:=r1
 exact ⟨some i,H1,I1,.int i t,q⟩
noncomputable def SlR (X:Cx) (r:V->Option Int->Option Int->Hp->VK->Prop):Prop :=
 ∀ (pins:List (Addr×Obj)) (s:Shared) (σ:St) (H:Hp) (x:V) (v vl vu:Value) (lo hi:Option Int) (sl:Addr) (Q:VK),Inv X pins σ H s->RelV x v->s.heap.IsSliceOf sl vl vu .none->IsPart vl lo->IsPart vu hi->r x lo hi H Q ->
  ∃ T id,typeLookup (.type T) "__getitem__" = pure (some (.builtin id))/\s.TypeIs v T/\wpAny (model X.prog X.w) X.A (acP v (.ref sl)) (EP X pins σ Q) X.xe s
theorem SlR.or {r r':V->Option Int->Option Int->Hp->VK->Prop} (h:SlR X r) (h':SlR X r'):SlR X (fun x lo hi H Q=>r x lo hi H Q\/r' x lo hi H Q):=by
 intro pins s σ H x v vl vu lo hi sl Q I rx hs pl pu q
 rcases q with q | q
 ·exact h pins s σ H x v vl vu lo hi sl Q I rx hs pl pu q
 ·exact h' pins s σ H x v vl vu lo hi sl Q I rx hs pl pu q
noncomputable def tSl (r:V->Option Int->Option Int->Hp->VK->Prop) (te:TE) (tl th:TO):TE:=fun σ H Q=>te σ H fun x H1=>tl σ H1 fun l H2=>th σ H2 fun u H3=>r x l u H3 Q
theorem i8 {r:V->Option Int->Option Int->Hp->VK->Prop} (hr:SlR X r) (he:PE X e te) (hl:PO X lo tl) (hu:PO X hi th):PE X (.Subscript e (.Slice lo hi none p2) pos) (tSl r te tl th):=by
 intro pins s σ H Q I h
 refine adT (thn (he pins s σ H _ I h) fun v s1 ⟨x,H1,I1,r1,q1⟩=>?_)
 refine wpAny_Slice (thn (hl pins s1 σ H1 _ I1 q1) fun vl s2 ⟨l,H2,I2,pl,q2⟩=>thn (hu pins s2 σ H2 _ I2 q2) fun vu s3 ⟨u,H3,I3,pu,q3⟩=>?_)
 rw [aef]
 refine aag ?_
 have I4:Inv X pins σ H3 { s3 with heap:=s3.heap.push { cls:=.type "slice",data:=.fields #[vl,vu,.none] } }:=I3.kept (t':=s3.toks) fun b ob q=>aac _ q
 obtain ⟨T,id,hT,ht,hg⟩:=hr pins { s3 with heap:=s3.heap.push { cls:=.type "slice",data:=.fields #[vl,vu,.none] } } σ H3 x v vl vu l u s3.heap.objs.size Q I4 r1 (aeo ..) pl pu q3
 show wpAny (model X.prog X.w) X.A (adt e (.Slice lo hi none p2) v (.ref s3.heap.objs.size)) (EP X pins σ Q) X.xe { s3 with heap:=s3.heap.push { cls:=.type "slice",data:=.fields #[vl,vu,.none] } }
 exact aeS (ops:=[.ref s3.heap.objs.size,v]) ht hT hg (by with_unfolding_all rfl)
noncomputable def cutV (xs:List V) (lo hi:Option Int):List V:=(xs.drop (HT.sIx xs.length 0 lo)).take (HT.sIx xs.length xs.length hi - HT.sIx xs.length 0 lo)
theorem iG (xs:List V) (lo hi:Option Int):(cutV xs lo hi).length<=xs.length:=by
 unfold cutV
 rw [aba,List.length_drop]
 omega
noncomputable def rSlT (K:aad):V->Option Int->Option Int->Hp->VK->Prop:=fun x lo hi H Q=>∃ a xs,x=.ref a/\SqT K H a xs /\
 ¬ (HT.sIx xs.length 0 lo=0/\HT.sIx xs.length xs.length hi=xs.length)/\∀ p,H p=none->Q (.ref p) (upd H p (.tup (cutV xs lo hi)))
theorem vO:SlR X (rSlT X.K):=by
 intro pins s σ H x v vl vu lo hi sl Q I rx hs pl pu h
 obtain ⟨a,xs,rfl,hx,hw,q⟩:=h
 cases rx
 obtain ⟨its,r,ht,hz⟩:=I.tuple hx
 have hlen:its.toArray.size=xs.length:=by rw [aaf]; exact r.length.symm
 refine ⟨"tuple",_,PyProof.Rows.slot_tuple_getitem.lookup,ht.typeIs,?_⟩
 refine HT.getItem_tuple_cut ht hs pl pu (by rw [hlen]; exact hw) ?_ (by rw [hlen]; exact hz)
 rw [hlen]
 refine ⟨.ref s.heap.objs.size,_,I.laid (t':=s.toks) (o:=.tup (cutV xs lo hi)) (fun b ob q=>aac _ q) (aaj _) ?_,rfl,q _ (I.hok.fresh (aaj _))⟩
 exact ⟨aa1 (iG xs lo hi) hz,_,(r.drop (HT.sIx xs.length 0 lo)).take (HT.sIx xs.length xs.length hi - HT.sIx xs.length 0 lo),afa _ _⟩
noncomputable def rCatT (K:aad):R2:=fun x y H Q=>∃ a b xs ys,x=.ref a/\y=.ref b/\SqT K H a xs/\SqT K H b ys/\xs≠[]/\xs.length+ys.length<=sizeLine /\
 (ys=[]->Q (.ref a) H)/\(ys≠[]->∀ p,H p=none->Q (.ref p) (upd H p (.tup (xs++ys))))
theorem Vals.nil_iff {xs:List V} {us:List Value} (r:Vals xs us):us=[]↔xs=[]:=by
 cases r with
 | nil=>simp
 | cons _ _=>simp
theorem uC:OpR X (ab2 .Add) (rCatT X.K):=by
 intro pins s σ H x y v u Q I rx ry h
 obtain ⟨a,b,xs,ys,rfl,rfl,ha,hb,hx,hz,q1,q2⟩:=h
 cases rx
 cases ry
 obtain ⟨its,r1,p1,_⟩:=I.tuple ha
 obtain ⟨its2,r2,p2,_⟩:=I.tuple hb
 refine HT.cat_tup p1 p2 (fun z=>hx (r1.nil_iff.mp z)) (fun z=>⟨.ref a,H,I,rfl,q1 (r2.nil_iff.mp z)⟩) (fun z=>?_) (by rw [<- r1.length,<- r2.length]; exact hz)
 refine ⟨.ref s.heap.objs.size,_,I.laid (t':=s.toks) (o:=.tup (xs++ys)) (fun b ob q=>aac _ q) (aaj _) ?_,rfl,q2 (fun w=>z (r2.nil_iff.mpr w)) _ (I.hok.fresh (aaj _))⟩
 exact ⟨by rw [aau]; exact hz,_,r1.append r2,afa _ _⟩
end
end L2
namespace L2
open PySem PySem.Spec PyProof.Rows
noncomputable def ixN (n:Nat) (i:Int):Option Nat:=if 0<=i then (if i<n then some i.toNat else none) else if -(n:Int)<=i then some (i+n).toNat else none
noncomputable def atI {α:Type} (xs:List α) (i:Int):Option α:=(ixN xs.length i).bind fun j=>xs[j]?
theorem oW {n:Nat} {i:Int} {j:Nat} (h:ixN n i=some j):seqIndex? i n=some j/\j<n /\ -(n:Int)<=i/\i<n:=by
 unfold ixN at h
 by_cases h0:0<=i
 ·rw [if_pos h0] at h
  by_cases h1:i<n
  ·rw [if_pos h1] at h
   have e:i.toNat=j:=aar h
   exact ⟨by rw [seqIndex_of h0 h1,e],by omega,by omega,h1⟩
  ·rw [if_neg h1] at h; cases h
 ·rw [if_neg h0] at h
  by_cases h1 : -(n:Int)<=i
  ·rw [if_pos h1] at h
   have e:(i+n).toNat=j:=aar h
   exact ⟨by rw [seqIndex_neg (by omega) h1,e],by omega,h1,by omega⟩
  ·rw [if_neg h1] at h; cases h
theorem lf {α:Type} {xs:List α} {i:Int} {v:α} (h:atI xs i=some v):∃ j,seqIndex? i xs.length=some j/\xs[j]?=some v/\j<xs.length /\ -(xs.length:Int)<=i/\i<xs.length:=by
 unfold atI at h
 cases e:ixN xs.length i with
 | none=>rw [e] at h; cases h
 | some j =>
  rw [e] at h
  obtain ⟨h1,h2,h3,h4⟩:=oW e
  exact ⟨j,h1,h,h2,h3,h4⟩
theorem aj {α:Type} {xs:List α} {j:Nat} {v:α} (h:xs[j]?=some v):atI xs (j:Int)=some v:=by
 have hj:j<xs.length:=(List.getElem?_eq_some_iff.mp h).1
 have e:ixN xs.length (j:Int)=some j:=by
  unfold ixN
  rw [if_pos (by omega),if_pos (by omega)]; simp
 unfold atI; rw [e]; exact h
noncomputable def lg (b:Expr):Prop:=∀ o i,aeV b false o i=operate [o,i] (acP o i)
noncomputable def IxR (X:Cx) (r:R2):Prop :=
 ∀ (value slice:Expr) (pins:List (Addr×Obj)) (s:Shared) (σ:St) (H:Hp) (x y:V) (v u:Value) (Q:VK),Inv X pins σ H s->RelV x v->RelV y u->r x y H Q ->
  aeV slice false v u=operate [v,u] (acP v u)->wpAny (model X.prog X.w) X.A (adt value slice v u) (EP X pins σ Q) X.xe s
noncomputable def MtR (X:Cx) (id:String) (r:V->List V->Hp->VK->Prop):Prop :=
 ∀ (pins:List (Addr×Obj)) (s:Shared) (σ:St) (H:Hp) (x:V) (xs:List V) (v:Value) (us:List Value) (Q:VK),Inv X pins σ H s->RelV x v->Vals xs us->r x xs H Q ->
  wpAny (model X.prog X.w) X.A (call (.builtin id) (v::us)) (EP X pins σ Q) X.xe s
section
variable {X:Cx} {a b:Expr} {ta tb:TE} {pos:Pos}
theorem IxR.or {r r':R2} (h:IxR X r) (h':IxR X r'):IxR X (fun x y H Q=>r x y H Q\/r' x y H Q):=by
 intro value slice pins s σ H x y v u Q I rx ry q hs
 rcases q with q | q
 ·exact h value slice pins s σ H x y v u Q I rx ry q hs
 ·exact h' value slice pins s σ H x y v u Q I rx ry q hs
theorem bR {r:R2} (hr:IxR X r) (ha:PE X a ta) (hb:PE X b tb) (hs:lg b):PE X (.Subscript a b pos) (tOp r ta tb):=by
 intro pins s σ H Q I h
 exact adT (binT ha hb I h fun v u s2 x y H2 I2 rx ry q=>hr a b pins s2 σ H2 x y v u Q I2 rx ry q (hs _ _))
noncomputable def rIxL (K:aad):R2:=fun x y H Q=>∃ p xs i v,x=.ref p/\y=.int i/\SqL K H p xs/\atI xs i=some v/\Q v H
noncomputable def rIxT (K:aad):R2:=fun x y H Q=>∃ p xs i v,x=.ref p/\y=.int i/\SqT K H p xs/\atI xs i=some v/\Q v H
noncomputable def rIxS:R2:=fun x y H Q=>∃ z i c,x=.str z/\y=.int i/\z.length<=sizeLine/\atI z.cps.toList i=some c/\Q (.str ⟨#[c]⟩) H
theorem ix_list:IxR X (rIxL X.K):=by
 intro value slice pins s σ H x y v u Q I rx ry h hs
 obtain ⟨p,xs,i,z,rfl,rfl,hq,he,q⟩:=h
 cases rx
 obtain ⟨t,rfl⟩:=ry
 obtain ⟨its,r,pl,hz⟩:=I.list hq
 obtain ⟨j,h1,h2,h3,h4,h5⟩:=lf he
 obtain ⟨w,ew,rw'⟩:=r.get h2
 have hl:=r.length
 have hn:=line63
 have fin:EP X pins σ Q w s:=⟨z,H,I,rw',q⟩
 by_cases h0:0<=i
 ·have hj:i.toNat=j:=by
   rw [seqIndex_of h0 h5] at h1
   exact aar h1
  exact item_listR pl.isList h0 (by omega) (by rw [hj]; simpa using ew) fin hs
 ·have hj:(i+(its.toArray.size:Int)).toNat=j:=by
   rw [seqIndex_neg (by omega) h4] at h1
   rw [aaf,<- hl]
   exact aar h1
  exact subscriptTail_builtinR (x:=w) pl.isList.typeIs slot_list_getitem.lookup
   (wpAny_getItem_list_neg (Q:=fun r s'=>r=w/\EP X pins σ Q r s') pl.isList (by omega) (by rw [aaf] <;> omega) (by omega) (by rw [hj]; simpa using ew) ⟨rfl,fin⟩) hs
theorem ix_tup:IxR X (rIxT X.K):=by
 intro value slice pins s σ H x y v u Q I rx ry h hs
 obtain ⟨p,xs,i,z,rfl,rfl,hq,he,q⟩:=h
 cases rx
 obtain ⟨t,rfl⟩:=ry
 obtain ⟨its,r,pl,hz⟩:=I.tuple hq
 obtain ⟨j,h1,h2,h3,h4,h5⟩:=lf he
 obtain ⟨w,ew,rw'⟩:=r.get h2
 have hl:=r.length
 have hn:=line63
 have fin:EP X pins σ Q w s:=⟨z,H,I,rw',q⟩
 exact subscriptTail_builtinR (x:=w) pl.typeIs slot_tuple_getitem.lookup
  (getItem_tuple (j:=j) (Q:=fun r s'=>r=w/\EP X pins σ Q r s') pl (by omega) (by omega) (by rw [aaf,<- hl]; exact h1) (by simpa using ew) ⟨rfl,fin⟩) hs
theorem wM:IxR X rIxS:=by
 intro value slice pins s σ H x y v u Q I rx ry h hs
 obtain ⟨z,i,c,rfl,rfl,hz,he,q⟩:=h
 obtain ⟨t,rfl⟩:=rx
 obtain ⟨t',rfl⟩:=ry
 obtain ⟨j,h1,h2,h3,h4,h5⟩:=lf he
 have hl:z.cps.toList.length=z.length:=by simp [aew]
 rw [hl] at h1 h4 h5
 have hn:=line63
 exact aeS (adR s z t) slot_str_getitem.lookup (getItem_str (c:=c) (by
  have e1:decide (i < -(2 ^ 63:Int))=false:=decide_eq_false (by omega)
  have e2:decide (i ≥ 2 ^ 63)=false:=decide_eq_false (by omega)
  rw [e1,e2,Bool.or_false]) (by rw [h1]; simpa using h2) ⟨.str ⟨#[c]⟩,H,I.tok _,⟨_,rfl⟩,q⟩) hs
noncomputable def rIx (K:aad):R2:=fun x y H Q=>rIxL K x y H Q\/rIxT K x y H Q\/rIxS x y H Q
theorem ix_seq:IxR X (rIx X.K):=ix_list.or (ix_tup.or wM)
theorem pL (its:List Value) (n j:Nat) (u:Value):abn (·.setIfInBounds j u) { cls:=.type "list",data:=.seq its.toArray n }={ cls:=.type "list",data:=.seq (its.set j u).toArray n }:=by
 simp [abn]
theorem Inv.lst {pins:List (Addr×Obj)} {σ:St} {H:Hp} {s:Shared} {p:Addr} {xs:List V} (I:Inv X pins σ H s) (h:H p=some (.lst xs)) :
  ∃ (its:List Value) (n:Nat),Vals xs its/\s.heap.get? p=some { cls:=.type "list",data:=.seq its.toArray n }/\xs.length<=sizeLine:=by
 obtain ⟨z,its,n,r,e⟩:=I.hok p _ h
 exact ⟨its,n,r,e,z⟩
theorem Inv.lstUpd {pins:List (Addr×Obj)} {σ:St} {H:Hp} {s:Shared} {p:Addr} {xs ys:List V} {its its':List Value} {n n':Nat} {f:Obj->Obj} (I:Inv X pins σ H s) (h:H p=some (.lst xs))
  (ho:s.heap.get? p=some { cls:=.type "list",data:=.seq its.toArray n }) (hf:f { cls:=.type "list",data:=.seq its.toArray n }={ cls:=.type "list",data:=.seq its'.toArray n' }) (r:Vals ys its') (hz:ys.length<=sizeLine) (t:Nat) :
  Inv X pins σ (upd H p (.lst ys)) { s with heap:=s.heap.update p f,toks:=t }:=by
 have e:(s.heap.update p f).get? p=some { cls:=.type "list",data:=.seq its'.toArray n' }:=by
  rw [abu f ho (by rw [hf] <;> rfl),hf]
 refine I.write (x:=p) (e:=p) (by rw [h]; trivial) (.inl rfl) (fun b u hb q=>(acI _ _ (abr hb)).trans q) ⟨_,e⟩ ?_
 exact ⟨hz,its',n',r,e⟩
noncomputable def rSetL:V->V->V->Hp->(Hp->Prop)->Prop:=fun o i v H Q=>∃ p xs k j,o=.ref p/\i=.int k/\H p=some (.lst xs)/\ixN xs.length k=some j/\Q (upd H p (.lst (xs.set j v)))
theorem mC:PSet X rSetL:=by
 intro pins s σ H o i v ov iv u Q I ro ri rv h
 obtain ⟨p,xs,k,j,rfl,rfl,hp,hj,q⟩:=h
 cases ro
 obtain ⟨t,rfl⟩:=ri
 obtain ⟨its,n,r,ho,hz⟩:=I.lst hp
 obtain ⟨h1,h2,h3,h4⟩:=oW hj
 have hl:=r.length
 have hn:=line63
 have I':Inv X pins σ (upd H p (.lst (xs.set j v))) { s with heap:=s.heap.update p (abn (·.setIfInBounds j u)) } :=
  I.lstUpd hp ho (pL its n j u) (r.set rv j) (by rw [acF]; exact hz) s.toks
 by_cases h0:0<=k
 ·have hk:k.toNat=j:=by
   rw [seqIndex_of h0 h4] at h1
   exact aar h1
  exact PySem.W.ki_setAt ho h0 (by omega) (by rw [aaf,<- hl]; exact h4) (by rw [hk]; exact ⟨_,I',q⟩)
 ·have hk:(k+(its.toArray.size:Int)).toNat=j:=by
   rw [seqIndex_neg (by omega) h3] at h1
   rw [aaf,<- hl]
   exact aar h1
  exact PySem.W.ki_setBack ho (by omega) (by rw [aaf,<- hl]; exact h3) (by omega) (by rw [hk]; exact ⟨_,I',q⟩)
theorem mB (lo hi:Option Int) (n:Nat):(acv lo hi none n).1=((HT.sIx n 0 lo:Nat):Int)/\(acv lo hi none n).2.1=((HT.sIx n n hi:Nat):Int)/\(acv lo hi none n).2.2=1:=by
 refine ⟨?_,?_,rfl⟩
 ·cases lo with
  | none=>simp [acv,HT.sIx]
  | some i =>
   simp only [acv,HT.sIx,Option.getD_none,show (1:Int) > 0 by decide,if_true]
   by_cases h:i<0
   ·simp only [h,if_true] <;> omega
   ·simp only [h,if_false] <;> omega
 ·cases hi with
  | none=>simp [acv,HT.sIx]
  | some i =>
   simp only [acv,HT.sIx,Option.getD_none,show (1:Int) > 0 by decide,if_true]
   by_cases h:i<0
   ·simp only [h,if_true] <;> omega
   ·simp only [h,if_false] <;> omega
theorem lR (its:List Value) (lo hi:Option Int):slicePick its.toArray lo hi none=((its.drop (HT.sIx its.length 0 lo)).take (HT.sIx its.length its.length hi - HT.sIx its.length 0 lo)).toArray:=by
 obtain ⟨h1,h2,h3⟩:=mB lo hi its.toArray.size
 unfold slicePick
 rw [h1,h2,h3]
 simp only [sliceRange_one,pick_run,aaf] <;> rfl
noncomputable def rSlL (K:aad):V->Option Int->Option Int->Hp->VK->Prop:=fun x lo hi H Q=>∃ a xs,x=.ref a/\SqL K H a xs/\∀ p,H p=none->Q (.ref p) (upd H p (.lst (cutV xs lo hi)))
theorem j6:SlR X (rSlL X.K):=by
 intro pins s σ H x v vl vu lo hi sl Q I rx hs pl pu h
 obtain ⟨a,xs,rfl,hx,q⟩:=h
 cases rx
 obtain ⟨its,r,ht,hz⟩:=I.list hx
 have hlen:=r.length
 refine ⟨"list",_,slot_list_getitem.lookup,ht.isList.typeIs,?_⟩
 refine wpAny_getItem_list_slice ht.isList hs pl pu .none (by simp) ?_ (by rw [aaf] <;> omega)
 rw [lR,<- hlen]
 refine ⟨.ref s.heap.objs.size,_,I.laid (t':=s.toks) (o:=.lst (cutV xs lo hi)) (fun b ob q=>aac _ q) (aaj _) ?_,rfl,q _ (I.hok.fresh (aaj _))⟩
 exact ⟨aa1 (iG xs lo hi) hz,_,0,(r.drop (HT.sIx xs.length 0 lo)).take (HT.sIx xs.length xs.length hi - HT.sIx xs.length 0 lo),aai _ rfl⟩
theorem mU:OpR X (aaS .NotIn) (fun x y H Q=>∃ i j,x=.str i/\y=.str j/\Q (.bl (!(!(acH j i 0 j.length 1).isEmpty))) H):=by
 intro pins s σ H x y v u Q I rx ry h
 obtain ⟨i,j,rfl,rfl,q⟩:=h
 obtain ⟨t,rfl⟩:=rx
 obtain ⟨t',rfl⟩:=ry
 exact notIn_str ⟨.bl _,H,I,rfl,q⟩
theorem gY:CallR X (.builtin "len") (fun xs H Q=>∃ p ys,xs=[.ref p]/\(SqL X.K H p ys\/SqT X.K H p ys)/\Q (.int ys.length) H):=by
 intro pins s σ H xs us Q I r h
 obtain ⟨p,ys,rfl,hq,q⟩:=h
 obtain ⟨u,rfl,rx⟩:=vals1 r
 cases rx
 have hn:=line63
 rcases hq with hq | hq
 ·obtain ⟨its,r',pl,hz⟩:=I.list hq
  have hlen:=r'.length
  exact Calls.call_len_list pl.isList (by simp only [aaf] <;> omega) ⟨.int ys.length,H,I.tok _,⟨s.toks+1,by rw [aaf,hlen]⟩,q⟩
 ·obtain ⟨its,r',pl,hz⟩:=I.tuple hq
  have hlen:=r'.length
  exact len_tuple pl (by simp only [aaf] <;> omega) ⟨.int ys.length,H,I.tok _,⟨s.toks+1,by rw [aaf,hlen]⟩,q⟩
theorem nH:CallR X (.builtin "len") (fun xs H Q=>∃ z,xs=[.str z]/\z.length<=sizeLine/\Q (.int z.length) H):=by
 intro pins s σ H xs us Q I r h
 obtain ⟨z,rfl,hz,q⟩:=h
 obtain ⟨u,rfl,t,rfl⟩:=vals1 r
 have hn:=line63
 exact len_str (by omega) ⟨.int z.length,H,I.tok _,⟨_,rfl⟩,q⟩
theorem CallR.or {f:Value} {r r':List V->Hp->VK->Prop} (h:CallR X f r) (h':CallR X f r'):CallR X f (fun xs H Q=>r xs H Q\/r' xs H Q):=by
 intro pins s σ H xs us Q I rs q
 rcases q with q | q
 ·exact h pins s σ H xs us Q I rs q
 ·exact h' pins s σ H xs us Q I rs q
theorem nG:CallR X (.type "list") (fun xs H Q=>∃ p ys,xs=[.ref p]/\(SqL X.K H p ys\/SqT X.K H p ys)/\∀ l,H l=none->Q (.ref l) (upd H l (.lst ys))):=by
 intro pins s σ H xs us Q I r h
 obtain ⟨p,ys,rfl,hq,q⟩:=h
 obtain ⟨u,rfl,rx⟩:=vals1 r
 cases rx
 have fin:∀ (its:List Value),Vals ys its->ys.length<=sizeLine->∀ (h':Heap) (c':Nat),(∀ b o',s.heap.get? b=some o'->h'.get? b=some o') ->
   h'.get? s.heap.objs.size=some { cls:=.type "list",dict:=none,data:=.seq its.toArray c',slots:=#[] }->EP X pins σ Q (.ref s.heap.objs.size) { s with heap:=h' }:=fun its r' hz h' c' kp e =>
  ⟨.ref s.heap.objs.size,_,I.laid (t':=s.toks) kp (aaj _) (show ObjOk X.prog X.w _ h' _ (.lst ys) from ⟨hz,its,c',r',e⟩),rfl,q _ (I.hok.fresh (aaj _))⟩
 rcases hq with hq | hq
 ·obtain ⟨its,r',pl,hz⟩:=I.list hq
  have hlen:=r'.length
  obtain ⟨o,ho,hc,n,hd⟩:=pl.isList
  exact call_list_seq p (.inl rfl) ho hc hd (fun h' c' kp e=>fin its r' hz h' c' kp e) (by simp only [aaf] <;> omega)
 ·obtain ⟨its,r',pl,hz⟩:=I.tuple hq
  have hlen:=r'.length
  obtain ⟨o,ho,hc,n,hd⟩:=pl
  exact call_list_seq p (.inr rfl) ho hc hd (fun h' c' kp e=>fin its r' hz h' c' kp e) (by simp only [aaf] <;> omega)
theorem mi:CallR X (.type "tuple") (fun xs H Q=>∃ p ys,xs=[.ref p]/\((SqL X.K H p ys/\∀ l,H l=none->Q (.ref l) (upd H l (.tup ys)))\/(SqT X.K H p ys/\Q (.ref p) H))):=by
 intro pins s σ H xs us Q I r h
 obtain ⟨p,ys,rfl,h⟩:=h
 obtain ⟨u,rfl,rx⟩:=vals1 r
 cases rx
 rcases h with ⟨hq,q⟩ | ⟨hq,q⟩
 ·obtain ⟨its,r',pl,hz⟩:=I.list hq
  have hlen:=r'.length
  refine call_tuple_list pl.isList (fun h' kp=>?_) (by simp only [aaf] <;> omega)
  have I1:Inv X pins σ H { s with heap:=h' }:=I.kept (t':=s.toks) kp
  have I2:Inv X pins σ (upd H h'.objs.size (.tup ys)) { s with heap:=h'.push { cls:=.type "tuple",data:=.seq its.toArray } } :=
   I1.laid (t':=s.toks) (fun b o e=>aac _ e) (aaj _) (show ObjOk X.prog X.w _ _ _ (.tup ys) from ⟨hz,its,r',afa _ _⟩)
  exact ⟨.ref h'.objs.size,_,I2,rfl,q _ (I1.hok.fresh (aaj _))⟩
 ·obtain ⟨its,r',pl,hz⟩:=I.tuple hq
  exact call_tuple_same pl ⟨.ref p,H,I,rfl,q⟩
noncomputable def tyV (K:aad) (T:String) (x:V) (H:Hp):Prop:=match x with
 | .str _=>T = "str"
 | .int _=>T = "int"
 | .ref p=>(T = "list" /\ ∃ xs,SqL K H p xs)\/(T = "tuple" /\ ∃ o,K.lookup p=some o/\o.cls=.type "tuple" /\ o.dict=none) \/
   (T = "dict" /\ ((∃ kvs,H p=some (.dK kvs))\/∃ kvs,H p=some (.dT kvs)))\/(T = "set" /\ ∃ S n,H p=some (.set S n))
 | _=>False
theorem vJ {pins:List (Addr×Obj)} {σ:St} {H:Hp} {s:Shared} {T:String} {x:V} {v:Value} (I:Inv X pins σ H s) (r:RelV x v) (ty:tyV X.K T x H) :
  s.TypeIs v T/\∀ a,v=.ref a->∃ ob,s.heap.get? a=some ob/\ob.dict=none:=by
 cases x with
 | str z =>
  obtain ⟨t,rfl⟩:=r
  cases (show T = "str" from ty)
  exact ⟨adR s z t,fun _ e=>nomatch e⟩
 | int i =>
  obtain ⟨t,rfl⟩:=r
  cases (show T = "int" from ty)
  exact ⟨typeIs_int s i t,fun _ e=>nomatch e⟩
 | ref p =>
  cases r
  rcases ty with ⟨rfl,xs,hq⟩ | ⟨rfl,o,hk,hc,hd⟩ | ⟨rfl,hk⟩ | ⟨rfl,S,n,hk⟩
  ·obtain ⟨its,_,pl,_⟩:=I.list hq
   refine ⟨pl.isList.typeIs,fun a e=>?_⟩
   cases e
   obtain ⟨o,n,e,c,hd,_⟩:=pl
   exact ⟨o,e,hd⟩
  ·refine ⟨⟨o,I.kIn p o hk,hc⟩,fun a e=>?_⟩
   cases e
   exact ⟨o,I.kIn _ o hk,hd⟩
  ·have z:∃ o,s.heap.get? p=some o/\o.ExactDict:=by
    rcases hk with ⟨kvs,hk⟩ | ⟨kvs,hk⟩
    ·obtain ⟨_,_,_,_,o,_,_,e,ex,_⟩:=I.hok p _ hk
     exact ⟨o,e,ex⟩
    ·obtain ⟨_,_,_,_,o,_,_,e,ex,_⟩:=I.hok p _ hk
     exact ⟨o,e,ex⟩
   obtain ⟨o,e,ex⟩:=z
   refine ⟨⟨o,e,ex.1⟩,fun a e2=>?_⟩
   cases e2
   exact ⟨o,e,ex.2.1⟩
  ·obtain ⟨o,_,_,_,e,ex,_⟩:=I.hok p _ hk
   refine ⟨⟨o,e,ex.1⟩,fun a e2=>?_⟩
   cases e2
   exact ⟨o,e,ex.2.1⟩
 | _=>exact acz ty
noncomputable def tBM (K:aad) (T:String) (r:V->List V->Hp->VK->Prop) (to:TE) (t:TA):TE:=fun σ H Q=>to σ H fun x H1=>tyV K T x H1/\t σ H1 fun xs H2=>r x xs H2 Q
variable {o e:Expr} {es:List Expr} {to:TE} {t:TA} {name:Str} {apos cpos:Pos} {T id:String} {r:V->List V->Hp->VK->Prop}
theorem tM (pa:PlainAttrs T) (slot:Slot T name id) (hty:typeOf (.builtin id)=pure (.type "method_descriptor")) (hm:MtR X id r) (ho:PE X o to) (ha:PA X (e::es) t)
  (hbase:autoParam (aeg o name X.env (eval o X.env)=eval o X.env) Z2._auto_1)
  (hfew:autoParam (((backTo cpos (aan (e::es) X.env)).all (fun x=>!x.1) && (backToKw cpos (aeY [] X.env)).all (fun x=>x.1.isSome)
   && decide ((e::es).length+([]:List Keyword).length+(if ([]:List Keyword).isEmpty then 0 else 1)<30))=true) Z2._auto_1)
  (hline:autoParam ((apos.endLine==cpos.line)=true) Z2._auto_1) (hs:autoParam (aan (e::es) X.env=(false,eval e X.env)::aan es X.env) Z2._auto_1) (hplain:autoParam ((backTo cpos (aan es X.env)).any (·.1)=false) Z2._auto_1) :
  PE X (.Call (.Attribute o name apos) (e::es) [] cpos) (tBM X.K T r to t):=by
 intro pins s σ H Q I h
 refine wpAny_Call_method_late hbase hfew hline rfl (thn (ho pins s σ H _ I h) fun v s1 ⟨x,H1,I1,r1,ty,q1⟩=>?_)
 obtain ⟨h1,h2⟩:=vJ I1 r1 ty
 refine ⟨T,id,pa,slot,hty,h1,h2,?_⟩
 have hA:=ha cpos pins s1 σ H1 _ I1 q1
 rw [hs] at hA ⊢
 refine Calls.callWith_builtin (by show (false || (backTo cpos (aan es X.env)).any (·.1))=false; rw [hplain] <;> rfl) (Calls.evalArgs_plain ?_)
 exact thn hA fun us s2 ⟨vs,H2,I2,r2,q2⟩=>hm pins s2 σ H2 x vs v us Q I2 r1 r2 q2

end
end L2
namespace L2
open PySem PySem.Spec PyProof.Rows
noncomputable def MtM (X:Cx) (id:String) (r:V->List V->Hp->VK->Prop):Prop :=
 ∀ (pins:List (Addr×Obj)) (s:Shared) (σ:St) (H:Hp) (x:V) (xs:List V) (v:Value) (us:List Value) (Q:VK),Inv X pins σ H s->RelV x v->Vals xs us->r x xs H Q ->
  wpAny (model X.prog X.w) X.A (call (.builtin id) (v::us)) (EP X pins σ Q) X.xe s
theorem Vals.one:∀ {x:V} {us:List Value},Vals [x] us->∃ u,us=[u]/\RelV x u
 | _,_,.cons r .nil=>⟨_,rfl,r⟩
theorem Vals.eraseIdx:∀ {xs:List V} {us:List Value} (i:Nat),Vals xs us->Vals (xs.eraseIdx i) (us.eraseIdx i)
 | _,_,_,.nil=>.nil
 | _,_,0,.cons _ t=>t
 | _,_,i+1,.cons r t=>.cons r (Vals.eraseIdx i t)
theorem Vals.reverse {xs:List V} {us:List Value} (h:Vals xs us):Vals xs.reverse us.reverse:=by
 induction h with
 | nil=>exact .nil
 | cons r t ih=>rw [abV,abV]; exact Vals.append ih (.cons r .nil)
theorem Vals.rep {xs:List V} {us:List Value} (h:Vals xs us):∀ k:Nat,Vals (aaC k xs).flatten (aaC k us).flatten
 | 0=>.nil
 | k+1=>by
  rw [abh,abh,abK,abK]
  exact Vals.append h (Vals.rep h k)
theorem ly {α:Type}:∀ (l:List α) (i:Nat),(l.eraseIdx i).length<=l.length
 | [],_=>aaj _
 | _::_,0=>abP _
 | _::r,i+1=>Nat.succ_le_succ (ly r i)
theorem lG (its:List Value):∀ (k:Nat) (acc:List Value),
  List.foldl (fun x1 x2=>x1++x2) acc.toArray (aaC k its.toArray)=(acc++(aaC k its).flatten).toArray
 | 0,acc=>by simp
 | k+1,acc=>by
  have e:acc.toArray++its.toArray=(acc++its).toArray:=by simp
  have e2:(acc++its)++(aaC k its).flatten=acc++(aaC (k+1) its).flatten:=by
   rw [abh,abK,adp]
  rw [<- e2,<- lG its k (acc++its),<- e,abh,adN]
section
variable {X:Cx} {pins:List (Addr×Obj)} {σ:St} {H:Hp} {s:Shared} {l b:Addr} {xs ys zs:List V}
theorem Inv.lset {its its':List Value} {n:Nat} {f:Array Value->Array Value} {t':Nat} (I:Inv X pins σ H s) (hH:H l=some (.lst xs))
  (e:s.heap.get? l=some { cls:=.type "list",data:=.seq its.toArray n }) (hf:f its.toArray=its'.toArray) (hv:Vals ys its') (hz:ys.length<=sizeLine) :
  Inv X pins σ (upd H l (.lst ys)) { s with heap:=s.heap.update l (abn f),toks:=t' }:=by
 have q:=PySem.IsL.update e f
 rw [hf] at q
 refine I.write (x:=l) (e:=l) (by rw [hH]; exact trivial) (.inl rfl) (fun b' u hb hu=>(acI s.heap (abn f) (abr hb)).trans hu) ⟨_,q⟩ ?_
 exact ⟨hz,its',_,hv,q⟩
theorem Inv.lnew {its:List Value} {t':Nat} (I:Inv X pins σ H s) (hv:Vals ys its) (hz:ys.length<=sizeLine) :
  Inv X pins σ (upd H s.heap.objs.size (.lst ys)) { s with heap:=s.heap.push { cls:=.type "list",data:=.seq its.toArray },toks:=t' } :=
 I.laid (fun _ _ q=>aac _ q) (aaj _) ⟨hz,its,0,hv,aai _ rfl⟩
theorem Inv.fresh (I:Inv X pins σ H s):H s.heap.objs.size=none:=I.hok.fresh (aaj _)
theorem Inv.lstM (I:Inv X pins σ H s) (hH:H l=some (.lst xs)):xs.length<=sizeLine/\∃ (its:List Value) (n:Nat),Vals xs its/\xs.length=its.length/\s.heap.get? l=some { cls:=.type "list",data:=.seq its.toArray n }:=by
 obtain ⟨z,its,n,r,e⟩:=I.hok l _ hH
 exact ⟨z,its,n,r,r.length,e⟩
theorem sK {n:Nat} (h:n<=sizeLine):adq n=false:=by
 unfold adq
 exact decide_eq_false (by omega)
end
section
variable {X:Cx}
noncomputable def oE:V->List V->Hp->VK->Prop:=fun x vs H Q=>∃ l xs y,x=.ref l/\vs=[y]/\H l=some (.lst xs)/\xs.length<sizeLine/\Q .non (upd H l (.lst (xs++[y])))
theorem cz:MtM X "list.append" oE:=by
 intro pins s σ H x vs v us Q I rx rv h
 obtain ⟨l,xs,y,rfl,rfl,hH,hz,q⟩:=h
 cases rx
 obtain ⟨u,rfl,ru⟩:=rv.one
 obtain ⟨z,its,n,r,hl,e⟩:=I.lstM hH
 refine call_meets F.slot_list_append ⟨_,e,rfl⟩ F.entry_list_append (F.args_list_append_2 _ _) (PySem.list_append l its.toArray n u (by rw [aaf]; omega)) ⟨e,?_⟩
 refine ⟨.non,_,I.lset (its':=its++[u]) hH e (by simp) (r.append (.cons ru .nil)) ?_,rfl,q⟩
 rw [aau,List.length_singleton]
 omega
noncomputable def rPopAt:V->List V->Hp->VK->Prop:=fun x vs H Q=>∃ l xs i k y,x=.ref l/\vs=[.int i]/\H l=some (.lst xs) /\ -(2 ^ 63)<=i/\i<2 ^ 63/\seqIndex? i xs.length=some k/\xs[k]?=some y/\Q y (upd H l (.lst (xs.eraseIdx k)))
theorem sM:MtM X "list.pop" rPopAt:=by
 intro pins s σ H x vs v us Q I rx rv h
 obtain ⟨l,xs,i,k,y,rfl,rfl,hH,h1,h2,hk,hy,q⟩:=h
 cases rx
 obtain ⟨u,rfl,ru⟩:=rv.one
 obtain ⟨t,rfl⟩:=ru
 obtain ⟨z,its,n,r,hl,e⟩:=I.lstM hH
 obtain ⟨w,hw,rw'⟩:=r.get hy
 refine call_meets F.slot_list_pop ⟨_,e,rfl⟩ F.entry_list_pop (F.args_list_pop_2 _ _)
  (MeetsSeq.list_pop_at l its.toArray n i t k w (fitsIndex_both h1 h2) (by rw [aaf,<- hl]; exact hk) (by rw [<- abi]; exact hw) (by rw [aaf]; omega)) ⟨e,?_⟩
 refine ⟨y,_,I.lset (its':=its.eraseIdx k) hH e ?_ (r.eraseIdx k) ?_,rw',q⟩
 ·show its.toArray.eraseIdxIfInBounds k=(its.eraseIdx k).toArray
  rw [List.eraseIdxIfInBounds_toArray]
 ·have:=ly xs k
  omega
noncomputable def rCat:R2:=fun x y H Q=>∃ l b xs zs,x=.ref l/\y=.ref b/\H l=some (.lst xs)/\H b=some (.lst zs)/\xs.length+zs.length<=sizeLine/\∀ p,H p=none->Q (.ref p) (upd H p (.lst (xs++zs)))
theorem wx:OpR X (ab2 .Add) rCat:=by
 intro pins s σ H x y v u Q I rx ry h
 obtain ⟨l,b,xs,zs,rfl,rfl,hH,hB,hz,q⟩:=h
 cases rx
 cases ry
 obtain ⟨z,its,n,r,hl,e⟩:=I.lstM hH
 obtain ⟨z2,its2,n2,r2,hl2,e2⟩:=I.lstM hB
 refine PySem.P.add_list e e2 ?_ (by rw [aaf,aaf]; omega)
 have ea:its.toArray++its2.toArray=(its++its2).toArray:=by simp
 rw [ea]
 exact ⟨.ref _,_,I.lnew (t':=s.toks) (r.append r2) (by rw [aau]; omega),rfl,q _ I.fresh⟩
noncomputable def rRep:R2:=fun x y H Q=>∃ l k xs,x=.ref l/\y=.int k/\H l=some (.lst xs) /\ -(2 ^ 63)<=k/\k<2 ^ 63/\xs.length*k.toNat<=sizeLine /\
 ∀ p,H p=none->Q (.ref p) (upd H p (.lst (aaC k.toNat xs).flatten))
theorem uS {α:Type} (xs:List α) (k:Nat):(aaC k xs).flatten.length=k*xs.length:=by
 induction k with
 | zero=>simp
 | succ k ih=>rw [abh,abK,aau,ih,Nat.succ_mul,aeI]
theorem wt:OpR X (ab2 .Mult) rRep:=by
 intro pins s σ H x y v u Q I rx ry h
 obtain ⟨l,k,xs,rfl,rfl,hH,h1,h2,hz,q⟩:=h
 cases rx
 obtain ⟨t,rfl⟩:=ry
 obtain ⟨z,its,n,r,hl,e⟩:=I.lstM hH
 have hlen:its.toArray.size*k.toNat<=sizeLine:=by rw [aaf,<- hl]; exact hz
 have hcap:¬ its.toArray.size*k.toNat > (2 ^ 63 - 1) / 8:=by
  have:(sizeLine:Nat)<=(2 ^ 63 - 1) / 8:=by decide
  omega
 have hfit:¬ (!Builtin.List.listFitsIndex k)=true:=by
  rw [fitsIndex_both h1 h2]
  exact aay
 have hlong:¬ adq (its.toArray.size*k.toNat)=true:=by
  rw [sK hlen]
  exact aay
 have hnew:List.foldl (fun x1 x2=>x1++x2) #[] (aaC (if its.toArray.isEmpty=true then 0 else k.toNat) its.toArray)=(aaC k.toNat its).flatten.toArray:=by
  have f0:∀ m:Nat,List.foldl (fun x1 x2=>x1++x2) #[] (aaC m its.toArray)=(aaC m its).flatten.toArray:=fun m=>by
   have:=lG its m []
   rw [aaV] at this
   exact this
  rw [f0]
  cases its with
  | nil=>simp
  | cons a r'=>rw [if_neg (by simp)]
 refine wpAny_binaryOp_repeat_ref (T := "list") (U := "int") (by decide) ⟨_,e,rfl⟩ (fun s'=>typeIs_int s' k t) noFill_list_mul F.fills_int_mul F.slot_int_rmul repeat_list F.slot_int_index.lookup
  (call_meets F.slot_int_rmul (typeIs_int s k t) F.entry_int_rmul (F.args_int_rmul_2 _ _) (int___rmul___int_list k t l its.toArray n)
   ⟨e,rfl,⟨_,e,rfl⟩,call_meets F.slot_list_mul ⟨_,e,rfl⟩ F.entry_list_mul (F.args_list_mul_2 _ _) (AutoListH.list___mul___list_int_3 l its.toArray n k t hfit hcap hlong) ⟨e,?_⟩⟩)
 rw [hnew]
 exact ⟨.ref _,_,I.lnew (t':=s.toks) (r.rep k.toNat) (by rw [uS,Nat.mul_comm]; exact hz),rfl,q _ I.fresh⟩
end
section
variable {prog:aaq} {w:World} {A:Around} {E:Value->Shared->Prop} {s:Shared}
set_option maxRecDepth 100000 in
end
section
variable {X:Cx}
end
end L2
namespace Att
open PySem PySem.W PySem.Calls PyProof.Rows
theorem jT {P:Params} {h:Heap}:∀ (ns:List Int) (vs:List Value),WellAll P h vs (ns.map WData.int)->IntsAre vs ns:=by
 intro ns
 induction ns with
 | nil =>
  intro vs w
  rw [aeK] at w
  cases w
  exact .nil
 | cons n ns ih =>
  intro vs w
  rw [aao] at w
  cases w with
  | cons a b =>
   cases a
   exact .cons _ _ (ih _ b)
theorem ql {l:OpenLaw} {n:Nat} (hn:l.most=some n) {P:Params} {h:Heap} {args:List WData} {vals:List Value}
  (hpre:l.row.toRowW.claim.pre args=true) (hwl:WellAll P h vals args) :
  ∃ a vs ns,vals=[aaH a]/\args=[WData.list (ns.map WData.int)]/\h.get? a=some { cls:=.type "list",data:=.seq vs.toArray }/\IntsAre vs ns/\ns.length<=n:=by
 have hsh:WShape.hasAll [] args [.list .int]=true:=(pre_splitW hpre).1
 have hc:l.pre.holds [] { args:=args }=true:=(pre_splitW hpre).2
 obtain ⟨d,r,rfl,h1,h2⟩:=hasAllW_cons hsh
 obtain rfl:=hasAllW_nil h2
 obtain ⟨xs,rfl,h3⟩:=hasW_list h1
 obtain ⟨ns,rfl⟩:=items_int h3
 have hlen:ns.length<=n:=by
  unfold OpenLaw.pre at hc
  have h4:(WTm.not (.lt (.lit (.int (n:Int))) (.len (.arg 0)))).holds [] { args:=[.list (ns.map .int)] }=true:=by
   have h4:=(holds_andW hc).1
   rw [hn] at h4
   exact h4
  have h5:=condW_of h4 (w_not (w_lt w_lit (w_len_list (w_arg rfl))))
  rw [aae] at h5
  refine Nat.le_of_not_lt fun q=>?_
  have q':(n:Int)<((ns.length:Nat):Int):=by omega
  first
   | (rw [decide_eq_true q'] at h5; exact absurd h5 (by decide))
   | (simp at h5; omega)
 cases hwl with
 | cons w1 w2 =>
  cases w2
  cases w1 with
  | list ho hall=>exact ⟨_,_,ns,rfl,rfl,ho,jT ns _ hall,hlen⟩
theorem qz (l:OpenLaw) (args:List WData):l.row.toRowW.claim.post args (.bool true) args=true :=
 postW_of (r:=l.row.toRowW) (X:=(true==true))
  (show WShape.has [] (.bool true) .bool=true by first | rfl | decide | simp [WShape.has,WShape.arms,WShape.armsAll])
  (show (WTm.eq .res (.lit (.bool true))).value [] { args:=args,res:=some (.bool true),after:=args }=some (.bool (true==true)) from w_eq_bool (w_res rfl) w_lit) rfl
theorem attach_call {l:OpenLaw} {n:Nat} {q:aaq} {loose:List Str} {XP:(Str->Option Value)->Heap->Prop} {YP:World->Heap->Prop} {d:DefRec}
  (hn:l.most=some n) (hdf:d.params.defaults=[])
  (call:∀ (w:World) (s₀ s₁:Shared) (mg mb:Str->Option Value) (fa:Addr) (o:Obj) (pm cd doc:Value) (a:Addr) (vs:List Value) (ns:List Int),
   Ground q loose [] XP w s₀ mg mb s₁.heap->YP w s₁.heap ->
   s₁.heap.get? fa=some o->o.data=.func (docDef d.name d.params d.body d.scope pm cd doc)->s₁.heap.CodeRec cd d.name->mg d.name=some (.ref fa) ->
   s₁.heap.get? a=some { cls:=.type "list",data:=.seq vs.toArray }->IntsAre vs ns->ns.length<=n->s₁.gens=#[] ->
   adJ (model l.prog w) ae0 (.call (.ref fa) ⟨[.ref a],[]⟩) (fun r s'=>r=.ok (.ret (.bool true))/\OldK s₁.heap s'.heap/\s'.os=s₁.os/\ad9 s'.gens) s₁) :
  WalkO q loose XP YP l.row.toRowW d [] (fun f vs=>PySem.call f vs):=by
 intro w s₀ s₁ mg mb G Y fa o pm cd doc dV kV ho hd hcd hD hmg hg args vals as hpre hlay hrd hwl hlo
 obtain rfl:dV=.none:=Dflts.none hD hdf
 obtain rfl:kV=.none:=Dflts.noKw hD
 obtain ⟨a,vs,ns,rfl,rfl,hobj,hints,hlen⟩:=ql hn hpre hwl
 refine enter_call (ac9 (call w s₀ s₁ mg mb fa o pm cd doc a vs ns G Y ho (fd_plain hd) hcd hmg hobj hints hlen hg) fun r s' hq=>?_)
 obtain ⟨rfl,h2,h3,h4⟩:=hq
 exact ⟨.inl ⟨.bool true,.bool true,[],rfl,fun _=>rfl,.bool true,qz l _,fun _=>⟨aeC,fun _ hm=>(nomatch hm)⟩⟩,h2,h3,h4⟩
section
variable {prog:aaq} {w:World} {A:Around} {E:Value->Shared->Prop} {s:Shared} {K:Frag}
end
end Att
namespace L2
open PySem PySem.Spec PyProof.Rows
theorem lj:∀ {vs:List Value} {ns:List Int},IntsAre vs ns->Vals (ns.map V.int) vs
 | _,_,.nil=>.nil
 | _,_,.cons n t h=>.cons ⟨t,rfl⟩ (lj h)
end L2
namespace L2
open PySem PySem.Spec PyProof.Rows
end L2

namespace L2
open PySem PySem.Spec PyProof.Rows
noncomputable def dQ (s:Stmt):Arguments:=match s with
 | .FunctionDef _ a _ _ _ _ _ _ _ _=>a
 | _=>{ posonlyargs:=[],args:=[],vararg:=none,kwonlyargs:=[],kw_defaults:=[],kwarg:=none,defaults:=[] }
noncomputable def bz (s:Stmt):List Stmt:=match s with
 | .FunctionDef _ _ b _ _ _ _ _ _ _=>b
 | _=>[]
noncomputable def ar (s:Stmt):Scope:=match s with
 | .FunctionDef _ _ _ _ _ _ sc _ _ _=>sc
 | _=>{ kind:=.function,names:=[],isGenerator:=false,isCoroutine:=false }
noncomputable abbrev CX0:CXT:=fun _ _ _ _ _ _=>False
noncomputable abbrev E0:XK:=fun _ _ _=>False
theorem pass0 {X:Cx}:Passes CX0 X E0:=fun _ _ _ _ _ _ _ h=>h.elim
structure Fun (K:aad) (x qual:Str) (st:Stmt) (f:Addr) (fd:aaT):Prop where
 ex:∃ (oc:Value) (od:Option Addr) (kV doc pm:Value) (an:Option Addr) (cdv ct:Value) (osl:Array (Option Value)),
  fd=acy x qual (dQ st) (bz st) (ar st) .none kV doc pm an cdv ct/\K.lookup f=some ⟨oc,od,.func fd,osl⟩/\ad1 K cdv qual=true
 kp:abv K (.ref f)=true
section
variable {P:aaq} {w:World} {K:aad} {mg:Str->Option Value} {base:Heap}
theorem Fun.ok {x qual:Str} {st:Stmt} {f:Addr} {fd:aaT} {N ps:List Str} {k:Nat} {sp:Sp} (F:Fun K x qual st f fd) (S:aB N ps (ar st)) (len:∀ vs H Q E,sp vs H Q E->vs.length=ps.length)
  (hbody:∀ (cdv:Value) (A:Around) (outer:List Env) (s:Shared) (H:Hp) (vs:List V) (Q:VK) (E:XK),Room k (A.deeper (envOfC qual (ar st) s.heap.objs.size f cdv))->sp vs H Q E ->
   ∃ t,PSs (cxOf CX0 P w K mg base N qual (ar st) f cdv A outer s H E).nox (bz st) t/\t { nx:=fun _ H'=>Q .non H',rt:=Q } (start N vs) H):FnOk P w K mg base CX0 (k+1) f fd ps sp:=by
 obtain ⟨oc,od,kV,doc,pm,an,cdv,ct,osl,rfl,lk,hcd⟩:=F.ex
 refine tP lk hcd S len fun A outer s H vs Q E hr hsp=>?_
 obtain ⟨t,h,q⟩:=hbody cdv A outer s H vs Q E hr hsp
 exact ⟨t,h.nox,q⟩
theorem Fun.binds {x qual:Str} {st:Stmt} {f:Addr} {fd:aaT} {ps:List Str} (F:Fun K x qual st f fd)
  (h:∀ (kV doc pm:Value) (an:Option Addr) (cdv ct:Value) (us:List Value),us.length=ps.length->acL (acy x qual (dQ st) (bz st) (ar st) .none kV doc pm an cdv ct) ⟨us,[]⟩=pure (ps.zip us)):Binds K fd ps []:=by
 obtain ⟨oc,od,kV,doc,pm,an,cdv,ct,osl,rfl,lk,hcd⟩:=F.ex
 exact .all (h kV doc pm an cdv ct)
theorem rh {x qual:Str} {st:Stmt} {f:Addr} {oc:Value} {od an:Option Addr} {osl:Array (Option Value)} {kV doc pm cdv ct:Value} (l:K.lookup f=some ⟨oc,od,.func (acy x qual (dQ st) (bz st) (ar st) .none kV doc pm an cdv ct),osl⟩)
  (c:ad1 K cdv qual=true) (k:abv K (.ref f)=true):Fun K x qual st f (acy x qual (dQ st) (bz st) (ar st) .none kV doc pm an cdv ct):=⟨⟨oc,od,kV,doc,pm,an,cdv,ct,osl,rfl,l,c⟩,k⟩
end
section
variable {X:Cx}
theorem pv (i:Nat) {x:Str} {pos:Pos} (hN:autoParam (X.N[i]?=some x) Z2._auto_1) (hv:autoParam (Vis X.env.scope x) Z5._auto_1) (hd:autoParam ((x==("__debug__" : Str))=false) Z1._auto_1)
  (hcd:autoParam ((x==("__classdict__" : Str))=false) Z1._auto_1):PE X (.Name x pos) (tVar i):=wa hN hv hd hcd
end
theorem iteF {A B:Prop} (h:B):if false=true then A else B:=by
 rw [if_neg aay]
 exact h
theorem iteT {A B:Prop} (h:A):if true=true then A else B:=by
 rw [if_pos rfl]
 exact h
theorem ite2 {c A B:Prop} [Decidable c] (h1:c->A) (h2:¬ c->B):if c then A else B:=by
 by_cases h:c
 ·rw [if_pos h]
  exact h1 h
 ·rw [if_neg h]
  exact h2 h
noncomputable def Same (H H':Hp):Prop:=∀ b o,H b=some o->H' b=some o
theorem Same.refl (H:Hp):Same H H:=fun _ _ h=>h
theorem Same.free {H H':Hp} (e:Same H H') {l:Addr} (h:H' l=Option.none):H l=Option.none:=by
 cases q:H l with
 | none=>rfl
 | some o =>
  rw [e l o q] at h
  cases h
theorem Same.seq {K:aad} {H H':Hp} {a:Addr} {xs:List V} (e:Same H H') (h:SqL K H a xs):SqL K H' a xs:=by
 rcases h with (h | ⟨o,h⟩) | h
 ·exact .inl (.inl (e _ _ h))
 ·exact .inl (.inr ⟨o,e _ _ h⟩)
 ·exact .inr h
end L2
namespace L2
open PySem PySem.Spec PyProof.Rows
section
variable {κ:Type} [DecidableEq κ]
noncomputable def valV (kvs:List (κ×V)) (k:κ):Option V:=(kvs.find? fun kv=>decide (kv.1=k)).map (·.2)
noncomputable def putK (kvs:List (κ×V)) (k:κ) (v:V):List (κ×V) :=
 if (kvs.any fun kv=>decide (kv.1=k))=true then kvs.map (fun kv=>if kv.1=k then (kv.1,v) else kv) else kvs++[(k,v)]
theorem iK {p:κ×V} {r:List (κ×V)} {k:κ} (e:p.1=k):valV (p::r) k=some p.2:=by simp [valV,abx,e]
theorem iL {p:κ×V} {r:List (κ×V)} {k:κ} (e:¬ p.1=k):valV (p::r) k=valV r k:=by simp [valV,abx,e]
theorem oj (kvs:List (κ×V)) (k:κ) (v:V):(putK kvs k v).length<=kvs.length+1:=by
 unfold putK
 split
 ·rw [aae]; omega
 ·rw [aau,abj,ae8]; omega
theorem RelO.isSome_eq {o:Option V} {u:Option Value} (r:RelO o u):o.isSome=u.isSome:=by
 cases o with
 | none=>cases u with
  | none=>rfl
  | some _=>exact (show False from r).elim
 | some _=>cases u with
  | none=>exact (show False from r).elim
  | some _=>rfl
theorem KV.val {kvs:List (κ×V)} {vs:List (κ×Value)} (r:KV kvs vs) (k:κ):RelO (valV kvs k) (aes vs k):=by
 unfold KV at r
 induction r with
 | nil=>exact acX
 | @cons p q ps qs h t ih =>
  obtain ⟨h1,h2⟩:=h
  by_cases e:p.1=k
  ·have e':q.1=k:=h1.symm.trans e
   have b:aes (q::qs) k=some q.2:=by simp [aes,abx,e']
   rw [iK e,b]; exact h2
  ·have e':¬ q.1=k:=fun z=>e (h1.trans z)
   have b:aes (q::qs) k=aes qs k:=by simp [aes,abx,e']
   rw [iL e,b]; exact ih
theorem KV.any {kvs:List (κ×V)} {vs:List (κ×Value)} (r:KV kvs vs) (k:κ):(kvs.any fun kv=>decide (kv.1=k))=vs.any fun kv=>decide (kv.1=k):=by
 unfold KV at r
 induction r with
 | nil=>rfl
 | cons h t ih=>rw [List.any_cons,List.any_cons,ih,h.1]
theorem KV.repl {kvs:List (κ×V)} {vs:List (κ×Value)} (r:KV kvs vs) (k:κ) {y:V} {u:Value} (ry:RelV y u) :
  KV (kvs.map fun kv=>if kv.1=k then (kv.1,y) else kv) (vs.map fun kv=>if kv.1=k then (kv.1,u) else kv):=by
 unfold KV at r ⊢
 induction r with
 | nil=>exact .nil
 | @cons p q ps qs h t ih =>
  rw [aao,aao]
  refine .cons ?_ ih
  obtain ⟨h1,h2⟩:=h
  by_cases e:p.1=k
  ·rw [if_pos e,if_pos (h1.symm.trans e)]; exact ⟨h1,ry⟩
  ·rw [if_neg e,if_neg (fun z=>e (h1.trans z))]; exact ⟨h1,h2⟩
theorem KV.put {kvs:List (κ×V)} {vs:List (κ×Value)} (r:KV kvs vs) (k:κ) {y:V} {u:Value} (ry:RelV y u):KV (putK kvs k y) (stored vs k u):=by
 unfold putK stored
 rw [r.any k]
 by_cases e:(vs.any fun kv=>decide (kv.1=k))=true
 ·rw [if_pos e,if_pos e]; exact r.repl k ry
 ·rw [if_neg e,if_neg e]; exact Paired.snoc r ⟨rfl,ry⟩
theorem KV.keys {kvs:List (κ×V)} {vs:List (κ×Value)} (r:KV kvs vs):kvs.map (·.1)=vs.map (·.1):=by
 unfold KV at r
 induction r with
 | nil=>rfl
 | cons h t ih=>rw [aao,aao,ih,h.1]
theorem KV.length {kvs:List (κ×V)} {vs:List (κ×Value)} (r:KV kvs vs):kvs.length=vs.length:=Paired.length r
end
theorem ic {P:aaq} {w:World} {k:Key} {u:Value} (r:RelV (kV k) u):(aR P w).is k u=true:=by
 cases k with
 | inl i=>obtain ⟨t,e⟩:=(show ∃ t,u=Value.int i t from r); subst e; exact oi P w i t
 | inr x=>obtain ⟨t,e⟩:=(show ∃ t,u=ab9 x t from r); subst e; exact oh P w x t
theorem lB {P:aaq} {w:World}:∀ {ks:List Key} {us:List Value},Vals (ks.map kV) us->ItemsAre (aR P w) ks us
 | [],_,r=>by rw [aeK] at r; cases r; exact .nil
 | k::ks,_,r=>by
  rw [aao] at r
  cases r with
  | cons h t=>exact .cons (ic h) (lB t)
noncomputable abbrev KT (H:Hp):List (List Key×V)->List (List Key×Addr×Value)->Prop:=Paired fun p q=>p.1=q.1/\H q.2.1=some (.tup (p.1.map kV))/\RelV p.2 q.2.2
theorem KT.val {H:Hp} {kvs:List (List Key×V)} {xs:List (List Key×Addr×Value)} (r:KT H kvs xs) (k:List Key):RelO (valV kvs k) ((atKey xs k).map (·.2)):=by
 induction r with
 | nil=>exact acX
 | @cons p q ps qs h t ih =>
  obtain ⟨h1,_,h2⟩:=h
  by_cases e:p.1=k
  ·have e':q.1=k:=h1.symm.trans e
   have b:atKey (q::qs) k=some q.2:=by simp [atKey,abx,e']
   rw [iK e,b]; exact h2
  ·have e':¬ q.1=k:=fun z=>e (h1.trans z)
   have b:atKey (q::qs) k=atKey qs k:=by simp [atKey,abx,e']
   rw [iL e,b]; exact ih
section
variable {P:aaq} {w:World} {H:Hp} {h:Heap} {a:Addr}
theorem tI {u:HO} (ok:HOk P w H h) (e:Rd H a u):ObjOk P w H h a u:=e.ok ok
theorem gc {kvs:List (Key×V)} (ok:HOk P w H h) (e:Rd H a (.dK kvs)):kvs.length<=sizeLine/\(a==ach)=false/\∃ vs,KV kvs vs/\h.DictOf (aR P w) a vs :=
 show ObjOk P w H h a (.dK kvs) from tI ok e
theorem pQ {kvs:List (Key×V)} (ok:HOk P w H h) (e:H a=some (.dK kvs)):kvs.length<=sizeLine/\(a==ach)=false/\∃ vs,KV kvs vs/\h.DictOf (aR P w) a vs:=gc ok (.inl e)
theorem jQ {ks:List Key} (ok:HOk P w H h) (e:H a=some (.tup (ks.map kV))):(tupleKind (aR P w)).is h ks a:=by
 obtain ⟨_,its,r,o,h1,h2,n,h3⟩:=(show ObjOk P w H h a (.tup (ks.map kV)) from ok a _ e)
 exact ⟨o,its.toArray,n,h1,h2,h3,by simpa using lB r⟩
theorem jZ {kvs:List (List Key×V)} (ok:HOk P w H h) (e:Rd H a (.dT kvs)):kvs.length<=sizeLine/\(a==ach)=false /\
  ∃ xs,KT H kvs xs/\h.DictOfH (tupleKind (aR P w)) a xs:=by
 obtain ⟨z,y,xs,r,o,es,ep,h1,h2,h3,h4,h5⟩:=(show ObjOk P w H h a (.dT kvs) from tI ok e)
 refine ⟨z,y,xs,r,o,es,ep,h1,h2,h3,h4,fun x hx=>?_,h5⟩
 have all:∀ {l:List (List Key×V)} {m:List (List Key×Addr×Value)},KT H l m->∀ x∈m,(tupleKind (aR P w)).is h x.1 x.2.1:=by
  intro l m q
  induction q with
  | nil=>intro x hx; exact nomatch hx
  | @cons p q ps qs hq t ih =>
   intro x hx
   rcases List.mem_cons.mp hx with e | hx
   ·subst e
    exact jQ ok (by rw [<- hq.1]; exact hq.2.1)
   ·exact ih x hx
 exact all r x hx
end
noncomputable def DGet (H:Hp) (a:Addr) (y:V) (r:Option V):Prop :=
 (∃ kvs k,Rd H a (.dK kvs)/\y=kV k/\r=valV kvs k)\/∃ kvs k b,Rd H a (.dT kvs)/\y=.ref b/\H b=some (.tup (k.map kV))/\r=valV kvs k
theorem DGet.k {H:Hp} {a:Addr} {kvs:List (Key×V)} {k:Key} (e:H a=some (.dK kvs)):DGet H a (kV k) (valV kvs k):=.inl ⟨kvs,k,.inl e,rfl,rfl⟩
section
variable {X:Cx} {pins:List (Addr×Obj)} {σ:St} {H:Hp} {s:Shared} {a:Addr} {y v:V} {u r:Value} {o:Option V} {A:Around} {E:Value->Shared->Prop}
theorem Inv.big (I:Inv X pins σ H s):ach<s.heap.objs.size:=by
 have h:aaD<s.heap.objs.size:=(I.mod.glob.keeps I.bk).lt
 exact Nat.lt_trans (by decide) h
theorem rG {Q:Value->Shared->Prop} (hu:A.units+1<cLine) (I:Inv X pins σ H s) (g:DGet H a y (some v)) (ry:RelV y u) (h:∀ w' s',Inv X pins σ H s'->RelV v w'->Q w' s') :
  wpAny (model X.prog X.w) A (acP (.ref a) u) Q E s:=by
 rcases g with ⟨kvs,k,e,ey,l⟩ | ⟨kvs,k,b,e,ey,eb,l⟩
 ·subst ey
  obtain ⟨z,hd,vs,rel,dd⟩:=gc I.hok e
  obtain ⟨w',hw,rw'⟩:=RelO.some_of (v:=v) (o:=aes vs k) (by rw [l]; exact rel.val k)
  exact wpAny_getItem_of (ic ry) dd.mapOf hw (h w' _ (I.tok _) rw')
 ·subst ey
  cases (show u=aaH b from ry)
  obtain ⟨z,hd,xs,rel,dd⟩:=jZ I.hok e
  obtain ⟨w',hw,rw'⟩:=RelO.some_of (v:=v) (o:=(atKey xs k).map (·.2)) (by rw [l]; exact rel.val k)
  obtain ⟨p,hp,hp2⟩:=Option.map_eq_some_iff.mp hw
  refine wpAny_getItem_heap (aeb hu) (jQ I.hok eb) dd hp ?_
  rw [hp2]
  exact h w' _ (I.tok _) rw'
theorem xG {Q:Value->Shared->Prop} (hu:A.units+1<cLine) (I:Inv X pins σ H s) (g:DGet H a y o) (ry:RelV y u) (h:∀ s',Inv X pins σ H s'->Q (.bool o.isSome) s') :
  wpAny (model X.prog X.w) A (aaS .In u (.ref a)) Q E s:=by
 rcases g with ⟨kvs,k,e,ey,l⟩ | ⟨kvs,k,b,e,ey,eb,l⟩
 ·subst ey
  obtain ⟨z,hd,vs,rel,dd⟩:=gc I.hok e
  refine wpAny_in_of (ic ry) hd dd.mapOf ?_
  rw [<- (rel.val k).isSome_eq,<- l]
  exact h _ (I.tok _)
 ·subst ey
  cases (show u=aaH b from ry)
  obtain ⟨z,hd,xs,rel,dd⟩:=jZ I.hok e
  refine wpAny_in_heap (aeb hu) (jQ I.hok eb) hd dd ?_
  have q:=(rel.val k).isSome_eq
  rw [Option.isSome_map] at q
  rw [<- q,<- l]
  exact h _ (I.tok _)
theorem vh {Q:Value->Shared->Prop} (hu:A.units+1<cLine) (I:Inv X pins σ H s) (g:DGet H a y o) (ry:RelV y u) (h:∀ s',Inv X pins σ H s'->Q (.bool (!o.isSome)) s') :
  wpAny (model X.prog X.w) A (aaS .NotIn u (.ref a)) Q E s:=by
 rcases g with ⟨kvs,k,e,ey,l⟩ | ⟨kvs,k,b,e,ey,eb,l⟩
 ·subst ey
  obtain ⟨z,hd,vs,rel,dd⟩:=gc I.hok e
  refine wpAny_notIn_of (ic ry) hd dd.mapOf ?_
  rw [<- (rel.val k).isSome_eq,<- l]
  exact h _ (I.tok _)
 ·subst ey
  cases (show u=aaH b from ry)
  obtain ⟨z,hd,xs,rel,dd⟩:=jZ I.hok e
  refine wpAny_notIn_heap (aeb hu) (jQ I.hok eb) hd dd ?_
  have q:=(rel.val k).isSome_eq
  rw [Option.isSome_map] at q
  rw [<- q,<- l]
  exact h _ (I.tok _)
theorem vg {h':Heap} {t':Nat} {ob:HO} (I:Inv X pins σ H s) (mu:Mut (H a)) (hs:ace a s.heap h') (he:∃ q,h'.get? a=some q) (new:ObjOk X.prog X.w (upd H a ob) h' a ob) :
  Inv X pins σ (upd H a ob) { s with heap:=h',toks:=t' } :=
 I.write (x:=a) (e:=a) mu (.inl rfl) (fun b q hb z=>(hs.2 b hb).trans z) he new
theorem xb {P:aaq} {w:World} {H':Hp} {h':Heap} {kvs:List (Key×V)} {vs:List (Key×Value)} (z:kvs.length<=sizeLine) (hd:(a==ach)=false) (rel:KV kvs vs) (dd:h'.DictOf (aR P w) a vs) :
  ObjOk P w H' h' a (.dK kvs):=⟨z,hd,vs,rel,dd⟩
end
section
variable {X:Cx} {pins:List (Addr×Obj)} {σ:St} {H:Hp} {s:Shared} {a:Addr} {kvs:List (Key×V)} {k:Key} {u:Value} {A:Around} {E:Value->Shared->Prop}
theorem xE {Q:Value->Shared->Prop} (I:Inv X pins σ H s) (e:Rd H a (.dK kvs)) (h:∀ t s',Inv X pins σ H s'->Q (.int kvs.length t) s'):wpAny (model X.prog X.w) A (call (.builtin "len") [.ref a]) Q E s:=by
 obtain ⟨z,hd,vs,rel,dd⟩:=gc I.hok e
 refine call_len_dict hd dd (by rw [<- rel.length]; rw [aaA] at z; omega) ?_
 rw [<- rel.length]
 exact h _ _ (I.tok _)
end
noncomputable def NoSl (i:Expr):Prop:=∀ ov iv,aeV i false ov iv=operate [ov,iv] (acP ov iv)
theorem t8 {prog:aaq} {w:World} {A:Around} {E:Value->Shared->Prop} {s:Shared} {env:Env} {value slice:Expr} {pos:Pos} {T id:String} {Q:Value->Shared->Prop}
  (hl:typeLookup (.type T) "__getitem__" = pure (some (.builtin id))) (hs:NoSl slice)
  (h:wpAny (model prog w) A (eval value env) (fun o s₁=>wpAny (model prog w) A (eval slice env) (fun i s₂=>s₂.TypeIs o T/\wpAny (model prog w) A (acP o i) Q E s₂) E s₁) E s) :
  wpAny (model prog w) A (eval (.Subscript value slice pos) env) Q E s:=by
 refine adT (aaI h (fun o s₁ h₁=>aaI h₁ (fun i s₂ h₂=>?_) fun _ _ x=>x) fun _ _ x=>x)
 obtain ⟨hT,h₂⟩:=h₂
 unfold adt
 refine aaa ?_
 rw [getitemInPython_of_ne hT.not_modules]
 refine aaa (wpAny_specialOf hT hl ?_)
 have fin:wpAny (model prog w) A (aeV slice false o i) (fun r s₃=>wpAny (model prog w) A (letTemporaryGo value o r >>= fun _=>pure r) Q E s₃) E s₂:=by
  rw [hs o i]
  exact wpAny_operating (aaI h₂ (fun r s₃ h₃=>aaa (wpAny_letTemporaryGo (aag h₃))) fun _ _ x=>x)
 first
  | exact aag (aaa fin)
  | exact aaa (aag (aaa fin))
  | exact aaa fin
theorem ou {X:Cx} {pins:List (Addr×Obj)} {σ:St} {H:Hp} {s:Shared} {a:Addr} {y:V} {o:Option V} (I:Inv X pins σ H s) (g:DGet H a y o):s.TypeIs (.ref a) "dict" := by
 rcases g with ⟨kvs,k,e,_,_⟩ | ⟨kvs,k,b,e,_,_,_⟩
 ·obtain ⟨_,_,vs,_,dd⟩:=gc I.hok e
  exact dd.typeIs
 ·obtain ⟨_,_,xs,_,dd⟩:=jZ I.hok e
  exact dd.typeIs
section
variable {X:Cx} {o i e value:Expr} {pos pos' tpos:Pos} {td ty tv:TE}
end
theorem tw {P:aaq} {w:World} {H:Hp} (h:Heap) (hb:ach<h.objs.size):ObjOk P w H (h.push { cls:=.type "dict",data:=.dict #[] }) h.objs.size (.dK []) :=
 ⟨abl _,beq_eq_false_iff_ne.mpr (abr (aas hb)),[],.nil,Heap.DictOf.new h⟩
section
variable {X:Cx} {pos:Pos}
end
noncomputable def tPairs:List (TE×TE)->St->Hp->(List (V×V)->Hp->Prop)->Prop
 | [],_,H,Q=>Q [] H
 | (tk,tv)::r,σ,H,Q=>tk σ H fun x H1=>tv σ H1 fun y H2=>tPairs r σ H2 fun ps H3=>Q ((x,y)::ps) H3
noncomputable abbrev VV:List (V×V)->List (Value×Value)->Prop:=Paired fun p q=>RelV p.1 q.1/\RelV p.2 q.2
noncomputable def PPs (X:Cx) (pos:Pos) (keys:List (Option Expr)) (values:List Expr) (trs:List (TE×TE)):Prop :=
 ∀ (pins:List (Addr×Obj)) (s:Shared) (σ:St) (H:Hp) (Q:List (V×V)->Hp->Prop),Inv X pins σ H s->tPairs trs σ H Q ->
  wpAny (model X.prog X.w) X.A (evalPairs (pairTrees keys values X.env pos)) (fun vs s'=>∃ ps H',Inv X pins σ H' s'/\VV ps vs/\Q ps H') X.xe s
theorem uj {X:Cx} {pos:Pos}:PPs X pos [] [] []:=fun pins s σ H Q I h=>pairTrees_nil_walk ⟨[],H,I,.nil,h⟩
theorem sk {X:Cx} {pos:Pos} {k v:Expr} {ks:List (Option Expr)} {vs:List Expr} {tk tv:TE} {trs:List (TE×TE)} (hk:PE X k tk) (hv:PE X v tv) (hr:PPs X pos ks vs trs) :
  PPs X pos (some k::ks) (v::vs) ((tk,tv)::trs):=fun pins s σ H Q I h =>
 pairTrees_cons_walk (thn (hk pins s σ H _ I h) fun u s1 ⟨x,H1,I1,rx,q1⟩=>thn (hv pins s1 σ H1 _ I1 q1) fun w2 s2 ⟨y,H2,I2,ry,q2⟩ =>
  thn (hr pins s2 σ H2 _ I2 q2) fun ws s3 ⟨ps,H3,I3,rel,q3⟩=>⟨(x,y)::ps,H3,I3,.cons ⟨rx,ry⟩ rel,q3⟩)
noncomputable def IsD (H:Hp) (a:Addr):Prop:=(∃ kvs,Rd H a (.dK kvs))\/∃ kvs,Rd H a (.dT kvs)
theorem wS {X:Cx} {pins:List (Addr×Obj)} {σ:St} {H:Hp} {s:Shared} {a:Addr} (I:Inv X pins σ H s) (d:IsD H a) :
  s.TypeIs (.ref a) "dict" /\ (∀ b,aaH a=.ref b->∃ ob,s.heap.get? b=some ob/\ob.dict=none)/\(a==ach)=false:=by
 rcases d with ⟨kvs,e⟩ | ⟨kvs,e⟩
 ·obtain ⟨_,hd,vs,_,dd⟩:=gc I.hok e
  refine ⟨dd.typeIs,fun b q=>?_,hd⟩
  cases q
  obtain ⟨ob,_,_,h1,h2,_⟩:=dd
  exact ⟨ob,h1,h2.2.1⟩
 ·obtain ⟨_,hd,xs,_,dd⟩:=jZ I.hok e
  refine ⟨dd.typeIs,fun b q=>?_,hd⟩
  cases q
  obtain ⟨ob,_,_,h1,h2,_⟩:=dd
  exact ⟨ob,h1,h2.2.1⟩
section
variable {X:Cx} {pins:List (Addr×Obj)} {σ:St} {H:Hp} {s:Shared} {a:Addr} {y d:V} {u r:Value} {o:Option V} {A:Around} {E:Value->Shared->Prop}
end
section
variable {X:Cx} {o e f:Expr} {apos cpos:Pos} {td ty tx:TE}
end
section
variable {X:Cx} {pins:List (Addr×Obj)} {σ:St} {H:Hp} {s:Shared} {a:Addr} {kvs:List (Key×V)} {A:Around} {E:Value->Shared->Prop}
end
section
variable {X:Cx} {pins:List (Addr×Obj)} {σ:St} {H:Hp} {s:Shared} {a:Addr} {y:V} {u:Value} {A:Around} {E:Value->Shared->Prop}
end
end L2
namespace L2
open PySem PySem.Spec PyProof.Rows
section
variable {X:Cx}
theorem rM:CallR X (.builtin "len") (fun xs H Q=>∃ a kvs,xs=[V.ref a]/\H a=some (.dK kvs)/\Q (.int kvs.length) H):=by
 intro pins s σ H xs us Q I r h
 obtain ⟨a,kvs,rfl,ha,q⟩:=h
 obtain ⟨u,rfl,ru⟩:=vals1 r
 cases ru
 exact xE I (.inl ha) fun t s' I'=>⟨.int kvs.length,H,I',⟨t,rfl⟩,q⟩
end
section
variable {κ:Type} [DecidableEq κ]
end
end L2
set_option maxHeartbeats 4000000
namespace L2
open PySem PySem.Spec PyProof.Rows
noncomputable def clOf (cells:List (Str×Addr)):List (Str×acE)->List (Str×Addr)->List (Str×Addr)
 | [],acc=>acc
 | (n,k)::r,acc=>if k==.free then clOf cells r ((n,(cells.lookup n).getD 0)::acc) else clOf cells r acc
theorem j0 {env:Env}:∀ (names:List (Str×acE)) (acc:List (Str×Addr)),(∀ x∈names,x.2=.free->∃ c,env.cells.lookup x.1=some c) ->
  (forIn names acc fun (x:Str×acE) (cs:List (Str×Addr))=>match x with
   | (name,kind)=>if (kind==abg)=true then (do let c <- cellOf env name; pure (adO ((name,c)::cs))) else pure (adO cs):Sem (List (Str×Addr)))=pure (clOf env.cells names acc)
 | [],acc,_=>by simp [clOf]
 | (n,k)::r,acc,h=>by
  have hr:=fun acc=>j0 (env:=env) r acc fun x hx=>h x (aav _ hx)
  rw [List.forIn_cons]
  unfold clOf
  by_cases hk:(k==abg)=true
  ·obtain ⟨c,hc⟩:=h (n,k) aat (by simpa using hk)
   have hc':env.cells.lookup n=some c:=hc
   have e:cellOf env n=pure c:=by unfold cellOf; rw [hc']
   rw [if_pos hk]
   dsimp only
   rw [if_pos hk,e,pure_bind,pure_bind]
   rw [hc']
   exact hr _
  ·rw [if_neg hk]
   dsimp only
   rw [if_neg hk,pure_bind]
   exact hr acc
theorem gj {scope:Scope} {env:Env} (h:∀ x∈scope.names,x.2=.free->∃ c,env.cells.lookup x.1=some c):closureFor scope env=pure (clOf env.cells scope.names []):=by
 have e:=j0 (env:=env) scope.names [] h
 unfold closureFor
 simp only [pure_bind,bind_pure]
 exact e
theorem eD {cells:List (Str×Addr)} {x:Str} {c:Addr}:∀ {names:List (Str×acE)} {acc:List (Str×Addr)},(∀ y∈names,y.2=.free->∃ c,cells.lookup y.1=some c)->(∀ c,acc.lookup x=some c->cells.lookup x=some c) ->
  (clOf cells names acc).lookup x=some c->cells.lookup x=some c
 | [],acc,_,ha,e=>ha c e
 | (n,k)::r,acc,h,ha,e=>by
  have hr:∀ y∈r,y.2=.free->∃ c,cells.lookup y.1=some c:=fun y hy=>h y (aav _ hy)
  unfold clOf at e
  split at e
  ·rename_i hk
   refine eD hr (fun c' e'=>?_) e
   rw [aa9] at e'
   split at e'
   ·rename_i hx
    obtain ⟨c0,hc⟩:=h (n,k) aat (by simpa using hk)
    have hc':cells.lookup n=some c0:=hc
    rw [hc'] at e'
    have:x=n:=by simpa using hx
    rw [this,hc']; exact e'
   ·exact ha c' e'
  ·exact eD hr ha e
theorem gg {cells:List (Str×Addr)} {x:Str}:∀ {names:List (Str×acE)} {acc:List (Str×Addr)},((x,abg)∈names\/∃ c,acc.lookup x=some c)->∃ c,(clOf cells names acc).lookup x=some c
 | [],acc,h=>by
  rcases h with h | h
  ·simp at h
  ·exact h
 | (n,k)::r,acc,h=>by
  unfold clOf
  split
  ·refine gg ?_
   rcases h with h | ⟨c,h⟩
   ·rcases List.mem_cons.mp h with e | e
    ·cases e
     exact .inr ⟨_,by rw [aa9]; simp; rfl⟩
    ·exact .inl e
   ·refine .inr ?_
    rw [aa9]
    split
    ·exact ⟨_,rfl⟩
    ·exact ⟨c,h⟩
  ·rename_i hk
   refine gg ?_
   rcases h with h | h
   ·rcases List.mem_cons.mp h with e | e
    ·cases e
     exact absurd rfl hk
    ·exact .inl e
   ·exact .inr h
noncomputable def cxComp (X:Cx) (scope:Scope) (N:List Str) (C:Addr) (s₀:Shared) (H₀:Hp) (ex:List Addr) (pn:List (Addr×Obj)):Cx :=
 { X with N:=N,s₀:=s₀,H₀:=H₀,env:=compEnvC scope (clOf X.env.cells scope.names []) C X.env,outer:=X.stack,stack:=X.stack,ex:=ex,fn:=fun _=>false,pn:=pn,xe:=fun _ _=>False }
noncomputable def capS (js:List (Option Nat)) (σ:St):St:=js.map fun o=>o.bind fun j=>(σ[j]?).getD none
noncomputable def capOk (M:List Str) (scope:Scope) (N:List Str) (js:List (Option Nat)):Bool :=
 decide (N.length=js.length) && (N.zip js).all fun p=>match p.2 with
  | none=>true
  | some j=>decide (M[j]?=some p.1) && (decide (scope.names.lookup p.1=some .free) || decide (scope.names.lookup p.1=none))
noncomputable def scOk (env:Env) (scope:Scope):Bool :=
 scope.names.all fun x=>match x.2 with
  | .free=>decide (env.kindOf x.1=some .cell) || decide (env.kindOf x.1=some .free)
  | .cell=>false
  | .local=>decide (scope.names.lookup x.1=some .local)
  | _=>true
theorem jF {scope:Scope} {env:Env} {x:Str} {k:acE}:∀ {names:List (Str×acE)},(∀ y∈names,y.2≠.cell)->(k=.cell\/k=.free) ->
  (names.map fun (n,k)=>if (k==abg && env.scope.kind==.function && env.kindOf n==some .cell) then (n,acD) else (n,k)).lookup x=some k->(x,abg)∈names:=by
 intro names hn hk h
 have hm:=abL h
 obtain ⟨⟨n,k0⟩,h0,e⟩:=List.mem_map.mp hm
 dsimp only at e
 split at e
 ·rename_i hc
  cases e
  simp only [aaK] at hc
  have:k0=.free:=by simpa using hc.1.1
  subst this
  exact h0
 ·cases e
  rcases hk with e | e
  ·exact absurd e (hn _ h0)
  ·subst e; exact h0
theorem gG {env:Env} {x:Str}:∀ {names:List (Str×acE)},names.lookup x=some .free ->
  (names.map fun (n,k)=>if (k==abg && env.scope.kind==.function && env.kindOf n==some .cell) then (n,acD) else (n,k)).lookup x=some .cell \/
  (names.map fun (n,k)=>if (k==abg && env.scope.kind==.function && env.kindOf n==some .cell) then (n,acD) else (n,k)).lookup x=some .free
 | [],h=>by simp at h
 | (n,k)::r,h=>by
  have ih:=@gG env x r
  show ac2 x ((if (k==abg && env.scope.kind==.function && env.kindOf n==some .cell)=true then (n,acD) else (n,k))::_)=_\/ac2 x ((if (k==abg && env.scope.kind==.function && env.kindOf n==some .cell)=true then (n,acD) else (n,k))::_)=_
  cases hx:x==n with
  | true =>
   simp only [aa9,hx] at h
   cases h
   by_cases hc:(abg==abg && env.scope.kind==.function && env.kindOf n==some .cell)=true
   ·rw [if_pos hc]; left; simp only [aa9,hx]
   ·rw [if_neg hc]; right; simp only [aa9,hx]
  | false =>
   simp only [aa9,hx] at h
   by_cases hc:(k==abg && env.scope.kind==.function && env.kindOf n==some .cell)=true
   ·rw [if_pos hc]; simp only [aa9,hx]; exact ih h
   ·rw [if_neg hc]; simp only [aa9,hx]; exact ih h
section
variable {X:Cx} {pins:List (Addr×Obj)} {σ:St} {H:Hp} {s:Shared}
structure ScOk (env:Env) (scope:Scope):Prop where
 fr:∀ x∈scope.names,x.2=.free->env.kindOf x.1=some .cell\/env.kindOf x.1=some .free
 nc:∀ x∈scope.names,x.2≠.cell
 lc:∀ x∈scope.names,x.2=.local->scope.names.lookup x.1=some .local
theorem oD {env:Env} {scope:Scope} (h:scOk env scope=true):ScOk env scope:=by
 have q:=List.all_eq_true.mp h
 refine ⟨fun x hx e=>?_,fun x hx e=>?_,fun x hx e=>?_⟩
 ·have:=q x hx
  rw [e] at this
  simp only [adP,decide_eq_true_eq] at this
  exact this
 ·have:=q x hx
  rw [e] at this
  cases this
 ·have:=q x hx
  rw [e] at this
  simpa using this
theorem ScOk.cells {scope:Scope} (h:ScOk X.env scope) (ok:X.Ok):∀ x∈scope.names,x.2=.free->∃ c,X.env.cells.lookup x.1=some c:=fun x hx e=>ok.has x.1 (h.fr x hx e)
structure CapOk (M:List Str) (scope:Scope) (N:List Str) (js:List (Option Nat)):Prop where
 len:N.length=js.length
 at':∀ (i:Nat) (x:Str) (j:Nat),N[i]?=some x->js[i]?=some (some j)->M[j]?=some x/\(scope.names.lookup x=some .free\/scope.names.lookup x=none)
theorem nF {M:List Str} {scope:Scope} {N:List Str} {js:List (Option Nat)} (h:capOk M scope N js=true):CapOk M scope N js:=by
 unfold capOk at h
 rw [aaK] at h
 refine ⟨of_decide_eq_true h.1,fun i x j hx hj=>?_⟩
 have hm:(x,some j)∈N.zip js:=by
  refine abf (i:=i) ?_
  rw [aaX]
  exact ⟨hx,hj⟩
 have q:=List.all_eq_true.mp h.2 _ hm
 simp only [aaK,adP,decide_eq_true_eq] at q
 exact q
theorem gF {env:Env} {x:Str}:∀ {names:List (Str×acE)},names.lookup x=none ->
  (names.map fun (n,k)=>if (k==abg && env.scope.kind==.function && env.kindOf n==some .cell) then (n,acD) else (n,k)).lookup x=none
 | [],h=>rfl
 | (n,k)::r,h=>by
  have ih:=@gF env x r
  show ac2 x ((if (k==abg && env.scope.kind==.function && env.kindOf n==some .cell)=true then (n,acD) else (n,k))::_)=_
  cases hx:x==n with
  | true=>simp only [aa9,hx] at h; cases h
  | false =>
   simp only [aa9,hx] at h
   by_cases hc:(k==abg && env.scope.kind==.function && env.kindOf n==some .cell)=true
   ·rw [if_pos hc]; simp only [aa9,hx]; exact ih h
   ·rw [if_neg hc]; simp only [aa9,hx]; exact ih h
theorem nk {scope:Scope} {N:List Str} {js:List (Option Nat)} {C:Addr} {fp:List Addr} {h₁:Heap} {tk:Nat} (I:Inv X pins σ H s) (hsc:ScOk X.env scope) (hcap:CapOk X.N scope N js) (hkind:scope.kind=.function)
  (hf:∀ b∈fp,FpOk X pins H b) (hfo:∀ b∈fp,b<s.heap.objs.size) (hC:C=s.heap.objs.size) (keep:∀ b o,s.heap.get? b=some o->h₁.get? b=some o) (hns:h₁.Ns C fun _=>none) :
  Inv (cxComp X scope N C s H fp (X.pn++pins)) [] (capS js σ) H { s with heap:=h₁,toks:=tk }:=by
 have hcs:=hsc.cells I.ok
 have clX:∀ x c,(clOf X.env.cells scope.names []).lookup x=some c->X.env.cells.lookup x=some c:=fun x c e=>eD hcs (fun c e=>by simp at e) e
 have neC:∀ b o,s.heap.get? b=some o->b≠C:=fun b o e=>by rw [hC]; exact aas (aak e)
 refine ⟨⟨I.ok.mod,hkind,I.ok.glob,I.ok.blt,aeH hC.symm,fun x y c e1 e2=>?_,fun x hx=>?_,fun x c e=>?_,I.ok.hd,I.ok.frames,.inl rfl,fun b hb=>⟨?_,fun x c e=>?_⟩,I.bs,aa1 I.ok.bsz I.sz,fun b o e hb=>?_,fun b hb z=>?_,I.stack,I.stkFree⟩,
  rfl,I.bare,Un.kept keep,⟨_,hns,fun i x v h1 h2 h3=>?_⟩,fun x c e=>?_,I.hok.fresh (aeH hC.symm),fun x c e=>I.freeC x c (clX x c e),fun p hp=>?_,I.hok.kept keep,?_⟩
 ·exact I.ok.inj x y c (clX x c e1) (clX y c e2)
 ·have hm:(x,abg)∈scope.names:=by
   rcases hx with hx | hx
   ·exact jF (scope:=scope) (env:=X.env) (k:=.cell) hsc.nc (.inl rfl) hx
   ·exact jF (scope:=scope) (env:=X.env) (k:=.free) hsc.nc (.inr rfl) hx
  exact gg (.inl hm)
 ·exact absurd e (by intro z; cases z)
 ·show b≠C
  rw [hC]; exact aas (hfo b hb)
 ·exact (hf b hb).2.2.2.2.1 x c (clX x c e)
 ·obtain ⟨_,_,_,q,_⟩:=hf b hb
  rcases q with q | q
  ·exact I.ok.noex b o e q
  ·exact absurd (aaB (aak (I.ok.bs b o e).1) q) (aa6 _)
 ·obtain ⟨_,q1,q2,_⟩:=hf b hb
  rcases List.mem_cons.mp (I.stkSub b z) with e | e
  ·exact q1 e
  ·exact q2 e
 ·have h1:N[i]?=some x:=h1
  unfold capS at h2
  rw [aal] at h2
  cases ej:js[i]? with
  | none=>rw [ej] at h2; cases h2
  | some o =>
   cases o with
   | none=>rw [ej] at h2; cases h2
   | some j =>
    rw [ej] at h2
    have h2':(σ[j]?).getD none=some v:=by simpa using h2
    have hσ:σ[j]?=some (some v):=by
     cases eσ:σ[j]? with
     | none=>rw [eσ] at h2'; cases h2'
     | some w'=>rw [eσ] at h2'; exact congrArg some h2'
    obtain ⟨hM,hfr⟩:=hcap.at' i x j h1 ej
    rcases hfr with hfr | hfr
    case inr =>
     have hn:=gF (env:=X.env) hfr
     rcases h3 with h3 | h3 | h3
     ·exact absurd (hn.symm.trans h3) (by simp)
     ·exact absurd (hn.symm.trans h3) (by simp)
     ·exact absurd (hn.symm.trans h3) (by simp)
    have hmem:=abL hfr
    have hXk:=hsc.fr _ hmem rfl
    have hvis:Vis X.env.scope x:=hXk.elim (fun z=>.inr (.inl z)) fun z=>.inr (.inr z)
    obtain ⟨m,hn,hl⟩:=I.loc
    obtain ⟨u,ru,lk⟩:=hl j x v hM hσ hvis
    refine ⟨u,ru,?_⟩
    rcases lk with ⟨k,_⟩ | ⟨k,c,ec,z⟩
    ·rcases hXk with q | q
     ·rw [show X.env.kindOf x=some .cell from q] at k; cases k
     ·rw [show X.env.kindOf x=some .free from q] at k; cases k
    ·obtain ⟨c',hc'⟩:=gg (cells:=X.env.cells) (acc:=[]) (.inl hmem)
     have e2:=clX x c' hc'
     rw [ec] at e2; cases e2
     refine .inr ⟨gG (env:=X.env) hfr,c,hc',?_⟩
     obtain ⟨o,ho,hd⟩:=z
     exact ⟨o,keep _ _ ho,hd⟩
 ·obtain ⟨v,o,ho,hd⟩:=I.cell x c (clX x c e)
  exact ⟨v,o,keep _ _ ho,hd⟩
 ·have hp':p∈X.pn++pins:=by
   have hp2:p∈(X.pn++pins)++[]:=hp
   rwa [aby] at hp2
  obtain ⟨e,n,ne,nf,d⟩:=I.pin p hp'
  refine ⟨keep _ _ e,n,neC _ _ e,fun z=>?_,d⟩
  rcases List.mem_cons.mp (I.stkSub p.1 z) with q | q
  ·exact ne q
  ·exact nf q
 ·unfold capS
  rw [aae]
  exact hcap.len.symm
theorem np {scope:Scope} {N:List Str} {C:Addr} {fp:List Addr} {σ':St} {H':Hp} {s':Shared} (I:Inv X pins σ H s) (J:Inv (cxComp X scope N C s H fp (X.pn++pins)) [] σ' H' s') (hf:∀ b∈fp,FpOk X pins H b):Inv X pins σ H' s' :=
 I.call' (ch:=fp) J.os J.base J.hok J.bare fun b hb=>let ⟨_,q1,_,q3,q4,q5⟩:=hf b hb; ⟨q3,q1,q4,q5⟩
end
noncomputable def Gsets (js:List (Option Nat)) (g:TG):Prop:=∀ x σ H Q,g x σ H Q->g x σ H fun σ' H'=>Q σ' H'/\σ'.length=σ.length/\∀ (k j:Nat),js[k]?=some (some j)->σ'[k]?=σ[k]?
noncomputable def Gss (js:List (Option Nat)) (g:TGs):Prop:=∀ x σ H Q,g x σ H Q->g x σ H fun σ' H'=>Q σ' H'/\σ'.length=σ.length/\∀ (k j:Nat),js[k]?=some (some j)->σ'[k]?=σ[k]?
theorem kN {js:List (Option Nat)} {i:Nat} (h:autoParam (js[i]?=some none) Z2._auto_1):Gsets js (gName i):=by
 intro x σ H Q hq
 refine ⟨hq,by simp,fun k j hk=>?_⟩
 rw [aap]
 rintro rfl
 rw [h] at hk; cases hk
theorem wV {js:List (Option Nat)}:Gss js gNil:=by
 rintro x σ H Q ⟨e,hq⟩
 exact ⟨e,hq,rfl,fun _ _ _=>rfl⟩
theorem u5 {js:List (Option Nat)} {t:TG} {u:TGs} (h1:Gsets js t) (h2:Gss js u) (mono:∀ x σ H Q Q',(∀ a b,Q a b->Q' a b)->t x σ H Q->t x σ H Q') (mono2:∀ x σ H Q Q',(∀ a b,Q a b->Q' a b)->u x σ H Q->u x σ H Q'):Gss js (gCons t u):=by
 rintro x σ H Q ⟨v,r,e,hq⟩
 refine ⟨v,r,e,mono _ _ _ _ _ (fun σ1 H1 hh=>?_) (h1 v σ H _ hq)⟩
 obtain ⟨a,l1,k1⟩:=hh
 exact mono2 _ _ _ _ _ (fun σ2 H2 ⟨b,l2,k2⟩=>⟨b,l2.trans l1,fun k j hk=>(k2 k j hk).trans (k1 k j hk)⟩) (h2 r σ1 H1 _ a)
theorem wU {K:aad} {js:List (Option Nat)} {n:Nat} {t:TGs} (h:Gss js t):Gsets js (gTup K n t):=by
 rintro x σ H Q ⟨a,xs,e,hs,hl,hq⟩
 exact ⟨a,xs,e,hs,hl,h xs σ H Q hq⟩
theorem ii {i:Nat}:∀ x σ H (Q Q':St->Hp->Prop),(∀ a b,Q a b->Q' a b)->gName i x σ H Q->gName i x σ H Q':=fun _ _ _ _ _ h q=>h _ _ q
theorem kO {t:TG} {u:TGs} (m1:∀ x σ H (Q Q':St->Hp->Prop),(∀ a b,Q a b->Q' a b)->t x σ H Q->t x σ H Q') (m2:∀ x σ H (Q Q':St->Hp->Prop),(∀ a b,Q a b->Q' a b)->u x σ H Q->u x σ H Q') :
  ∀ x σ H (Q Q':St->Hp->Prop),(∀ a b,Q a b->Q' a b)->gCons t u x σ H Q->gCons t u x σ H Q':=fun _ _ _ _ _ h ⟨v,r,e,q⟩=>⟨v,r,e,m1 _ _ _ _ _ (fun _ _=>m2 _ _ _ _ _ h) q⟩
noncomputable def PF (X:Cx) (ifs:List Expr) (t:TT):Prop :=
 ∀ (pins:List (Addr×Obj)) (s:Shared) (σ:St) (H:Hp) (Q:Bool->Hp->Prop),Inv X pins σ H s->t σ H Q ->
  wpAny (model X.prog X.w) X.A (forIn ifs true fun c r=>if r=true then do let ok <- isTrue c X.env (eval c X.env); pure (adO ok) else pure (adO r)) (TP X pins σ Q) X.xe s
noncomputable def tYes:TT:=fun _ H Q=>Q true H
theorem vZ {X:Cx}:PF X [] tYes:=fun pins s σ H Q I h=>wpAny_tests_nil ⟨H,I,h⟩
theorem qD {X:Cx} {c:Expr} {t:TT} (h:PT X c t):PF X [c] t:=fun pins s σ H Q I hq=>wpAny_tests_one (h pins s σ H Q I hq)
noncomputable def tLC (wi:TI) (g:TG) (tc:TT) (te:TE) (js:List (Option Nat)):TE:=fun σ H Q=>wi σ H fun J H1=>∀ l,H1 l=none ->
 ∃ W:Nat->Nat->List V->Hp->Prop,(∃ m,W 0 m [] (upd H1 l (.lst [])))/\∀ i m ys H2,W i m ys H2 ->
  (J.stop i H2/\Q (.ref l) H2)\/(J.go i H2/\∀ x H3,J.yld i H2 x H3->g x (capS js σ) H3 fun σ4 H4=>tc σ4 H4 fun b H5 =>
   if b=true then te σ4 H5 fun y H6=>H6 l=some (.lst ys)/\ys.length<sizeLine/\∃ m',m'<m/\W (i+1) m' (ys++[y]) (upd H6 l (.lst (ys++[y]))) else ∃ m',m'<m/\W (i+1) m' ys H5)
section
variable {X:Cx} {tg elt iter:Expr} {ifs:List Expr} {scope:Scope} {pos:Pos} {wi:TI} {g:TG} {tc:TT} {te:TE} {N:List Str} {js:List (Option Nat)}
theorem oP {use:Option (Value->Sem Unit)} {pins:List (Addr×Obj)} {s:Shared} {σ:St} {H:Hp} {Q:VK} {QQ:Value->Shared->Prop} {E:Value->Shared->Prop} {pos':Pos} (hc:X.calm=true) (hx:X.xe=fun _ _=>False) (hi:PI X tg iter wi)
  (hg:∀ C s₀ H₀ ex pn,PG (cxComp X scope N C s₀ H₀ ex pn) tg g) (ht:∀ C s₀ H₀ ex pn,PF (cxComp X scope N C s₀ H₀ ex pn) ifs tc) (he:∀ C s₀ H₀ ex pn,PE (cxComp X scope N C s₀ H₀ ex pn) elt te) (hgs:Gsets js g)
  (hsc:scOk X.env scope=true) (hcap:capOk X.N scope N js=true) (hkind:scope.kind=.function) (hs:∀ x,abb iter X.env x=pure x)
  (I:Inv X pins σ H s) (h:tLC wi g tc te js σ H Q)
  (fin:∀ (l C:Addr) (H':Hp) (s':Shared),Inv X pins σ H' s'->Q (.ref l) H'->H' C=none->C≠X.env.locals->X.s₀.heap.objs.size<=C->(∀ x c,X.env.cells.lookup x=some c->c≠C)->(∀ p∈X.pn++pins,p.1≠C)->(∃ m,s'.heap.Ns C m)->aeT (model X.prog X.w) X.A E use QQ (.ref l) C (.ok .next) s') :
  wpAny (model X.prog X.w) X.A (adw (.ListComp elt [⟨tg,iter,ifs,0⟩] scope pos) scope X.env pos' (newList []) false (eval iter X.env) use) QQ E s:=by
 have SC:=oD hsc
 have CP:=nF hcap
 refine wpAny_comprehension_free (cl:=clOf X.env.cells scope.names []) rfl hs (gj (SC.cells I.ok)) hkind SC.lc ?_
 refine aaI (hi pins s σ H _ I h) (fun v s1 h1=>aaI h1 (fun itv s2 h2=>?_) (fun _ _ z=>by rw [hx] at z; exact z.elim)) (fun _ _ z=>by rw [hx] at z; exact z.elim)
 obtain ⟨it,fp,tn,J,H2,rfl,I2,T,st2,f2,hq⟩:=h2
 have hD0:H2 s2.heap.objs.size=none:=I2.hok.fresh (aaj _)
 obtain ⟨W,⟨m0,w0⟩,turn⟩:=hq s2.heap.objs.size hD0
 refine aa3 (adU (fun x hx=>SC.nc x hx) (by intro y hy; simp at hy) (fun h₁ hns₁ hsb₁=>?_) hkind)
 dsimp only at hns₁ hsb₁ ⊢
 generalize hH3:s2.heap.push { cls:=.type "list",dict:=none,data:=.seq ([]:List Value).toArray }=hp3 at hns₁ hsb₁ ⊢
 have hCs:hp3.objs.size=s2.heap.objs.size+1:=by rw [<- hH3,abp]
 have I3:Inv X pins σ (upd H2 s2.heap.objs.size (.lst [])) { s2 with heap:=hp3 }:=by
  rw [<- hH3]
  exact I2.laid (t':=s2.toks) (fun b u e=>aac _ e) (aaj _) ⟨by show 0<=_; exact abl _,[],_,.nil,aai _ rfl⟩
 have keep:∀ b o,hp3.get? b=some o->h₁.get? b=some o:=fun b o e=>hsb₁.extBut b o (aas (aak e)) (aac _ e)
 have fpo:∀ b∈fp,b<s2.heap.objs.size:=fun b hb=>by
  obtain ⟨o,e,_⟩:=T.obj _ _ st2 b hb
  exact aak e
 have f3:∀ b∈fp,FpOk X pins (upd H2 s2.heap.objs.size (.lst [])) b:=fun b hb=>⟨by rw [ak (aas (fpo b hb))]; exact (f2 b hb).1,(f2 b hb).2⟩
 have J4:=nk (tk:=s2.toks+([]:List (Str×Value)).length) (C:=hp3.objs.size) (fp:=fp) (h₁:=h₁) (scope:=scope) (N:=N) (js:=js) I3 SC CP hkind f3 (fun b hb=>by show b<hp3.objs.size; rw [hCs]; exact abd (fpo b hb)) rfl keep (by
  have:(fun x=>ac2 x ([]:List (Str×Value)).reverse)=fun _=>none:=by funext x; rfl
  rw [this] at hns₁; exact hns₁)
 have st4:tn 0 h₁:=T.keep _ _ _ st2 fun b hb o e=>keep b o (by rw [<- hH3]; exact aac _ e)
 have loop:∀ s4:Shared,s4={ s2 with heap:=h₁,toks:=s2.toks+([]:List (Str×Value)).length } ->
   adJ (model X.prog X.w) X.A (.compLoop (.ListComp elt [⟨tg,iter,ifs,0⟩] scope pos) 0 (.ref it) (.ref s2.heap.objs.size) (compEnvC scope (clOf X.env.cells scope.names []) hp3.objs.size X.env)) (aeT (model X.prog X.w) X.A E use QQ (.ref s2.heap.objs.size) hp3.objs.size) s4:=by
  rintro s4 rfl
  generalize hY:cxComp X scope N hp3.objs.size { s2 with heap:=hp3 } (upd H2 s2.heap.objs.size (.lst [])) fp (X.pn++pins)=Y at J4
  have fpY:∀ {H':Hp},(∀ b∈fp,H' b=none)->∀ b∈fp,FpOk Y [] H' b:=fun hn b hb=>by
   subst hY
   refine ⟨hn b hb,?_,?_,.inl hb,fun x c e=>?_,fun p hp=>?_⟩
   ·show b≠hp3.objs.size
    rw [hCs]; exact aas (abd (fpo b hb))
   ·intro z
    rcases List.mem_cons.mp (I3.stkSub b z) with q | q
    ·exact (f3 b hb).2.1 q
    ·exact (f3 b hb).2.2.1 q
   ·exact (f3 b hb).2.2.2.2.1 x c (eD (SC.cells I.ok) (fun c e=>by simp at e) e)
   ·exact (f3 b hb).2.2.2.2.2 p (by simpa [cxComp] using hp)
  have hgY:PG Y tg g:=by subst hY; exact hg _ _ _ _ _
  have htY:PF Y ifs tc:=by subst hY; exact ht _ _ _ _ _
  have heY:PE Y elt te:=by subst hY; exact he _ _ _ _ _
  have eA:Y.A=X.A:=by subst hY; rfl
  have eP:Y.prog=X.prog:=by subst hY; rfl
  have eW:Y.w=X.w:=by subst hY; rfl
  have eK:Y.K=X.K:=by subst hY; rfl
  have eC:Y.calm=true:=by subst hY; exact hc
  have eX:Y.xe=fun _ _=>False:=by subst hY; rfl
  have eE:Y.env=compEnvC scope (clOf X.env.cells scope.names []) hp3.objs.size X.env:=by subst hY; rfl
  have T':Turn Y.prog Y.w Y.K tg J fp it tn:=by rw [eP,eW,eK]; exact T
  have eL:(capS js σ).length=js.length:=by unfold capS; rw [aae]
  rw [<- eP,<- eW,<- eA,<- eE]
  refine codeAny_loop rfl (fun n s'=>∃ i ys H',Inv Y [] (capS js σ) H' s'/\tn i s'.heap/\(∀ b∈fp,H' b=none)/\W i n ys H') (fun n s' hI=>?_) m0 ⟨0,[],_,J4,st4,fun b hb=>(f3 b hb).1,w0⟩
  obtain ⟨i,ys,H5,I5,st5,fr5,w5⟩:=hI
  show wpAny _ Y.A ((compTurn (.ListComp elt [⟨tg,iter,ifs,0⟩] scope pos) 0 (.ref it) (.ref s2.heap.objs.size) Y.env).onRaise (fun x=>do noteFrame x Y.env; theTreesLotGoes x)) _ _ s'
  refine wpAny_noted ?_
  rw [compTurn_list]
  refine aaa (acf (aaa ?_))
  have noE:∀ (x:Value) (s:Shared) (P:Prop),Y.xe x s->P:=fun x s P z=>by rw [eX] at z; exact z.elim
  rcases turn i n ys H5 w5 with ⟨stop,qn⟩ | ⟨go,step⟩
  ·refine aaI (T'.done Y rfl rfl rfl eC i [] s' _ H5 Y.xe I5 (fpY fr5) st5 stop) (fun r s6 ⟨hr,I6⟩=>?_) fun x s z=>noE x s _ z
   subst hr
   refine aag ?_
   show aeT _ _ _ _ _ _ _ _ _
   rw [eP,eW,eA]
   have back:Inv X pins σ H5 s6:=by subst hY; exact np I3 I6 f3
   have hn6:∃ m,s6.heap.Ns hp3.objs.size m:=by
    obtain ⟨m,hm,_⟩:=I6.loc
    have:Y.env.locals=hp3.objs.size:=by rw [eE]; rfl
    rw [this] at hm
    exact ⟨m,hm⟩
   have hC6:H5 hp3.objs.size=none:=by
    have:=I6.free
    have e:Y.env.locals=hp3.objs.size:=by rw [eE]; rfl
    rw [e] at this; exact this
   refine fin s2.heap.objs.size hp3.objs.size H5 s6 back qn hC6 ?_ ?_ ?_ ?_ hn6
   ·exact acd I3.lt
   ·exact I3.sz
   ·intro x c e z
    obtain ⟨v,o,ho,_⟩:=I3.cell x c e
    exact absurd (aak ho) (by rw [z]; exact aa6 _)
   ·intro p hp z
    have:=aak (I3.pin p hp).1
    rw [z] at this; exact absurd this (aa6 _)
  ·refine aaI (T'.item Y rfl rfl rfl eC i [] s' _ H5 Y.xe I5 (fpY fr5) st5 go) (fun r s6 h6=>?_) fun x s z=>noE x s _ z
   obtain ⟨u,hr,h6⟩:=h6
   subst hr
   dsimp only
   refine aaa ?_
   refine aaI h6 (fun _ s7 h7=>?_) fun x s z=>noE x s _ z
   obtain ⟨x,H7,I7,r7,y7,st7,fr7⟩:=h7
   have I7':=I7.pinned (fpY fr7) (T.obj _ _ st7)
   have g7:=hgs x (capS js σ) H7 _ (step x H7 y7)
   refine aaa ?_
   refine aaI (hgY _ s7 (capS js σ) H7 x u _ I7' r7 g7) (fun _ s8 h8=>?_) fun x s z=>noE x s _ z
   obtain ⟨σ8,H8,I8,q8,l8,k8⟩:=h8
   refine aaa ?_
   refine aaI (htY _ s8 σ8 H8 _ I8 q8) (fun b s9 h9=>?_) fun x s z=>noE x s _ z
   obtain ⟨H9,I9,q9⟩:=h9
   have again:∀ {s':Shared} {H':Hp},Inv Y ([]++pinsAt fp s7.heap) σ8 H' s'->Inv Y [] (capS js σ) H' s'/\tn (i+1) s'.heap/\∀ b∈fp,H' b=none:=fun {s' H'} I'=>by
    refine ⟨(I'.unpinned).weak l8.symm fun k v e=>?_,T.keep _ _ _ st7 fun b hb o e=>(I'.pin (b,o) (aaE _ (aaE _ (b9 hb e)))).1,fun b hb=>?_⟩
    ·cases ej:js[k]? with
     | none =>
      unfold capS at e
      rw [aal,ej] at e; cases e
     | some o =>
      cases o with
      | none =>
       unfold capS at e
       rw [aal,ej] at e; cases e
      | some j=>rw [k8 k j ej]; exact e
    ·obtain ⟨o,e,d⟩:=T.obj _ _ st7 b hb
     exact (I'.pin (b,o) (aaE _ (aaE _ (b9 hb e)))).2.1
   cases b with
   | false =>
    rw [if_neg aay] at q9
    obtain ⟨m',hm,w9⟩:=q9
    obtain ⟨a1,a2,a3⟩:=again I9
    exact aag ⟨rfl,m',hm,i+1,ys,H9,a1,a2,a3,w9⟩
   | true =>
    rw [if_pos rfl] at q9
    refine aaa (aaa ?_)
    refine aaI (heY _ s9 σ8 H9 _ I9 q9) (fun y s10 h10=>?_) fun x s z=>noE x s _ z
    obtain ⟨yv,H10,I10,r10,e10,z10,m',hm,w10⟩:=h10
    refine aaa ?_
    refine aaI (cz (X:=Y) _ s10 σ8 H10 (.ref s2.heap.objs.size) [yv] (.ref s2.heap.objs.size) [y] (fun _ H'=>H'=upd H10 s2.heap.objs.size (.lst (ys++[yv]))) I10 rfl (.cons r10 .nil) ⟨_,ys,yv,rfl,rfl,e10,z10,rfl⟩) (fun _ s11 h11=>?_) fun x s z=>noE x s _ z
    obtain ⟨_,H11,I11,_,e11⟩:=h11
    subst e11
    obtain ⟨a1,a2,a3⟩:=again I11
    exact aag (aag ⟨rfl,m',hm,i+1,ys++[yv],_,a1,a2,a3,w10⟩)
 exact codeAny_compStart_list (loop _ rfl) (T.self X.A 0 _ _ _ st4 (loop _ rfl))
theorem tL (hi:PI X tg iter wi) (hg:∀ C s₀ H₀ ex pn,PG (cxComp X scope N C s₀ H₀ ex pn) tg g) (ht:∀ C s₀ H₀ ex pn,PF (cxComp X scope N C s₀ H₀ ex pn) ifs tc) (he:∀ C s₀ H₀ ex pn,PE (cxComp X scope N C s₀ H₀ ex pn) elt te) (hgs:Gsets js g)
  (hc:autoParam (X.calm=true) Z2._auto_1) (hx:autoParam (X.xe=(fun _ _=>False)) Z2._auto_1) (hsc:autoParam (scOk X.env scope=true) Z2._auto_1) (hcap:autoParam (capOk X.N scope N js=true) Z2._auto_1) (hkind:autoParam (scope.kind=.function) Z2._auto_1) (hs:autoParam (∀ x,abb iter X.env x=pure x) Z3._auto_1) :
  PE X (.ListComp elt [⟨tg,iter,ifs,0⟩] scope pos) (tLC wi g tc te js):=by
 intro pins s σ H Q I h
 rw [eval_ListComp]
 refine oP (use:=none) hc hx hi hg ht he hgs hsc hcap hkind hs I h fun l C H' s' I' q f0 f1 f2 f3 f4 ⟨m,hm⟩=>?_
 refine ⟨m,hm,fun h' sb=>⟨.ref l,H',?_,rfl,q⟩⟩
 exact I'.turned (t':=s'.toks) (it:=C) (fun b o hb e=>sb.extBut b o hb e) f0 f1 (.inr f2) f3 f4
theorem xp {i:Nat} {y:Str} {py spos:Pos} (hN:X.N.Nodup) (hy:X.N[i]?=some y) (hk:X.env.scope.names.lookup y=some .local) (hi:PI X tg iter wi) (hg:∀ C s₀ H₀ ex pn,PG (cxComp X scope N C s₀ H₀ ex pn) tg g) (ht:∀ C s₀ H₀ ex pn,PF (cxComp X scope N C s₀ H₀ ex pn) ifs tc) (he:∀ C s₀ H₀ ex pn,PE (cxComp X scope N C s₀ H₀ ex pn) elt te) (hgs:Gsets js g)
  (hsw:autoParam (acp (.ListComp elt [⟨tg,iter,ifs,0⟩] scope pos) (some (.Name y py)) spos.line X.env=pure true) Z2._auto_1)
  (hc:autoParam (X.calm=true) Z2._auto_1) (hx:autoParam (X.xe=(fun _ _=>False)) Z2._auto_1) (hsc:autoParam (scOk X.env scope=true) Z2._auto_1) (hcap:autoParam (capOk X.N scope N js=true) Z2._auto_1) (hkind:autoParam (scope.kind=.function) Z2._auto_1) (hs:autoParam (∀ x,abb iter X.env x=pure x) Z3._auto_1) :
  PS X (.Assign [.Name y py] (.ListComp elt [⟨tg,iter,ifs,0⟩] scope pos) spos) (tAsg (tLC wi g tc te js) (gName i)):=by
 intro pins s σ H D I h
 rw [exec_Assign_Name_used _ _ _ _ hsw]
 refine aaa (acf (aaa ?_))
 show wpAny _ X.A (do let _ <- adw (.ListComp elt [⟨tg,iter,ifs,0⟩] scope pos) scope X.env _ (newList []) false (eval iter X.env) (some (assign (.Name y py) X.env))) _ _ s
 refine aaa (aaI (oP (use:=some (assign (.Name y py) X.env)) (E:=X.xe) (QQ:=fun _ s'=>SP X pins D .next s') hc hx hi hg ht he hgs hsc hcap hkind hs I h fun l C H' s' I' q f0 f1 f2 f3 f4 ⟨m,hm⟩=>?_) (fun _ s' hq=>aag (aag hq)) fun _ _ e=>e)
 show wpAny _ X.A (assign (.Name y py) X.env (.ref l)) _ _ _
 refine aeq (gv I' hN hy (.inl hk) (v:=.ref l) rfl (fun s'' I'' ⟨a,sb,ha⟩=>?_) (.inr hk))
 have haC:C≠a:=by
  rcases ha with rfl | ha
  ·exact f1
  ·exact fun z=>f3 _ _ ha z.symm
 refine ⟨m,hm.sameBut sb haC,fun h' sb'=>⟨_,H',?_,q⟩⟩
 exact I''.turned (t':=s''.toks) (it:=C) (fun b o hb e=>sb'.extBut b o hb e) f0 f1 (.inr f2) f3 f4
end
end L2
namespace Srt
open PySem PySem.W PyProof.Rows
noncomputable def pw {α:Type} (lt:Nat->Nat->Bool) (n:Nat):KasT α->(α->Prop)->Prop
 | .ret a,Q=>Q a
 | .ask i j k,Q=>i<n/\j<n/\i≠j/\pw lt n (k (lt i j)) Q
theorem pw_bind {α β:Type} {lt:Nat->Nat->Bool} {n:Nat} {f:α->KasT β} {Q:β->Prop}:∀ (t:KasT α),pw lt n t (fun a=>pw lt n (f a) Q)->pw lt n (t.bind f) Q
 | .ret _,h=>h
 | .ask i j k,h=>⟨h.1,h.2.1,h.2.2.1,pw_bind (k (lt i j)) h.2.2.2⟩
structure Ord (lt:Nat->Nat->Bool) (n:Nat):Prop where
 irr:∀ i,i<n->lt i i=false
 tr:∀ i j k,i<n->j<n->k<n->lt i j=true->lt j k=true->lt i k=true
 tot:∀ i j,i<n->j<n->i≠j->lt i j=false->lt j i=true
section
variable {lt:Nat->Nat->Bool} {n:Nat}
noncomputable def at' (p:Array Nat) (i:Nat):Nat:=p.getD i 0
structure Pm (p:Array Nat) (n:Nat):Prop where
 sz:p.size=n
 lt:∀ i,i<n->at' p i<n
 nd:∀ i j,i<n->j<n->at' p i=at' p j->i=j
theorem aZ (p:Array Nat) (i:Nat):at' p i=(p[i]?).getD 0:=by
 unfold at'
 by_cases h:i<p.size
 ·simp [Array.getD,h]
 ·simp [Array.getD,h]
noncomputable def Asc (lt:Nat->Nat->Bool) (p:Array Nat) (k:Nat):Prop:=∀ i j,i<j->j<k->lt (at' p i) (at' p j)=true
noncomputable def Dsc (lt:Nat->Nat->Bool) (p:Array Nat) (k:Nat):Prop:=∀ i j,i<j->j<k->lt (at' p j) (at' p i)=true
theorem nK (o:Ord lt n) {p:Array Nat} (P:Pm p n):∀ (f m:Nat) (Q:Nat->Prop),1<=m->m+f<=n->Asc lt p m->(∀ m',m<=m'->m'<=m+f->Asc lt p m'->(m'<m+f->lt (at' p m') (at' p (m' - 1))=true)->Q m')->pw lt n (kas_asc p f m) Q
 | 0,m,Q,_,_,ha,h=>h m (aaj _) (aaj _) ha fun z=>absurd z (aa6 _)
 | f+1,m,Q,h1,hm,ha,h=>by
  refine ⟨P.lt _ (by omega),P.lt _ (by omega),fun z=>(by have:=P.nd _ _ (by omega) (by omega) z; omega),?_⟩
  cases c:lt (p.getD m 0) (p.getD (m - 1) 0) with
  | true =>
   show Q m
   exact h m (aaj _) (by omega) ha fun _=>c
  | false =>
   show pw lt n (kas_asc p f (m+1)) Q
   have e:lt (at' p (m - 1)) (at' p m)=true:=o.tot _ _ (P.lt _ (by omega)) (P.lt _ (by omega)) (fun z=>by have:=P.nd _ _ (by omega) (by omega) z; omega) c
   refine nK o P f (m+1) Q (by omega) (by omega) (fun i j hij hj=>?_) fun m' a b c d=>h m' (by omega) (by omega) c fun z=>d (by omega)
   by_cases ej:j=m
   ·subst ej
    by_cases ei:i=j - 1
    ·subst ei; exact e
    ·exact o.tr _ (at' p (j - 1)) _ (P.lt _ (by omega)) (P.lt _ (by omega)) (P.lt _ (by omega)) (ha i (j - 1) (by omega) (by omega)) e
   ·exact ha i j hij (by omega)
theorem o4 (o:Ord lt n) {p:Array Nat} (P:Pm p n):∀ (f m:Nat) (Q:Array Nat×Nat×Nat->Prop),1<=m->m+f<=n->Dsc lt p m->(∀ m',m<=m'->m'<=m+f->Dsc lt p m'->Q (p,m',0))->pw lt n (kas_desc f p m 0) Q
 | 0,m,Q,_,_,ha,h=>h m (aaj _) (aaj _) ha
 | f+1,m,Q,h1,hm,ha,h=>by
  refine ⟨P.lt _ (by omega),P.lt _ (by omega),fun z=>(by have:=P.nd _ _ (by omega) (by omega) z; omega),?_⟩
  cases c:lt (p.getD m 0) (p.getD (m - 1) 0) with
  | true =>
   show pw lt n (if 0 > 0 then kas_desc f (ad4 p (m - (0+1)) m) (m+1) 0 else kas_desc f p (m+1) 0) Q
   rw [if_neg (aa6 0)]
   refine o4 o P f (m+1) Q (by omega) (by omega) (fun i j hij hj=>?_) fun m' a b c=>h m' (by omega) (by omega) c
   by_cases ej:j=m
   ·subst ej
    by_cases ei:i=j - 1
    ·subst ei; exact c
    ·exact o.tr _ (at' p (j - 1)) _ (P.lt _ (by omega)) (P.lt _ (by omega)) (P.lt _ (by omega)) c (ha i (j - 1) (by omega) (by omega))
   ·exact ha i j hij (by omega)
  | false =>
   have e:lt (at' p (m - 1)) (at' p m)=true:=o.tot _ _ (P.lt _ (by omega)) (P.lt _ (by omega)) (fun z=>by have:=P.nd _ _ (by omega) (by omega) z; omega) c
   show pw lt n (KasT.ask (p.getD (m - 1) 0) (p.getD m 0) _) Q
   refine ⟨P.lt _ (by omega),P.lt _ (by omega),fun z=>(by have:=P.nd _ _ (by omega) (by omega) z; omega),?_⟩
   rw [show lt (p.getD (m - 1) 0) (p.getD m 0)=true from e]
   exact h m (aaj _) (by omega) ha
theorem mG {p:Array Nat} {m i:Nat} (hm:m<=p.size) (hi:i<m):at' (ad4 p 0 m) i=at' p (m - 1 - i):=by
 rw [aZ,aZ]
 unfold ad4
 rw [getElem?_mirror hm _ (by omega)]
 have e:0+m - 1 - i=m - 1 - i:=by omega
 split
 ·rw [e]
 ·rename_i h
  have:i=m - 1 - i:=by omega
  rw [<- this]
theorem uf {p:Array Nat} {m i:Nat} (hm:m<=p.size) (hi:m<=i):at' (ad4 p 0 m) i=at' p i:=by
 rw [aZ,aZ]
 unfold ad4
 rw [getElem?_mirror hm _ (by omega),if_neg (by omega)]
theorem vQ {p:Array Nat} {m:Nat} (P:Pm p n) (hm:m<=n):Pm (ad4 p 0 m) n:=by
 have hs:m<=p.size:=by rw [P.sz]; exact hm
 have key:∀ i,i<n->∃ i',i'<n/\at' (ad4 p 0 m) i=at' p i'/\((i<m/\i'=m - 1 - i)\/(m<=i/\i'=i)):=fun i hi=>by
  by_cases h:i<m
  ·exact ⟨m - 1 - i,by omega,mG hs h,.inl ⟨h,rfl⟩⟩
  ·exact ⟨i,hi,uf hs (by omega),.inr ⟨by omega,rfl⟩⟩
 refine ⟨by unfold ad4; rw [mirror_size]; exact P.sz,fun i hi=>?_,fun i j hi hj e=>?_⟩
 ·obtain ⟨i',h1,h2,_⟩:=key i hi
  rw [h2]; exact P.lt i' h1
 ·obtain ⟨i',h1,h2,h3⟩:=key i hi
  obtain ⟨j',k1,k2,k3⟩:=key j hj
  rw [h2,k2] at e
  have:=P.nd _ _ h1 k1 e
  omega
theorem rX (o:Ord lt n) {p:Array Nat} (P:Pm p n) {m:Nat} {Q:Nat×Array Nat->Prop} (h1:1<=m) (hm:m<=n) (hd:Dsc lt p m) (h:∀ m' q,1<=m'->m'<=n->Pm q n->Asc lt q m'->Q (m',q)):pw lt n (kas_tail3 m n p) Q:=by
 refine pw_bind _ ?_
 have P':=vQ P hm
 have hs:m<=p.size:=by rw [P.sz]; exact hm
 refine nK o P' _ _ _ h1 (by omega) (fun i j hij hj=>?_) fun m' a b c _=>h m' _ (by omega) (by omega) P' c
 rw [mG hs (by omega),mG hs hj]
 exact hd _ _ (by omega) (by omega)
theorem tB (o:Ord lt n) {p:Array Nat} (P:Pm p n) (h2:2<=n) {Q:Nat×Array Nat->Prop} (h:∀ m q,1<=m->m<=n->Pm q n->Asc lt q m->Q (m,q)):pw lt n (kas_count n p) Q:=by
 refine pw_bind _ ?_
 refine nK o P _ _ _ (aaj 1) (by omega) (fun i j hij hj=>by omega) fun m a b c d=>?_
 by_cases e:(m==n)=true
 ·rw [if_pos e]
  exact h m p (by omega) (by omega) P c
 ·rw [if_neg e]
  have hne:m≠n:=fun z=>e (by simp [z])
  by_cases hm:m > 1
  ·rw [if_pos hm]
   refine ⟨P.lt _ (by omega),P.lt _ (by omega),fun z=>(by have:=P.nd _ _ (by omega) (by omega) z; omega),?_⟩
   rw [show lt (p.getD 0 0) (p.getD (m - 1) 0)=true from c 0 (m - 1) (by omega) (by omega)]
   exact h m p (by omega) (by omega) P c
  ·rw [if_neg hm]
   have hm1:m=1:=by omega
   subst hm1
   refine pw_bind _ ?_
   have d1:lt (at' p 1) (at' p (1 - 1))=true:=d (by omega)
   refine o4 o P _ _ _ (by omega) (by omega) (fun i j hij hj=>?_) fun m' a b hd=>?_
   ·have:i=0:=by omega
    have:j=1:=by omega
    subst i j
    exact d1
   ·show pw lt n (if 0 > 0 then kas_tail3 m' n (ad4 p (m' - (0+1)) m') else kas_tail3 m' n p) Q
    rw [if_neg (aa6 0)]
    exact rX o P (by omega) (by omega) hd h
theorem i0 (o:Ord lt n) {p:Array Nat} (P:Pm p n) {k:Nat} (hk:k<n) (ha:Asc lt p k):∀ (f l r:Nat) (Q:Nat->Prop),l<=r->r<=k->r<=l+f->(∀ i,i<l->lt (at' p i) (at' p k)=true)->(∀ i,r<=i->i<k->lt (at' p k) (at' p i)=true) ->
  (∀ l',l'<=k->(∀ i,i<l'->lt (at' p i) (at' p k)=true)->(∀ i,l'<=i->i<k->lt (at' p k) (at' p i)=true)->Q l')->pw lt n (kas_place p k f l r) Q
 | 0,l,r,Q,hl,hr,hf,h1,h2,h=>by
  have:l=r:=by omega
  subst this
  exact h l hr h1 h2
 | f+1,l,r,Q,hl,hr,hf,h1,h2,h=>by
  unfold kas_place
  by_cases hlr:l ≥ r
  ·rw [if_pos hlr]
   have:l=r:=by omega
   subst this
   exact h l hr h1 h2
  ·rw [if_neg hlr]
   have hm:(l+r) / 2<k:=by omega
   refine ⟨P.lt _ hk,P.lt _ (by omega),fun z=>(by have:=P.nd _ _ hk (by omega) z; omega),?_⟩
   cases c:lt (p.getD k 0) (p.getD ((l+r) / 2) 0) with
   | true =>
    show pw lt n (kas_place p k f l ((l+r) / 2)) Q
    refine i0 o P hk ha f l _ Q (by omega) (by omega) (by omega) h1 (fun i hi hik=>?_) h
    by_cases e:i=(l+r) / 2
    ·subst e; exact c
    ·exact o.tr _ (at' p ((l+r) / 2)) _ (P.lt _ hk) (P.lt _ (by omega)) (P.lt _ (by omega)) c (ha _ _ (by omega) hik)
   | false =>
    show pw lt n (kas_place p k f ((l+r) / 2+1) r) Q
    have e:lt (at' p ((l+r) / 2)) (at' p k)=true:=o.tot _ _ (P.lt _ hk) (P.lt _ (by omega)) (fun z=>by have:=P.nd _ _ hk (by omega) z; omega) c
    refine i0 o P hk ha f _ r Q (by omega) hr (by omega) (fun i hi=>?_) h2 h
    by_cases e':i=(l+r) / 2
    ·subst e'; exact e
    ·exact o.tr _ (at' p ((l+r) / 2)) _ (P.lt _ (by omega)) (P.lt _ (by omega)) (P.lt _ hk) (ha _ _ (by omega) (by omega)) e
theorem gZ {p:Array Nat} {k l i:Nat} (hk:k<p.size) (hl:l<=k):at' (bubble p k (k - l)) i=if i=l then at' p k else if l<i/\i<=k then at' p (i - 1) else at' p i:=by
 rw [aZ]
 rw [getElem?_bubble hk (k - l) (by omega)]
 have e:k - (k - l)=l:=by omega
 rw [e]
 split
 ·rw [aZ]
 ·split
  ·rw [aZ]
  ·rw [aZ]
theorem rN (o:Ord lt n):∀ (f k:Nat) (p:Array Nat) (Q:Array Nat->Prop),Pm p n->Asc lt p k->k+f=n->(∀ q,Pm q n->Asc lt q n->Q q)->pw lt n (kas_bin f p k) Q
 | 0,k,p,Q,P,ha,hk,h=>by
  have:k=n:=by omega
  subst this
  exact h p P ha
 | f+1,k,p,Q,P,ha,hk,h=>by
  have hkn:k<n:=by omega
  have hs:k<p.size:=by rw [P.sz]; exact hkn
  refine pw_bind _ (i0 o P hkn ha k 0 k _ (abl _) (aaj _) (by omega) (fun i hi=>by omega) (fun i hi hik=>by omega) fun l hl h1 h2=>?_)
  refine rN o f (k+1) _ Q ⟨by rw [bubble_size]; exact P.sz,fun i hi=>?_,fun i j hi hj e=>?_⟩ (fun i j hij hj=>?_) (by omega) h
  ·rw [gZ hs hl]
   split
   ·exact P.lt _ hkn
   ·split
    ·exact P.lt _ (by omega)
    ·exact P.lt _ hi
  ·rw [gZ hs hl,gZ hs hl] at e
   have P1:=P.nd
   split at e
   ·split at e
    ·omega
    ·split at e
     ·have:=P1 _ _ hkn (by omega) e; omega
     ·have:=P1 _ _ hkn (by omega) e; omega
   ·split at e
    ·split at e
     ·have:=P1 _ _ (by omega) hkn e; omega
     ·split at e
      ·have:=P1 _ _ (by omega) (by omega) e; omega
      ·have:=P1 _ _ (by omega) (by omega) e; omega
    ·split at e
     ·have:=P1 _ _ (by omega) hkn e; omega
     ·split at e
      ·have:=P1 _ _ (by omega) (by omega) e; omega
      ·have:=P1 _ _ (by omega) (by omega) e; omega
  ·rw [gZ hs hl,gZ hs hl]
   split
   ·split
    ·omega
    ·split
     ·exact h2 _ (by omega) (by omega)
     ·omega
   ·split
    ·split
     ·omega
     ·split
      ·exact ha _ _ (by omega) (by omega)
      ·omega
    ·split
     ·exact h1 _ (by omega)
     ·split
      ·exact ha _ _ (by omega) (by omega)
      ·exact ha _ _ hij (by omega)
theorem oC (o:Ord lt n) (h2:2<=n) {Q:Array Nat->Prop} (h:∀ p,Pm p n->Asc lt p n->Q p):pw lt n (kas_sort n) Q:=by
 have P0:Pm (aeJ (aaM n)) n:=by
  have e:∀ i,i<n->at' (aeJ (aaM n)) i=i:=fun i hi=>by rw [aZ]; simp [hi]
  refine ⟨by simp,fun i hi=>by rw [e i hi]; exact hi,fun i j hi hj q=>by rw [e i hi,e j hj] at q; exact q⟩
 refine pw_bind _ (tB o P0 h2 fun m q h1 hm P ha=>?_)
 show pw lt n (if m<n then kas_bin (n - max m 1) q (max m 1) else .ret q) Q
 by_cases e:m<n
 ·rw [if_pos e]
  have em:max m 1=m:=by omega
  rw [em]
  exact rN o _ _ _ _ P ha (by omega) h
 ·rw [if_neg e]
  have:m=n:=by omega
  subst this
  exact h q P ha
end
theorem pw_wp {α:Type} {lt:Nat->Nat->Bool} {n:Nat} {cmp:Nat->Nat->(Bool->Shared->Prop)->Shared->Prop} {Q:α->Prop} {QQ:α->Shared->Prop} {J:Shared->Prop}
  (hc:∀ i j C s,i<n->j<n->i≠j->J s->(∀ s',J s'->C (lt i j) s')->cmp i j C s) (hq:∀ a s,J s->Q a->QQ a s):∀ (t:KasT α) (s:Shared),J s->pw lt n t Q->t.kasWp cmp QQ s
 | .ret a,s,hj,h=>hq a s hj h
 | .ask i j k,s,hj,h=>hc i j _ s h.1 h.2.1 h.2.2.1 hj fun s' hj'=>pw_wp hc hq (k (lt i j)) s' hj' h.2.2.2
end Srt
namespace L2
open PySem PySem.Spec PyProof.Rows
theorem fW {ss:List Str}:∀ {us:List Value},Vals (ss.map V.str) us->ab3 us ss:=by
 induction ss with
 | nil=>intro us r; cases r; exact .nil
 | cons x r ih =>
  intro us h
  cases h with
  | cons h1 h2 =>
   obtain ⟨t,rfl⟩:=h1
   exact .cons x t (ih h2)
theorem dt:∀ {us:List Value} {ss:List Str},ab3 us ss->Vals (ss.map V.str) us
 | _,_,.nil=>.nil
 | _,_,.cons x t h=>.cons ⟨t,rfl⟩ (dt h)
noncomputable def ltS (a b:Str):Prop:=a.cps.toList<b.cps.toList
instance (a b:Str):Decidable (ltS a b):=inferInstanceAs (Decidable (a.cps.toList<b.cps.toList))
theorem iB:∀ (l:List Str) (p:Str),risingS p l=true->(∀ y∈l,¬ ltS y p)/\l.Pairwise (fun a b=>¬ ltS b a)
 | [],p,_=>⟨(fun _ h=>nomatch h),aeC⟩
 | x::r,p,h=>by
  have h':(!ltCps x.cps.toList p.cps.toList && risingS x r)=true:=h
  rw [aaK] at h'
  obtain ⟨h1,h2⟩:=h'
  have hx:¬ ltS x p:=by
   unfold ltS
   rw [ltCps_eq] at h1
   simpa using h1
  obtain ⟨a,b⟩:=iB r x h2
  refine ⟨fun y hy=>?_,List.pairwise_cons.mpr ⟨a,b⟩⟩
  rcases List.mem_cons.mp hy with rfl | hy
  ·exact hx
  ·intro z
   have:=a y hy
   unfold ltS at *
   exact hx (List.lt_of_le_of_lt (List.not_lt.mp this) z)
theorem dq {l:List Str} (h:sortedS l=true):l.Pairwise (fun a b=>¬ ltS b a):=by
 cases l with
 | nil=>exact aeC
 | cons x r =>
  obtain ⟨a,b⟩:=iB r x h
  exact List.pairwise_cons.mpr ⟨a,b⟩
section
variable {X:Cx}
noncomputable def rSortS (K:aad):List V->Hp->VK->Prop:=fun xs H Q=>∃ (p:Addr) (ss:List Str),xs=[.ref p]/\SqL K H p (ss.map V.str)/\ss.length<64 /\
 ∀ (l:Addr) (ss':List Str),H l=none->ss'.Perm ss->ss'.Pairwise (fun a b=>¬ ltS b a)->Q (.ref l) (upd H l (.lst (ss'.map V.str)))
theorem pT:CallR X (.builtin "sorted") (rSortS X.K):=by
 intro pins s σ H xs us Q I r h
 obtain ⟨p,ss,rfl,hq,h64,k⟩:=h
 obtain ⟨u,rfl,ru⟩:=r.one
 cases ru
 obtain ⟨its,rv,pl,hz⟩:=I.list hq
 have hS:=fW rv
 have hl:=rv.length
 rw [aae] at hl
 refine sorted_strs pl.isList hS (by omega) fun out ss' a1 a2 a3=>?_
 obtain ⟨e,he⟩:=sortedAll_at s.heap its out
 have hn:H (s.heap.objs.size+1)=none:=I.hok.fresh (abP _)
 refine ⟨.ref (s.heap.objs.size+1),_,I.laid (t':=s.toks) (a:=s.heap.objs.size+1) (o:=.lst (ss'.map V.str)) (fun b o q=>sortedAll_old q) (abP _) ?_,rfl,k _ ss' hn a2 (dq a3)⟩
 refine ⟨by rw [aae,a2.length_eq,aaA]; omega,out.toList,e,dt a1,?_⟩
 rw [adX]
 exact he
end
section
variable {prog:aaq} {w:World} {A:Around} {E:Value->Shared->Prop} {s:Shared}
noncomputable def dU (vs:List Value):Sem aek:=do
 let l <- newList vs
 let _ <- aeZ [l] (call (.builtin "list.sort") [l] [])
 ret l
theorem lp {x:Value} {vs:List Value} {Q:Value->Shared->Prop} (hc:∀ R:List Value->Shared->Prop,(∀ h1 tk,(∀ b o,s.heap.get? b=some o->h1.get? b=some o)->R vs { s with heap:=h1,toks:=tk })->wpAny (model prog w) A.in1 (collect x) R E s)
  (h:∀ h1 tk,(∀ b o,s.heap.get? b=some o->h1.get? b=some o)->wpAny (model prog w) A.in1 (dU vs) (fun fin s'=>∃ v,fin=.done (.ret v)/\Q v s') E { s with heap:=h1,toks:=tk }):wpAny (model prog w) A (call (.builtin "sorted") [x]) Q E s:=by
 refine adg aeX aeE aeF (args_sorted1 _) (?_:wpAny (model prog w) A.in1 (acx.«sorted» ⟨[x],[]⟩) _ _ s)
 unfold acx.«sorted»
 exact aaa (m:=checkCount "sorted" 1 1 _) (aag (aaa (hc _ fun h1 tk kk=>h h1 tk kk)))
theorem pB {vs:List Value} {Q:Value->Shared->Prop} (h2:vs.length<2) (h:∀ h' e,(∀ b o,s.heap.get? b=some o->h'.get? b=some o)->h'.get? s.heap.objs.size=some (seqObj "list" vs.toArray e)->Q (.ref s.heap.objs.size) { s with heap:=h' }) :
  wpAny (model prog w) A (dU vs) (fun fin s'=>∃ v,fin=.done (.ret v)/\Q v s') E s:=by
 have hz:vs.length<=sizeLine:=by rw [aaA]; omega
 unfold dU
 refine aaa (acA ?_ hz)
 have hoL:(s.heap.push (seqObj "list" vs.toArray 0)).get? s.heap.objs.size=some (seqObj "list" vs.toArray 0):=aai _ rfl
 refine (?_:wpAny _ _ _ _ _ { s with heap:=s.heap.push (seqObj "list" vs.toArray 0) })
 generalize hB':s.heap.push (seqObj "list" vs.toArray 0)=hB at hoL ⊢
 have kB:∀ b o,s.heap.get? b=some o->hB.get? b=some o:=fun b o e=>by rw [<- hB']; exact aac _ e
 refine aaa (aaQ (aa8 ade ⟨_,hoL,rfl⟩ acZ ?body (adZ _)))
 case body =>
  rw [list_sort_plain]
  obtain ⟨e1,ho1⟩:∃ e1,(hB.update s.heap.objs.size (abn fun _=>#[])).get? s.heap.objs.size=some (seqObj "list" #[] e1):=⟨_,acY hoL fun _=>#[]⟩
  refine aaa (listItems_at hoL rfl (aaa (acU hoL rfl ?_ (by rw [aaf]; exact hz) (abl _))))
  refine aaa (aeW ho1 rfl (aaa (wpAny_newTuple ?_ (by show vs.length<=_; exact hz))))
  refine aaa (acA (aaQ ?_) (abl _))
  have ho6:(((hB.update s.heap.objs.size (abn fun _=>#[])).push (seqObj "tuple" vs.toArray 0)).push (seqObj "list" #[] 0)).get? s.heap.objs.size=some (seqObj "list" #[] e1) :=
   aac _ (aac _ ho1)
  refine (?_:wpAny (model prog w) _ _ _ _ { s with heap:=((hB.update s.heap.objs.size (abn fun _=>#[])).push (seqObj "tuple" vs.toArray 0)).push (seqObj "list" #[] 0) })
  dsimp only
  have hlt:vs.toArray.size<2:=by rw [aaf]; exact h2
  rw [if_pos hlt,if_pos hlt]
  refine aaa (aag ?_)
  rw [StateT.run_pure]
  refine aaa (aag ?_)
  dsimp only
  have eo:(arrOf (SortSt.mk' general' (vs.toArray.zip vs.toArray) #[] 7 none)).map (·.2)=vs.toArray:=by
   show (vs.toArray.zip vs.toArray).map (·.2)=vs.toArray
   apply Array.ext
   ·simp
   ·intro i h1 h2
    simp
  rw [eo]
  refine aaa (aeW ho6 rfl (aaa (acU ho6 rfl ?_ (abl _) (by rw [aaf]; first | exact hz | exact aeB hz))))
  simp only [bne_self_eq_false,aaR,if_false]
  refine aag ⟨_,rfl,aag ⟨_,rfl,h _ _ (fun b o e=>?_) (acY ho6 fun _=>vs.toArray)⟩⟩
  have hb:b≠s.heap.objs.size:=aas (aak e)
  rw [ad8 _ _ _ _ hb]
  refine aac _ (aac _ ?_)
  rw [ad8 _ _ _ _ hb]
  exact kB b o e
end
section
variable {X:Cx} {pins:List (Addr×Obj)} {σ:St} {H:Hp} {s:Shared}
theorem wz {h:Heap} {a:Addr} {m m':Str->Option Value} (x:h.Ns a m) (y:h.Ns a m'):m=m':=by
 obtain ⟨o,es,ep,ho,hd,_,hm⟩:=x
 obtain ⟨o',es',ep',ho',hd',_,hm'⟩:=y
 rw [ho] at ho'; cases ho'
 rw [hd] at hd'; cases hd'
 funext n
 rw [<- hm n,<- hm' n]
theorem ObjOk.there {P:aaq} {w:World} {H:Hp} {h:Heap} {a:Addr} {o:HO} (x:ObjOk P w H h a o):∃ u,h.get? a=some u:=by
 cases o with
 | lst xs=>obtain ⟨_,_,_,_,e⟩:=x; exact ⟨_,e⟩
 | tup xs=>obtain ⟨_,_,_,o,e,_⟩:=x; exact ⟨_,e⟩
 | dK kvs=>obtain ⟨_,_,_,_,o,_,_,e,_⟩:=x; exact ⟨_,e⟩
 | dT kvs=>obtain ⟨_,_,_,_,o,_,_,e,_⟩:=x; exact ⟨_,e⟩
 | set S n=>obtain ⟨o,_,_,_,e,_⟩:=x; exact ⟨_,e⟩
 | ins C dx fs=>obtain ⟨_,_,_,e,_⟩:=x; exact ⟨_,e⟩
 | own y=>exact x
 | xd fs=>obtain ⟨_,⟨_,_,_,e,_⟩,_⟩:=x; exact ⟨_,e⟩
 | rng lo hi=>obtain ⟨_,_,_,e⟩:=x; exact ⟨_,e⟩
 | frz ob u=>obtain ⟨e,_⟩:=x; exact ⟨_,e⟩
 | tbl ps=>exact ⟨_,show h.get? a=some _ from x⟩
 | met f y=>exact ⟨_,show h.get? a=some _ from x⟩
 | ext φ=>obtain ⟨_,e,_⟩:=x; exact e
theorem HOk.dead {P:aaq} {w:World} {H:Hp} {h:Heap} {a:Addr} (x:HOk P w H h) (e:h.get? a=none):H a=none:=by
 cases q:H a with
 | none=>rfl
 | some u =>
  obtain ⟨o,z⟩:=(x a u q).there
  rw [e] at z; cases z
theorem Inv.laidL {h':Heap} {D:Addr} {xs:List V} {m:Str->Option Value} (I:Inv X pins σ H s) (hm:s.heap.Ns X.env.locals m) (hm':h'.Ns X.env.locals m) (k:∀ b o,b≠X.env.locals->s.heap.get? b=some o->h'.get? b=some o)
  (hD:s.heap.get? D=none) (new:ObjOk X.prog X.w (upd H D (.lst xs)) h' D (.lst xs)):Inv X pins σ (upd H D (.lst xs)) { s with heap:=h' }:=by
 have fr:H D=none:=I.hok.dead hD
 have nD:∀ b o,s.heap.get? b=some o->b≠D:=fun b o e z=>by rw [z,hD] at e; cases e
 have nt:∀ b u,H b=some u->b≠D:=fun b u e=>ax e fr
 have ntL:∀ b u,H b=some u->b≠X.env.locals:=fun b u e=>ax e I.free
 refine I.step (g':=s.gens) (d':=s.drawn) (t':=s.toks) (ch:=[]) (fun _ z=>nomatch z) (fun b o hb _ _ e _=>k b o hb e) (fun b o hb _ _ e _=>⟨o.slots,k b o hb e⟩) (fun b o _ e n=>by rw [ak (nD b o e)]; exact n)
  (fun b o _ e=>?_) (fun b ys e=>by rw [ak (nt b _ e)]; exact e) (fun b o u e=>by rw [ak (nt b _ e)]; exact e) (fun b ps e=>⟨#[],by rw [ak (nt b _ e),e]; simp⟩) (fun m2 h2=>by rw [wz h2 hm]; exact hm') (fun b u e=>?_) I.bare
 ·by_cases hb:b=X.env.locals
  ·subst hb
   obtain ⟨o',_,_,ho',_⟩:=hm'
   exact ⟨o',ho'⟩
  ·exact ⟨o,k b o hb e⟩
 ·by_cases hb:b=D
  ·subst hb
   rw [ao] at e
   cases e
   exact new
  ·rw [ak hb] at e
   refine (I.hok b u e).stay (fun c v hc q=>k c v ?_ q) (fun c q=>by rw [ak (nt c _ q)]; exact q) fun c ys q=>by rw [ak (nt c _ q)]; exact q
   rcases hc with z | z
   ·rw [z]; exact ntL b u e
   ·exact ntL c _ z
structure Rows (K:aad) (H:Hp) (vs:List V) (nm:List Str):Prop where
 len:vs.length=nm.length
 row:∀ (i:Nat) (v:V) (x:Str),vs[i]?=some v->nm[i]?=some x->∃ a r,v=.ref a/\SqT K H a (.str x::r)
 nd:nm.Nodup
noncomputable def rSortR (K:aad):List V->Hp->VK->Prop:=fun xs H Q=>∃ p vs nm,xs=[.ref p]/\SqL K H p vs/\vs.length<64/\Rows K H vs nm /\
 ∀ l (ix:List Nat),H l=none->ix.length=vs.length->ix.Nodup->(∀ i∈ix,i<vs.length)->(ix.map fun i=>nm.getD i ⟨#[]⟩).Pairwise ltS->Q (.ref l) (upd H l (.lst (ix.map fun i=>vs.getD i .non)))
theorem Vals.pick {xs:List V} {us:List Value} (r:Vals xs us):∀ (ix:List Nat),(∀ i∈ix,i<xs.length)->Vals (ix.map fun i=>xs.getD i .non) (ix.map fun i=>us.getD i aa0)
 | [],_=>.nil
 | i::ix,h=>by
  refine .cons ?_ (Vals.pick r ix fun j hj=>h j (aav _ hj))
  have hi:=h i aat
  have e:xs[i]?=some (xs[i]):=by simp [hi]
  obtain ⟨u,hu,ru⟩:=r.get e
  have e1:xs.getD i .non=xs[i]:=by simp [hi]
  have e2:us.getD i aa0=u:=by rw [aah,hu]; rfl
  show RelV (xs.getD i .non) (us.getD i aa0)
  rw [e1,e2]
  exact ru
theorem mz {A:Around} {E:Value->Shared->Prop} {its:List Value} {vs:List V} {nm:List Str} {Q:VK} (I:Inv X pins σ H s) (rv:Vals vs its) (hz:its.length<=sizeLine) (h64:vs.length<64) (R:Rows X.K H vs nm)
  (k:∀ l (ix:List Nat),H l=none->ix.length=vs.length->ix.Nodup->(∀ i∈ix,i<vs.length)->(ix.map fun i=>nm.getD i ⟨#[]⟩).Pairwise ltS->Q (.ref l) (upd H l (.lst (ix.map fun i=>vs.getD i .non)))) :
  wpAny (model X.prog X.w) A (dU its) (fun fin s'=>∃ v,fin=.done (.ret v)/\∃ x H',Inv X pins σ H' s'/\RelV x v/\Q x H') E s:=by
 have hl:=rv.length
 by_cases h2:its.length<2
 ·refine pB h2 fun h' e kk he=>?_
  have hn:H s.heap.objs.size=none:=I.hok.fresh (aaj _)
  have ei:(aaM vs.length).map (fun i=>vs.getD i V.non)=vs:=by
   apply abX
   intro i
   rw [aal]
   by_cases hi:i<vs.length
   ·rw [abM hi]; simp [hi]
   ·rw [aam (by simpa using hi),aam (by omega)]; rfl
  have q:=k s.heap.objs.size (aaM vs.length) hn (by simp) adB (fun i hi=>List.mem_range.mp hi) (by
   match hv:vs.length,hl with
   | 0,_=>simp
   | 1,_=>simp [adL]
   | n+2,hl=>omega)
  rw [ei] at q
  exact ⟨.ref s.heap.objs.size,_,I.laid (t':=s.toks) (a:=s.heap.objs.size) (o:=.lst vs) kk (aaj _) ⟨by rw [hl]; exact hz,its,e,rv,he⟩,rfl,q⟩
 ·obtain ⟨m,F⟩:=I.fr
  unfold dU
  refine aaa (acA ?_ hz)
  have hoL:(s.heap.push (seqObj "list" its.toArray 0)).get? s.heap.objs.size=some (seqObj "list" its.toArray 0):=aai _ rfl
  have hL:X.env.locals<s.heap.objs.size:=F.ns.lt
  refine aaa (aaQ (aa8 ade ⟨_,hoL,rfl⟩ acZ ?body (adZ _)))
  refine PySem.W.kat_list_sort (s:={ s with heap:=s.heap.push (seqObj "list" its.toArray 0) }) (F.kept fun b o e=>aac _ e) ((ji (g:=X.base) (h:=s.heap) (L:=X.env.locals)).grown fun b o e=>aac _ e) hoL (acd hL)
   (Heap.get?_none_of_le (aa1 F.above (aeG hL))) (fun p hp=>aas (aak ((ji (g:=X.base) (h:=s.heap) (L:=X.env.locals)) p hp).1)) (by omega) (by omega) fun e1 h' F' N'=>?_
  have hD:∀ q∈ik X.base s.heap X.env.locals,q.1<s.heap.objs.size:=fun q hq=>aak ((ji (g:=X.base) (h:=s.heap) (L:=X.env.locals)) q hq).1
  generalize hDe:s.heap.objs.size=D at hD N' ⊢
  have keep1:∀ b o,b≠X.env.locals->s.heap.get? b=some o->h'.get? b=some o:=fun b o hb e=>by
   cases q:X.base.get? b with
   | some ob =>
    have:=I.bk b ob q
    rw [e] at this; cases this
    exact F'.keep b _ q
   | none=>exact (N' (b,o) (aav _ (fq hb q e))).1
  have hDs:∀ b o,b≠X.env.locals->X.base.get? b=none->s.heap.get? b=some o->b<D:=fun b o hb hn e=>hD (b,o) (fq hb hn e)
  have rowAt:∀ i,i<its.length->∃ a ob vv x t n,its.getD i aa0=.ref a/\h'.get? a=some ob/\ob.cls=.type "tuple" /\ ob.data=.seq vv n/\vv[0]?=some (.str x t)/\nm[i]?=some x/\s.heap.get? a=some ob:=fun i hi=>by
   have hi':i<vs.length:=by omega
   have e:vs[i]?=some vs[i]:=by simp [hi']
   obtain ⟨u,hu,ru⟩:=rv.get e
   have hin:i<nm.length:=by rw [<- R.len]; exact hi'
   have en:nm[i]?=some nm[i]:=by simp [hin]
   obtain ⟨a,rr,ev,ha⟩:=R.row i _ _ e en
   rw [ev] at ru
   cases ru
   obtain ⟨tits,tv,⟨ob,hob,hc,n,hd⟩,z1⟩:=I.tuple ha
   cases tv with
   | cons t1 t2 =>
    obtain ⟨t,rfl⟩:=t1
    refine ⟨a,ob,_,nm[i],t,n,by rw [aah,hu]; rfl,keep1 a ob ?_ hob,hc,hd,by simp,en,hob⟩
    rintro rfl
    obtain ⟨m,⟨o2,es,ep,g1,g2,_⟩,_⟩:=I.loc
    rw [hob] at g1; cases g1
    rw [hd] at g2; cases g2
  have tups:PySem.W.KatTups h' its ((aaM its.length).map fun i=>match its.getD i aa0 with | .ref a=>(match h'.get? a with | some ob=>(match ob.data with | .seq vv _=>(vv[0]?).getD .none | _=>.none) | none=>.none) | _=>.none):=by
   have go:∀ (us:List Value) (f:Nat->Value) (k0:Nat),(∀ i,i<us.length->∃ a ob vv n,us.getD i aa0=.ref a/\h'.get? a=some ob/\ob.cls=.type "tuple" /\ ob.data=.seq vv n/\vv[0]?=some (f (k0+i))) ->
     PySem.W.KatTups h' us ((aaM us.length).map fun i=>f (k0+i)):=by
    intro us
    induction us with
    | nil=>intro f k0 _; exact trivial
    | cons u us ih =>
     intro f k0 hh
     obtain ⟨a,ob,vv,n,e1,e2,e3,e4,e5⟩:=hh 0 (by simp)
     have e1':u=.ref a:=by simpa using e1
     subst e1'
     rw [abj,List.range_succ_eq_map,aao,aaJ]
     refine ⟨⟨a,ob,vv,n,rfl,e2,e3,e4,e5⟩,?_⟩
     have:=ih f (k0+1) fun i hi=>by
      obtain ⟨a,ob,vv,n,e1,e2,e3,e4,e5⟩:=hh (i+1) (by simpa using hi)
      exact ⟨a,ob,vv,n,by simpa using e1,e2,e3,e4,by rw [show k0+1+i=k0+(i+1) by omega]; exact e5⟩
     have ef:(fun i=>f (k0+i)) ∘ Nat.succ=fun i=>f (k0+1+i):=by
      funext i
      show f (k0+(i+1))=f (k0+1+i)
      rw [show k0+(i+1)=k0+1+i by omega]
     rw [ef]
     exact this
   have:=go its (fun i=>match its.getD i aa0 with | .ref a=>(match h'.get? a with | some ob=>(match ob.data with | .seq vv _=>(vv[0]?).getD .none | _=>.none) | none=>.none) | _=>.none) 0 fun i hi=>by
    obtain ⟨a,ob,vv,x,t,n,e1,e2,e3,e4,e5,_⟩:=rowAt i hi
    refine ⟨a,ob,vv,n,e1,e2,e3,e4,?_⟩
    rw [ab0,e1,e5]
    simp only [e2,e4,e5]
    rfl
   simpa using this
  refine PySem.W.kat_kind (T:=.type "str") tups (by rw [aae,abW]; omega) (fun v hv=>?_) rfl ?_
  ·obtain ⟨i,hi,rfl⟩:=List.mem_map.mp hv
   obtain ⟨a,ob,vv,x,t,n,e1,e2,e3,e4,e5,_⟩:=rowAt i (List.mem_range.mp hi)
   rw [e1]
   simp only [e2,e4,e5]
   exact PySem.W.Looks.of_pure rfl
  ·-- the questions
   have hT:((acj "str") != (acj "tuple"))=true:=by decide
   rw [hT]
   let lt:Nat->Nat->Bool:=fun i j=>decide (ltS (nm.getD i ⟨#[]⟩) (nm.getD j ⟨#[]⟩))
   have cinj:∀ i j,i<its.length->j<its.length->(nm.getD i ⟨#[]⟩).cps.toList=(nm.getD j ⟨#[]⟩).cps.toList->i=j:=fun i j hi hj e=>by
    have hi':i<nm.length:=by rw [<- R.len]; omega
    have hj':j<nm.length:=by rw [<- R.len]; omega
    have e':nm.getD i ⟨#[]⟩=nm.getD j ⟨#[]⟩:=by
     generalize nm.getD i ⟨#[]⟩=x at e ⊢
     generalize nm.getD j ⟨#[]⟩=y at e ⊢
     obtain ⟨x⟩:=x
     obtain ⟨y⟩:=y
     exact congrArg Str.mk (Array.toList_inj.mp e)
    rw [aah,aah,aab hi',aab hj'] at e'
    exact (act R.nd).mp e'
   have o:Srt.Ord lt its.length:=by
    refine ⟨fun i _=>?_,fun i j k _ _ _ a b=>?_,fun i j hi hj ne e=>?_⟩
    ·show decide _=false
     simp [ltS,ad3]
    ·have a':=of_decide_eq_true a
     have b':=of_decide_eq_true b
     exact decide_eq_true (List.lt_trans (show _<_ from a') b')
    ·have e':=of_decide_eq_false e
     refine decide_eq_true ?_
     unfold ltS at e' ⊢
     rcases aaO 0 0 with z | _
     ·omega
     ·have le:=List.not_lt.mp e'
      rcases List.le_iff_lt_or_eq.mp le with z | z
      ·exact z
      ·exact absurd (cinj j i hj hi z).symm ne
   refine Srt.pw_wp (lt:=lt) (n:=its.length) (Q:=fun p=>Srt.Pm p its.length/\Srt.Asc lt p its.length) (J:=fun s'=>s'={ s with heap:=h' }) ?_ ?_ (PySem.W.kas_sort its.length) _ rfl (Srt.oC o (by omega) fun p a b=>⟨a,b⟩)
   ·rintro i j C s' hi hj ne rfl hC
    obtain ⟨a,ob,vv,x,t,n,e1,e2,e3,e4,e5,e6,_⟩:=rowAt i hi
    obtain ⟨a',ob',vv',x',t',n',f1,f2,f3,f4,f5,f6,_⟩:=rowAt j hj
    show wpAny _ _ (keyLt' (aeU true) (its.getD i aa0) (its.getD j aa0)) _ _ _
    rw [e1,f1]
    refine PySem.W.kat_lt e2 e4 f2 f4 ?_
    have g1:vv.toList=.str x t::vv.toList.tail:=by
     cases h:vv.toList with
     | nil =>
          have:vv[0]?=vv.toList[0]?:=by simp
          rw [this,h] at e5; cases e5
     | cons y r =>
            have:vv[0]?=vv.toList[0]?:=by simp
            rw [this,h] at e5
            have:y=.str x t:=by simpa using e5
            rw [this]; rfl
    have g2:vv'.toList=.str x' t'::vv'.toList.tail:=by
     cases h:vv'.toList with
     | nil =>
          have:vv'[0]?=vv'.toList[0]?:=by simp
          rw [this,h] at f5; cases f5
     | cons y r =>
            have:vv'[0]?=vv'.toList[0]?:=by simp
            rw [this,h] at f5
            have:y=.str x' t':=by simpa using f5
            rw [this]; rfl
    rw [g1,g2,ada]
    have d1:nm.getD i ⟨#[]⟩=x:=by rw [aah,e6]; rfl
    have d2:nm.getD j ⟨#[]⟩=x':=by rw [aah,f6]; rfl
    have hne:x≠x':=fun z=>ne (cinj i j hi hj (by rw [d1,d2,z]))
    refine PySem.W.kat_cons (aeM ?_)
    rw [decide_eq_false hne]
    refine PySem.W.kat_no ?_
    show wpAny _ _ (oneLt' true (.str x t) (.str x' t')) _ _ _
    refine oneLt_str ?_
    have:=hC _ rfl
    have el:lt i j=decide (x.cps.toList<x'.cps.toList):=by
     show decide (ltS _ _)=_
     rw [d1,d2]; rfl
    rw [el] at this
    exact this
   ·rintro pa s' rfl ⟨P,As⟩
    refine PySem.W.KasFin.intro F' N' (.head fun q hq=>?_) fun h2' c F2 N2=>?_
    ·exact aas (hD q hq)
    ·have keep2:∀ b o,b≠X.env.locals->s.heap.get? b=some o->h2'.get? b=some o:=fun b o hb e=>by
      cases q:X.base.get? b with
      | some ob =>
       have:=I.bk b ob q
       rw [e] at this; cases this
       exact F2.keep b _ q
      | none=>exact (N2 (b,o) (aav _ (fq hb q e))).1
     have hDo:=(N2 _ aat)
     have hDsz:s.heap.get? D=none:=by
      cases q:s.heap.get? D with
      | none=>rfl
      | some od=>exact absurd (hDs D od hDo.2.1 hDo.2.2 q) (aa6 _)
     have hlt':∀ i∈pa.toList,i<vs.length:=fun i hi=>by
      obtain ⟨j,hj,rfl⟩:=Array.mem_iff_getElem.mp (Array.mem_toList_iff.mp hi)
      have:=P.lt j (by rw [<- P.sz]; exact hj)
      rw [Srt.aZ] at this
      simp only [abC hj,aeP] at this
      omega
     have q:=k D pa.toList (I.hok.dead hDsz) (by rw [aax,P.sz]; omega) ?_ hlt' ?_
     ·refine ⟨_,rfl,aag ⟨_,rfl,.ref D,_,I.laidL (xs:=pa.toList.map fun i=>vs.getD i .non) F.ns F2.ns keep2 hDsz ⟨?_,pa.toList.map fun i=>its.getD i aa0,c,rv.pick _ hlt',hDo.1⟩,rfl,q⟩⟩
      rw [aae,aax,P.sz]; exact hz
     ·rw [ac6,acq]
      intro i j hi hj hij e
      have hi':i<pa.size:=by simpa using hi
      have hj':j<pa.size:=by simpa using hj
      have:=P.nd i j (by rw [<- P.sz]; exact hi') (by rw [<- P.sz]; exact hj') (by rw [Srt.aZ,Srt.aZ]; simpa [hi',hj'] using e)
      omega
     ·rw [List.pairwise_map,acq]
      intro i j hi hj hij
      have hi':i<pa.size:=by simpa using hi
      have hj':j<pa.size:=by simpa using hj
      have:=As i j hij (by rw [<- P.sz]; exact hj')
      rw [Srt.aZ,Srt.aZ] at this
      have:=of_decide_eq_true this
      simpa [hi',hj'] using this
theorem pU:CallR X (.builtin "sorted") (rSortR X.K):=by
 intro pins s σ H xs us Q I r h
 obtain ⟨p,vs,nm,rfl,hq,h64,R,k⟩:=h
 obtain ⟨u,rfl,ru⟩:=r.one
 cases ru
 obtain ⟨its,rv,pl,hz⟩:=I.list hq
 refine lp (fun R' g=>collect_list pl.isList (g _ s.toks fun b o e=>?_) (by rw [<- rv.length]; exact hz)) fun h1 tk kk=>mz (I.kept kk) rv (by rw [<- rv.length]; exact hz) h64 R k
 have hb:b<s.heap.objs.size:=aak e
 rw [ad8 _ _ _ _ (aas hb)]
 exact aac _ e
end
end L2
namespace L2
open PySem PySem.Spec PyProof.Rows
section
open PySem.SeqAt
open PySem.AutoSeq1 (wpAny_loadPart')
open PySem.MeetsSeq PySem.MeetsSeq2 PySem.MeetsSeq3
end
section
variable {X:Cx}
noncomputable def rNeNil (K:aad):R2:=fun x y H Q=>∃ a b xs,x=.ref a/\y=.ref b/\SqL K H a xs/\SqL K H b []/\Q (.bl (!xs.isEmpty)) H
theorem jd (hu:X.A.units<cLine):OpR X (aaS .NotEq) (rNeNil X.K):=by
 intro pins s σ H x y v u Q I rx ry h
 obtain ⟨a,b,xs,rfl,rfl,ha,hb,q⟩:=h
 cases rx
 cases ry
 obtain ⟨its,r1,p1,_⟩:=I.list ha
 obtain ⟨its2,r2,p2,_⟩:=I.list hb
 cases r2
 have fin:∀ k,k=(!xs.isEmpty)->EP X pins σ Q (.bool k) s:=fun k e=>by subst e; exact ⟨.bl _,H,I,rfl,q⟩
 cases r1 with
 | nil=>exact SeqAt.RcNeAt.lists (e:=fun _=>true) p1.isList p2.isList rfl hu (fun j h1 h2=>absurd h1 (by simp)) X.prog X.w X.xe _ (fin _ rfl)
 | cons _ _=>exact SeqAt.RcNeAt.lists_lengths p1.isList p2.isList (by simp) hu X.prog X.w X.xe _ (fin _ rfl)
noncomputable def repS (x:Str) (n:Nat):Str:=⟨(aaC n x.cps.toList).flatten.toArray⟩
noncomputable def rMulS:R2:=fun x y H Q=>∃ (z:Str) (i:Int),x=.str z/\y=.int i/\0<=i/\i<=1000/\z.length<=1000/\Q (.str (repS z i.toNat)) H
theorem lH (x:Array Nat):∀ (n:Nat) (acc:Array Nat),((aaC n x).foldl (·++·) acc)=acc++(aaC n x.toList).flatten.toArray
 | 0,acc=>by simp
 | n+1,acc=>by
  rw [abh,adN,lH x n,abh,abK]
  apply Array.toList_inj.mp
  simp
theorem tZ (x:Str) (i:Int) (h:0<=i):Txt.mul x i=repS x i.toNat:=by
 unfold Txt.mul repS
 by_cases h1:i<1
 ·have:i=0:=by omega
  subst this
  rfl
 ·rw [if_neg h1]
  by_cases h2:(i==1 || x.length==0)=true
  ·rw [if_pos h2]
   rw [adP] at h2
   obtain ⟨x⟩:=x
   rcases h2 with z | z
   ·have:i=1:=by simpa using z
    subst this
    congr 1
    apply Array.toList_inj.mp
    simp
   ·have hz:x.size=0:=by simpa [aew] using z
    have:x=#[]:=Array.eq_empty_of_size_eq_zero hz
    subst this
    congr 1
    apply Array.toList_inj.mp
    simp
  ·rw [if_neg h2,lH]
   congr 1
   simp
theorem uA:OpR X (ab2 .Mult) rMulS:=by
 intro pins s σ H x y v u Q I rx ry h
 obtain ⟨z,i,rfl,rfl,h0,h1,h2,q⟩:=h
 obtain ⟨t,rfl⟩:=rx
 obtain ⟨t',rfl⟩:=ry
 refine SB.mul ⟨?_,fun _ _ hh=>?_,fun _ _=>?_⟩ fun t2 k=>?_
 ·rw [decide_eq_false (by omega),decide_eq_false (by omega)]; rfl
 ·have:((2:Int) ^ 63 - 1) / i ≥ 2 ^ 50:=by
   apply (Int.le_ediv_iff_mul_le (by omega)).mpr
   have:(2:Int) ^ 50*i<=2 ^ 50*1000:=aeR h1 (by decide)
   have e:(2:Int) ^ 50*1000<=2 ^ 63 - 1:=by decide
   omega
  have e:(2:Int) ^ 50 > 1000:=by decide
  omega
 ·have:z.length*i.toNat<=1000*1000:=Nat.mul_le_mul h2 (by omega)
  refine decide_eq_false ?_
  rw [aaA]
  omega
 ·rw [tZ z i h0]
  exact ⟨.str (repS z i.toNat),H,I.tok k,⟨_,rfl⟩,q⟩
noncomputable def rIsi (K:aad):List V->Hp->VK->Prop:=fun xs H Q=>∃ x t c b,xs=[x,.ty c]/\TyOf K H x t/\ad0 K t (.type c)=some b/\Q (.bl b) H
theorem tG:CallR X (.builtin "isinstance") (rIsi X.K):=by
 intro pins s σ H xs us Q I r h
 obtain ⟨x,t,c,b,rfl,ty,e,q⟩:=h
 cases r with
 | cons r1 r2 =>
  cases r2 with
  | cons r2 r3 =>
   cases r3
   cases r2
   exact qW I r1 ty e fun tk=>⟨.bl b,H,I.tok tk,rfl,q⟩
end
noncomputable def tDC (wi:TI) (g:TG) (tc:TT) (tk te:TE) (js:List (Option Nat)):TE:=fun σ H Q=>wi σ H fun J H1=>∀ l,H1 l=none ->
 ∃ W:Nat->Nat->List (Key×V)->Hp->Prop,(∃ m,W 0 m [] (upd H1 l (.dK [])))/\∀ i m ys H2,W i m ys H2 ->
  (J.stop i H2/\Q (.ref l) H2)\/(J.go i H2/\∀ x H3,J.yld i H2 x H3->g x (capS js σ) H3 fun σ4 H4=>tc σ4 H4 fun b H5 =>
   if b=true then tk σ4 H5 fun kk H6=>te σ4 H6 fun y H7=>∃ key,kk=kV key/\H7 l=some (.dK ys)/\ys.length<sizeLine/\∃ m',m'<m/\W (i+1) m' (putK ys key y) (upd H7 l (.dK (putK ys key y))) else ∃ m',m'<m/\W (i+1) m' ys H5)
section
variable {X:Cx} {tg kx vx iter:Expr} {ifs:List Expr} {scope:Scope} {pos:Pos} {wi:TI} {g:TG} {tc:TT} {tk te:TE} {N:List Str} {js:List (Option Nat)}
theorem pc {use:Option (Value->Sem Unit)} {pins:List (Addr×Obj)} {s:Shared} {σ:St} {H:Hp} {Q:VK} {QQ:Value->Shared->Prop} {E:Value->Shared->Prop} {pos':Pos} (hc:X.calm=true) (hx:X.xe=fun _ _=>False) (hi:PI X tg iter wi)
  (hg:∀ C s₀ H₀ ex pn,PG (cxComp X scope N C s₀ H₀ ex pn) tg g) (ht:∀ C s₀ H₀ ex pn,PF (cxComp X scope N C s₀ H₀ ex pn) ifs tc) (hk:∀ C s₀ H₀ ex pn,PE (cxComp X scope N C s₀ H₀ ex pn) kx tk) (he:∀ C s₀ H₀ ex pn,PE (cxComp X scope N C s₀ H₀ ex pn) vx te) (hgs:Gsets js g)
  (hsc:scOk X.env scope=true) (hcap:capOk X.N scope N js=true) (hkind:scope.kind=.function) (hs:∀ x,abb iter X.env x=pure x)
  (I:Inv X pins σ H s) (h:tDC wi g tc tk te js σ H Q)
  (fin:∀ (l C:Addr) (H':Hp) (s':Shared),Inv X pins σ H' s'->Q (.ref l) H'->H' C=none->C≠X.env.locals->X.s₀.heap.objs.size<=C->(∀ x c,X.env.cells.lookup x=some c->c≠C)->(∀ p∈X.pn++pins,p.1≠C)->(∃ m,s'.heap.Ns C m)->aeT (model X.prog X.w) X.A E use QQ (.ref l) C (.ok .next) s') :
  wpAny (model X.prog X.w) X.A (adw (.DictComp kx vx [⟨tg,iter,ifs,0⟩] scope pos) scope X.env pos' newDict false (eval iter X.env) use) QQ E s:=by
 have SC:=oD hsc
 have CP:=nF hcap
 refine wpAny_comprehension_free (cl:=clOf X.env.cells scope.names []) rfl hs (gj (SC.cells I.ok)) hkind SC.lc ?_
 refine aaI (hi pins s σ H _ I h) (fun v s1 h1=>aaI h1 (fun itv s2 h2=>?_) (fun _ _ z=>by rw [hx] at z; exact z.elim)) (fun _ _ z=>by rw [hx] at z; exact z.elim)
 obtain ⟨it,fp,tn,J,H2,rfl,I2,T,st2,f2,hq⟩:=h2
 have hD0:H2 s2.heap.objs.size=none:=I2.hok.fresh (aaj _)
 obtain ⟨W,⟨m0,w0⟩,turn⟩:=hq s2.heap.objs.size hD0
 refine aaa (wpAny_alloc (aag (adU (fun x hx=>SC.nc x hx) (by intro y hy; simp at hy) (fun h₁ hns₁ hsb₁=>?_) hkind)))
 dsimp only at hns₁ hsb₁ ⊢
 generalize hH3:s2.heap.push ({ cls:=.type "dict",data:=.dict #[] }:Obj)=hp3 at hns₁ hsb₁ ⊢
 have hCs:hp3.objs.size=s2.heap.objs.size+1:=by rw [<- hH3,abp]
 have I3:Inv X pins σ (upd H2 s2.heap.objs.size (.dK [])) { s2 with heap:=hp3 }:=by
  rw [<- hH3]
  exact I2.laid (t':=s2.toks) (fun b u e=>aac _ e) (aaj _) (tw s2.heap I2.big)
 have keep:∀ b o,hp3.get? b=some o->h₁.get? b=some o:=fun b o e=>hsb₁.extBut b o (aas (aak e)) (aac _ e)
 have fpo:∀ b∈fp,b<s2.heap.objs.size:=fun b hb=>by
  obtain ⟨o,e,_⟩:=T.obj _ _ st2 b hb
  exact aak e
 have f3:∀ b∈fp,FpOk X pins (upd H2 s2.heap.objs.size (.dK [])) b:=fun b hb=>⟨by rw [ak (aas (fpo b hb))]; exact (f2 b hb).1,(f2 b hb).2⟩
 have J4:=nk (tk:=s2.toks+([]:List (Str×Value)).length) (C:=hp3.objs.size) (fp:=fp) (h₁:=h₁) (scope:=scope) (N:=N) (js:=js) I3 SC CP hkind f3 (fun b hb=>by show b<hp3.objs.size; rw [hCs]; exact abd (fpo b hb)) rfl keep (by
  have:(fun x=>ac2 x ([]:List (Str×Value)).reverse)=fun _=>none:=by funext x; rfl
  rw [this] at hns₁; exact hns₁)
 have st4:tn 0 h₁:=T.keep _ _ _ st2 fun b hb o e=>keep b o (by rw [<- hH3]; exact aac _ e)
 have loop:∀ s4:Shared,s4={ s2 with heap:=h₁,toks:=s2.toks+([]:List (Str×Value)).length } ->
   adJ (model X.prog X.w) X.A (.compLoop (.DictComp kx vx [⟨tg,iter,ifs,0⟩] scope pos) 0 (.ref it) (.ref s2.heap.objs.size) (compEnvC scope (clOf X.env.cells scope.names []) hp3.objs.size X.env)) (aeT (model X.prog X.w) X.A E use QQ (.ref s2.heap.objs.size) hp3.objs.size) s4:=by
  rintro s4 rfl
  generalize hY:cxComp X scope N hp3.objs.size { s2 with heap:=hp3 } (upd H2 s2.heap.objs.size (.dK [])) fp (X.pn++pins)=Y at J4
  have fpY:∀ {H':Hp},(∀ b∈fp,H' b=none)->∀ b∈fp,FpOk Y [] H' b:=fun hn b hb=>by
   subst hY
   refine ⟨hn b hb,?_,?_,.inl hb,fun x c e=>?_,fun p hp=>?_⟩
   ·show b≠hp3.objs.size
    rw [hCs]; exact aas (abd (fpo b hb))
   ·intro z
    rcases List.mem_cons.mp (I3.stkSub b z) with q | q
    ·exact (f3 b hb).2.1 q
    ·exact (f3 b hb).2.2.1 q
   ·exact (f3 b hb).2.2.2.2.1 x c (eD (SC.cells I.ok) (fun c e=>by simp at e) e)
   ·exact (f3 b hb).2.2.2.2.2 p (by simpa [cxComp] using hp)
  have hgY:PG Y tg g:=by subst hY; exact hg _ _ _ _ _
  have htY:PF Y ifs tc:=by subst hY; exact ht _ _ _ _ _
  have hkY:PE Y kx tk:=by subst hY; exact hk _ _ _ _ _
  have heY:PE Y vx te:=by subst hY; exact he _ _ _ _ _
  have eA:Y.A=X.A:=by subst hY; rfl
  have eP:Y.prog=X.prog:=by subst hY; rfl
  have eW:Y.w=X.w:=by subst hY; rfl
  have eK:Y.K=X.K:=by subst hY; rfl
  have eC:Y.calm=true:=by subst hY; exact hc
  have eX:Y.xe=fun _ _=>False:=by subst hY; rfl
  have eE:Y.env=compEnvC scope (clOf X.env.cells scope.names []) hp3.objs.size X.env:=by subst hY; rfl
  have T':Turn Y.prog Y.w Y.K tg J fp it tn:=by rw [eP,eW,eK]; exact T
  have eL:(capS js σ).length=js.length:=by unfold capS; rw [aae]
  rw [<- eP,<- eW,<- eA,<- eE]
  refine codeAny_loop rfl (fun n s'=>∃ i ys H',Inv Y [] (capS js σ) H' s'/\tn i s'.heap/\(∀ b∈fp,H' b=none)/\W i n ys H') (fun n s' hI=>?_) m0 ⟨0,[],_,J4,st4,fun b hb=>(f3 b hb).1,w0⟩
  obtain ⟨i,ys,H5,I5,st5,fr5,w5⟩:=hI
  show wpAny _ Y.A ((compTurn (.DictComp kx vx [⟨tg,iter,ifs,0⟩] scope pos) 0 (.ref it) (.ref s2.heap.objs.size) Y.env).onRaise (fun x=>do noteFrame x Y.env; theTreesLotGoes x)) _ _ s'
  refine wpAny_noted ?_
  rw [compTurn_dict]
  refine aaa (acf (aaa ?_))
  have noE:∀ (x:Value) (s:Shared) (P:Prop),Y.xe x s->P:=fun x s P z=>by rw [eX] at z; exact z.elim
  rcases turn i n ys H5 w5 with ⟨stop,qn⟩ | ⟨go,step⟩
  ·refine aaI (T'.done Y rfl rfl rfl eC i [] s' _ H5 Y.xe I5 (fpY fr5) st5 stop) (fun r s6 ⟨hr,I6⟩=>?_) fun x s z=>noE x s _ z
   subst hr
   refine aag ?_
   show aeT _ _ _ _ _ _ _ _ _
   rw [eP,eW,eA]
   have back:Inv X pins σ H5 s6:=by subst hY; exact np I3 I6 f3
   have hn6:∃ m,s6.heap.Ns hp3.objs.size m:=by
    obtain ⟨m,hm,_⟩:=I6.loc
    have:Y.env.locals=hp3.objs.size:=by rw [eE]; rfl
    rw [this] at hm
    exact ⟨m,hm⟩
   have hC6:H5 hp3.objs.size=none:=by
    have:=I6.free
    have e:Y.env.locals=hp3.objs.size:=by rw [eE]; rfl
    rw [e] at this; exact this
   refine fin s2.heap.objs.size hp3.objs.size H5 s6 back qn hC6 ?_ ?_ ?_ ?_ hn6
   ·exact acd I3.lt
   ·exact I3.sz
   ·intro x c e z
    obtain ⟨v,o,ho,_⟩:=I3.cell x c e
    exact absurd (aak ho) (by rw [z]; exact aa6 _)
   ·intro p hp z
    have:=aak (I3.pin p hp).1
    rw [z] at this; exact absurd this (aa6 _)
  ·refine aaI (T'.item Y rfl rfl rfl eC i [] s' _ H5 Y.xe I5 (fpY fr5) st5 go) (fun r s6 h6=>?_) fun x s z=>noE x s _ z
   obtain ⟨u,hr,h6⟩:=h6
   subst hr
   dsimp only
   refine aaa ?_
   refine aaI h6 (fun _ s7 h7=>?_) fun x s z=>noE x s _ z
   obtain ⟨x,H7,I7,r7,y7,st7,fr7⟩:=h7
   have I7':=I7.pinned (fpY fr7) (T.obj _ _ st7)
   have g7:=hgs x (capS js σ) H7 _ (step x H7 y7)
   refine aaa ?_
   refine aaI (hgY _ s7 (capS js σ) H7 x u _ I7' r7 g7) (fun _ s8 h8=>?_) fun x s z=>noE x s _ z
   obtain ⟨σ8,H8,I8,q8,l8,k8⟩:=h8
   refine aaa ?_
   refine aaI (htY _ s8 σ8 H8 _ I8 q8) (fun b s9 h9=>?_) fun x s z=>noE x s _ z
   obtain ⟨H9,I9,q9⟩:=h9
   have again:∀ {s':Shared} {H':Hp},Inv Y ([]++pinsAt fp s7.heap) σ8 H' s'->Inv Y [] (capS js σ) H' s'/\tn (i+1) s'.heap/\∀ b∈fp,H' b=none:=fun {s' H'} I'=>by
    refine ⟨(I'.unpinned).weak l8.symm fun k v e=>?_,T.keep _ _ _ st7 fun b hb o e=>(I'.pin (b,o) (aaE _ (aaE _ (b9 hb e)))).1,fun b hb=>?_⟩
    ·cases ej:js[k]? with
     | none =>
      unfold capS at e
      rw [aal,ej] at e; cases e
     | some o =>
      cases o with
      | none =>
       unfold capS at e
       rw [aal,ej] at e; cases e
      | some j=>rw [k8 k j ej]; exact e
    ·obtain ⟨o,e,d⟩:=T.obj _ _ st7 b hb
     exact (I'.pin (b,o) (aaE _ (aaE _ (b9 hb e)))).2.1
   cases b with
   | false =>
    rw [if_neg aay] at q9
    obtain ⟨m',hm,w9⟩:=q9
    obtain ⟨a1,a2,a3⟩:=again I9
    exact aag ⟨rfl,m',hm,i+1,ys,H9,a1,a2,a3,w9⟩
   | true =>
    rw [if_pos rfl] at q9
    refine aaa (aaa ?_)
    refine aaI (hkY _ s9 σ8 H9 _ I9 q9) (fun kv s10 h10=>?_) fun x s z=>noE x s _ z
    obtain ⟨kk,H10,I10,r10,q10⟩:=h10
    refine aaa (aaQ ?_)
    refine aaI (heY _ s10 σ8 H10 _ I10 q10) (fun vv s11 h11=>?_) fun x s z=>noE x s _ z
    obtain ⟨yv,H11,I11,r11,key,ek,e11,z11,m',hm,w11⟩:=h11
    subst ek
    refine aaa (acf (aaQ ?_))
    obtain ⟨zz,hd,vs,rel,dd⟩:=pQ I11.hok e11
    have hz:vs.length<=sizeLine:=by rw [<- rel.length]; exact zz
    have hl:(putK ys key yv).length<=sizeLine:=by have:=oj ys key yv; omega
    refine wpAny_dictSet_pairs (hsz:=hz) (ic r10) dd fun h' dd' hs=>?_
    have he:∃ q,h'.get? s2.heap.objs.size=some q:=let ⟨q,_,_,hq,_⟩:=dd'; ⟨q,hq⟩
    have I12:Inv Y _ σ8 (upd H11 s2.heap.objs.size (.dK (putK ys key yv))) { s11 with heap:=h',toks:=s11.toks+1 }:=vg (t':=s11.toks+1) I11 (by rw [e11]; exact acX) hs he (xb hl hd (rel.put key r11) dd')
    obtain ⟨a1,a2,a3⟩:=again I12
    exact aag ⟨rfl,m',hm,i+1,putK ys key yv,_,a1,a2,a3,w11⟩
 exact codeAny_compStart_dict (loop _ rfl) (T.self X.A 0 _ _ _ st4 (loop _ rfl))
theorem xt (hi:PI X tg iter wi) (hg:∀ C s₀ H₀ ex pn,PG (cxComp X scope N C s₀ H₀ ex pn) tg g) (ht:∀ C s₀ H₀ ex pn,PF (cxComp X scope N C s₀ H₀ ex pn) ifs tc) (hk:∀ C s₀ H₀ ex pn,PE (cxComp X scope N C s₀ H₀ ex pn) kx tk) (he:∀ C s₀ H₀ ex pn,PE (cxComp X scope N C s₀ H₀ ex pn) vx te) (hgs:Gsets js g)
  (hc:autoParam (X.calm=true) Z2._auto_1) (hx:autoParam (X.xe=(fun _ _=>False)) Z2._auto_1) (hsc:autoParam (scOk X.env scope=true) Z2._auto_1) (hcap:autoParam (capOk X.N scope N js=true) Z2._auto_1) (hkind:autoParam (scope.kind=.function) Z2._auto_1) (hs:autoParam (∀ x,abb iter X.env x=pure x) Z3._auto_1) :
  PE X (.DictComp kx vx [⟨tg,iter,ifs,0⟩] scope pos) (tDC wi g tc tk te js):=by
 intro pins s σ H Q I h
 show wpAny _ X.A (adw (.DictComp kx vx [⟨tg,iter,ifs,0⟩] scope pos) scope X.env _ newDict false (eval iter X.env)) _ _ s
 refine pc (use:=none) hc hx hi hg ht hk he hgs hsc hcap hkind hs I h fun l C H' s' I' q f0 f1 f2 f3 f4 ⟨m,hm⟩=>?_
 refine ⟨m,hm,fun h' sb=>⟨.ref l,H',?_,rfl,q⟩⟩
 exact I'.turned (t':=s'.toks) (it:=C) (fun b o hb e=>sb.extBut b o hb e) f0 f1 (.inr f2) f3 f4
theorem xq {i:Nat} {y:Str} {py spos:Pos} (hN:X.N.Nodup) (hy:X.N[i]?=some y) (hl:X.env.scope.names.lookup y=some .local) (hi:PI X tg iter wi) (hg:∀ C s₀ H₀ ex pn,PG (cxComp X scope N C s₀ H₀ ex pn) tg g) (ht:∀ C s₀ H₀ ex pn,PF (cxComp X scope N C s₀ H₀ ex pn) ifs tc) (hk:∀ C s₀ H₀ ex pn,PE (cxComp X scope N C s₀ H₀ ex pn) kx tk) (he:∀ C s₀ H₀ ex pn,PE (cxComp X scope N C s₀ H₀ ex pn) vx te) (hgs:Gsets js g)
  (hsw:autoParam (acp (.DictComp kx vx [⟨tg,iter,ifs,0⟩] scope pos) (some (.Name y py)) spos.line X.env=pure true) Z2._auto_1)
  (hc:autoParam (X.calm=true) Z2._auto_1) (hx:autoParam (X.xe=(fun _ _=>False)) Z2._auto_1) (hsc:autoParam (scOk X.env scope=true) Z2._auto_1) (hcap:autoParam (capOk X.N scope N js=true) Z2._auto_1) (hkind:autoParam (scope.kind=.function) Z2._auto_1) (hs:autoParam (∀ x,abb iter X.env x=pure x) Z3._auto_1) :
  PS X (.Assign [.Name y py] (.DictComp kx vx [⟨tg,iter,ifs,0⟩] scope pos) spos) (tAsg (tDC wi g tc tk te js) (gName i)):=by
 intro pins s σ H D I h
 rw [exec_Assign_Name_used _ _ _ _ hsw]
 refine aaa (acf (aaa ?_))
 show wpAny _ X.A (do let _ <- adw (.DictComp kx vx [⟨tg,iter,ifs,0⟩] scope pos) scope X.env _ newDict false (eval iter X.env) (some (assign (.Name y py) X.env))) _ _ s
 refine aaa (aaI (pc (use:=some (assign (.Name y py) X.env)) (E:=X.xe) (QQ:=fun _ s'=>SP X pins D .next s') hc hx hi hg ht hk he hgs hsc hcap hkind hs I h fun l C H' s' I' q f0 f1 f2 f3 f4 ⟨m,hm⟩=>?_) (fun _ s' hq=>aag (aag hq)) fun _ _ e=>e)
 show wpAny _ X.A (assign (.Name y py) X.env (.ref l)) _ _ _
 refine aeq (gv I' hN hy (.inl hl) (v:=.ref l) rfl (fun s'' I'' ⟨a,sb,ha⟩=>?_) (.inr hl))
 have haC:C≠a:=by
  rcases ha with rfl | ha
  ·exact f1
  ·exact fun z=>f3 _ _ ha z.symm
 refine ⟨m,hm.sameBut sb haC,fun h' sb'=>⟨_,H',?_,q⟩⟩
 exact I''.turned (t':=s''.toks) (it:=C) (fun b o hb e=>sb'.extBut b o hb e) f0 f1 (.inr f2) f3 f4
end
end L2
namespace L2
open PySem PySem.Spec PyProof.Rows
section
variable {X:Cx}
theorem iH:∀ {bs:List Bool} {us:List Value},Vals (bs.map V.bl) us->LSm.BoolsAre us bs
 | [],_,r=>by cases r; exact .nil
 | b::bs,_,r=>by
  cases r with
  | cons r1 r2=>cases r1; exact .cons b (iH r2)
theorem tH (hc:X.calm=true):CallR X (.builtin "all") (fun xs H Q=>∃ (p:Addr) (bs:List Bool),xs=[.ref p]/\SqL X.K H p (bs.map V.bl)/\Q (.bl (bs.all id)) H):=by
 intro pins s σ H xs us Q I r h
 obtain ⟨p,bs,rfl,hq,q⟩:=h
 obtain ⟨u,rfl,ru⟩:=r.one
 cases ru
 obtain ⟨its,rv,pl,hz⟩:=I.list hq
 have hb:=iH rv
 have hl:=pl.isList
 have hlt:p<s.heap.objs.size:=by obtain ⟨_,e,_⟩:=hl; exact aak e
 refine call_all_walk (adk hl ⟨s.heap.objs.size,[s.heap.objs.size,p],[s.heap.objs.size],its.toArray.size,_,_,fun i=>(bs[i]?).getD true,rfl,
  Walks.list (A:=X.A.in1) (I.ok.hd hc) _ p (aas hlt) its.toArray,⟨⟨_,aai _ rfl,rfl,rfl⟩,hl.push _⟩,fun i v s' Q' E' hP hQ=>?_,fun h' tk hk=>?_⟩)
 ·obtain ⟨b,eb,rfl⟩:=hb.get i v (by simpa using hP)
  simp only [eb,aeP] at hQ
  exact abJ hQ
 ·have eb:((aaM its.toArray.size).all fun i=>(bs[i]?).getD true)=bs.all id:=by
   rw [aaf,hb.length,LSm.range_all bs]
  rw [eb]
  exact ⟨.bl (bs.all id),H,I.kept (LSm.kept_iter hk),rfl,q⟩
end
end L2
namespace L2
open PySem PySem.Spec PyProof.Rows
section
variable {prog:aaq} {w:World} {A:Around} {E:Value->Shared->Prop} {s:Shared}
structure ZipT (h:Heap) (z u o i1 i2 t1 t2:Addr) (n:Nat):Prop where
 zz:IsZip h z u o .none
 uu:IsPair h u (.ref i1) (.ref i2)
 oo:∃ a b,IsPair h o a b
 a1:h.IsTupleIter i1 t1 n
 a2:h.IsTupleIter i2 t2 n
end
end L2
namespace L2
open PySem PySem.Spec PyProof.Rows
section
variable {prog:aaq} {w:World} {A:Around} {E:Value->Shared->Prop} {s:Shared}
end
section
variable {X:Cx} {pins:List (Addr×Obj)} {σ:St} {H:Hp} {s:Shared}
theorem Inv.turnedL {t':Nat} {fp:List Addr} {h':Heap} (I:Inv X pins σ H s) (k:∀ b o,b∉fp->s.heap.get? b=some o->h'.get? b=some o) (hf:∀ b∈fp,FpOk X pins H b):Inv X pins σ H { s with heap:=h',toks:=t' }:=by
 have nit:∀ b u,H b=some u->b∉fp:=fun b u e z=>by rw [(hf b z).1] at e; cases e
 refine I.step (g':=s.gens) (d':=s.drawn) (ch:=fp) (fun b hb=>?_) (fun b o _ _ hc e _=>k b o hc e) (fun b o _ _ hc e _=>⟨o.slots,k b o hc e⟩) (fun _ _ _ _ n=>n)
  (fun b o hc e=>⟨o,k b o hc e⟩) (fun _ _ e=>e) (fun _ _ _ e=>e) (fun b ps e=>⟨#[],by rw [e]; simp⟩) (fun m hm=>?_) (fun b u e=>?_) I.bare
 ·obtain ⟨f0,f1,f2,f3,f4,f5⟩:=hf b hb
  exact ⟨f3,f1,f4,f5⟩
 ·obtain ⟨o,es,ep,ho,r⟩:=hm
  exact ⟨o,es,ep,k _ o (fun z=>(hf _ z).2.1 rfl) ho,r⟩
 ·refine (I.hok b u e).stay (fun c v hc q=>k c v ?_ q) (fun _ q=>q) fun _ _ q=>q
  rcases hc with z | z
  ·rw [z]; exact nit b u e
  ·exact nit c _ z
end
section
variable {X:Cx}
end
end L2
namespace L2
open PySem PySem.Spec PyProof.Rows
section
variable {prog:aaq} {w:World} {A:Around} {E:Value->Shared->Prop} {s:Shared}
theorem iy {t sl:Addr} {its:Array Value} {vl vu:Value} {lo hi:Option Int} {Q:Value->Shared->Prop} (g:IsTup s.heap t its) (hs:s.heap.IsSliceOf sl vl vu .none) (pl:IsPart vl lo) (pu:IsPart vu hi)
  (hw:HT.sIx its.size 0 lo=0/\HT.sIx its.size its.size hi=its.size) (k:Q (.ref t) s):wpAny (model prog w) A (acP (.ref t) (.ref sl)) Q E s:=by
 obtain ⟨q,q1,q2,q3⟩:=id hs
 have ty:s.TypeIs (.ref sl) "slice" := ⟨q,q1,q2⟩
 unfold acP
 try with_reducible refine aaQ ?_
 first | refine aaa (aag ?_) | skip
 refine aaa (adi g.typeIs (by decide) (aaa (ab1 (name:=aaN "__getitem__") g.typeIs abk (aa8 abk g.typeIs ad5 ?_ (aei _ _)))))
 refine aaa (m:=ac7 (.ref t)) (tupleItemsOf_ g (aaa (ac8 ty ?_)))
 rw [if_pos (by decide)]
 refine aaa (HT.sliceApplied_gen hs pl pu ?_)
 show wpAny _ _ (if (((HT.sIx its.size 0 lo:Nat):Int)==0 && (1:Int)==1 && (HT.sIx its.size its.size hi - HT.sIx its.size 0 lo)==its.size)=true then _ else _) _ _ s
 rw [if_pos (by rw [hw.1,hw.2]; simp)]
 refine aaa ?_
 unfold Builtin.Tuple.tupleIsExact
 refine aaa (ac8 g.typeIs (aag ?_))
 rw [if_pos (by decide)]
 exact aaa (adQ (aag ⟨_,rfl,aag k⟩))
end
section
variable {X:Cx}
noncomputable def rSlW (K:aad):V->Option Int->Option Int->Hp->VK->Prop:=fun x lo hi H Q=>∃ a xs,x=.ref a/\SqT K H a xs /\
 (HT.sIx xs.length 0 lo=0/\HT.sIx xs.length xs.length hi=xs.length->Q (.ref a) H)/\∀ p,H p=none->Q (.ref p) (upd H p (.tup (cutV xs lo hi)))
theorem ua:SlR X (rSlW X.K):=by
 intro pins s σ H x v vl vu lo hi sl Q I rx hs pl pu h
 obtain ⟨a,xs,rfl,hx,hq,q⟩:=h
 by_cases hw:HT.sIx xs.length 0 lo=0/\HT.sIx xs.length xs.length hi=xs.length
 ·cases rx
  obtain ⟨its,r,ht,hz⟩:=I.tuple hx
  have hn:its.toArray.size=xs.length:=by rw [aaf]; exact r.length.symm
  refine ⟨"tuple",_,PyProof.Rows.slot_tuple_getitem.lookup,ht.typeIs,iy ht hs pl pu (by rw [hn]; exact hw) ⟨.ref a,H,I,rfl,hq hw⟩⟩
 ·exact vO pins s σ H (.ref a) v vl vu lo hi sl Q I rx hs pl pu ⟨a,xs,rfl,hx,hw,q⟩
end
end L2
namespace L2
open PySem PySem.Spec PyProof.Rows
section
variable {prog:aaq} {w:World} {A:Around} {E:Value->Shared->Prop} {s:Shared}
theorem jD {x:Value} {Q:Value->Shared->Prop} (hc:wpAny (model prog w) A.in1 (collect x) (fun vs s1=>∃ (ss:List Str) (h1:Heap) (tk:Nat),s1={ s with heap:=h1,toks:=tk }/\ab3 vs ss/\vs.length<64 /\
   (∀ (h2:Heap) (out:List Value) (ss':List Str) (n:Nat),(∀ b o,h1.get? b=some o->h2.get? b=some o)->h2.get? h1.objs.size=some (seqObj "list" out.toArray n)->ab3 out ss'->ss'.Perm ss->sortedS ss'=true->Q (.ref h1.objs.size) { s with heap:=h2,toks:=tk })) E s) :
  wpAny (model prog w) A (call (.builtin "sorted") [x]) Q E s:=by
 refine adg aeX aeE aeF (args_sorted1 _) ?_
 unfold acx.«sorted»
 refine aaa (m:=checkCount "sorted" 1 1 _) (aag (aaa (aaI hc (fun vs s1 hv=>?_) fun _ _ e=>e)))
 obtain ⟨ss,h1,tk,rfl,hS,h64,k⟩:=hv
 refine aaa (acA ?_ (by rw [aaA]; omega))
 have at1:(h1.push (seqObj "list" vs.toArray 0)).get? h1.objs.size=some (seqObj "list" vs.toArray 0):=aai _ rfl
 refine aaa (aaQ (aa8 ade ⟨_,at1,rfl⟩ acZ (list_sort_treeK strKind_oneLt at1 hS.keysOf (fun v₁ v₂ rest e=>keyKind_strs (by rw [<- e]; exact hS)) h64 fun st p q=>⟨_,rfl,?_⟩) (adZ _)))
 obtain ⟨ss',b1,b2,b3⟩:=sorted_out_str hS p q
 obtain ⟨n,at2⟩:=sortedHeap_at (out:=(arrOf st).map (·.2)) at1
 refine aag ⟨_,rfl,k _ ((arrOf st).map (·.2)).toList ss' n (fun b o e=>?_) (by rw [adX]; exact at2) b1 b2 b3⟩
 have lt:=aak e
 rw [sortedHeap_old (aas lt) (by rw [size_push']; exact abd lt)]
 exact aac _ e
end
section
variable {X:Cx}
theorem nj {P:aaq} {w:World}:∀ {kvs:List (Key×Value)} {ss:List Str} {vs:List Value},kvs.map (·.1)=ss.map aaG->vs.length=kvs.length->(∀ (j:Nat) (v:Value),vs[j]?=some v->∃ k x,kvs[j]?=some (k,x)/\(aR P w).is k v=true)->ab3 vs ss
 | [],ss,vs,e,hl,_=>by
  have:ss=[]:=by cases ss with | nil=>rfl | cons _ _=>cases e
  subst this
  have:vs=[]:=List.length_eq_zero_iff.mp hl
  subst this
  exact .nil
 | (k,x)::r,ss,vs,e,hl,h=>by
  cases ss with
  | nil=>cases e
  | cons y ys =>
   cases vs with
   | nil=>cases hl
   | cons v us =>
    rw [aao,aao] at e
    injection e with e1 e2
    obtain ⟨k',x',e3,e4⟩:=h 0 v rfl
    have e3':(k,x)=(k',x'):=aar e3
    cases e3'
    have e1':k=aaG y:=e1
    subst e1'
    obtain ⟨t,rfl⟩:=ad6 (x:=y) (v:=v) e4
    exact .cons y t (nj e2 (by simpa using hl) fun j u hj=>h (j+1) u hj)
noncomputable def rSortD:List V->Hp->VK->Prop:=fun xs H Q=>∃ (d:Addr) (kvs:List (Key×V)) (ss:List Str),xs=[.ref d]/\H d=some (.dK kvs)/\kvs.map (·.1)=ss.map aaG/\ss.length<64 /\
 ∀ (l:Addr) (ss':List Str),H l=none->ss'.Perm ss->ss'.Pairwise (fun a b=>¬ ltS b a)->Q (.ref l) (upd H l (.lst (ss'.map V.str)))
theorem pV (hc:X.calm=true):CallR X (.builtin "sorted") rSortD:=by
 intro pins s σ H xs us Q I r h
 obtain ⟨d,kvs,ss,rfl,hd,hk,h64,k⟩:=h
 obtain ⟨u,rfl,ru⟩:=r.one
 cases ru
 obtain ⟨hz,lo,vs,hkv,hD⟩:=I.hok d _ hd
 obtain ⟨ep,hat⟩:=hD.dictAt
 have hkeys:vs.map (·.1)=ss.map aaG:=by rw [<- hk]; exact hkv.keys.symm
 have hlen:vs.length=ss.length:=by have:=congrArg acw hkeys; simpa using this
 refine jD (PySem.W.kdu_collect (A:=X.A.in1) (PySem.W.kdl_dict (knd:=aR X.prog X.w) (kvs:=vs) (ep:=ep) lo) (I.ok.hd hc) hat (by rw [hlen,aaA]; omega) fun h1 tk acc kk hit=>?_)
 have hl:acc.toList.length=vs.length:=by rw [aax]; exact hit.1
 have hS:ab3 acc.toList ss:=nj hkeys hl fun j v e=>hit.2 j v (by rw [<- abi]; exact e)
 refine ⟨ss,h1,tk,rfl,hS,by rw [hl,hlen]; exact h64,fun h2 out ss' n k2 e2 o1 o2 o3=>?_⟩
 have I1:Inv X pins σ H { s with heap:=h1,toks:=tk }:=I.kept kk
 refine ⟨.ref h1.objs.size,_,I1.laid (t':=tk) (a:=h1.objs.size) (o:=.lst (ss'.map V.str)) (fun b o q=>k2 b o q) (aaj _) ?_,rfl,k _ ss' (I1.hok.fresh (aaj _)) o2 (dq o3)⟩
 exact ⟨by rw [aae,o2.length_eq,aaA]; omega,out,n,dt o1,e2⟩
end
noncomputable def setS (P:aaq) (w:World) (a:Addr) (S:Str->Bool) (n:Nat):HO:=.ext fun h=>h.SetOf (PySem.strKind P w) a S n
section
variable {X:Cx}
theorem qH:OpR X (aaS .NotIn) (fun x y H Q=>∃ z a S n,x=.str z/\y=.ref a/\H a=some (setS X.prog X.w a S n)/\Q (.bl (!S z)) H):=by
 intro pins s σ H x y v u Q I rx ry h
 obtain ⟨z,a,S,n,rfl,rfl,ha,q⟩:=h
 obtain ⟨t,rfl⟩:=rx
 cases ry
 obtain ⟨x,_,_⟩:=I.hok a _ ha
 exact wpAny_notInSet_of (knd:=PySem.strKind X.prog X.w) (aet _ _ _ _) rfl x ⟨.bl (!S z),H,I.tok _,rfl,q⟩
end
end L2
namespace L2
open PySem PySem.Spec PyProof.Rows
section
variable {prog:aaq} {w:World} {A:Around} {E:Value->Shared->Prop} {s:Shared}
noncomputable def strAt (us:Array Value) (i:Nat):Str:=match us[i]? with | some (.str x _)=>x | _=>⟨#[]⟩
theorem vy {us:Array Value} (hn:∀ v∈us,∃ x t,v=.str x t):CmpOf prog w A .Lt (fun i v=>us[i]?=some v) (fun i j=>decide (ltS (strAt us i) (strAt us j))):=fun i j vi vj s Q E hi hj q=>by
 obtain ⟨x,t,rfl⟩:=hn vi (acO hi)
 obtain ⟨y,t',rfl⟩:=hn vj (acO hj)
 have e1:strAt us i=x:=by unfold strAt; rw [hi]
 have e2:strAt us j=y:=by unfold strAt; rw [hj]
 dsimp only at q
 rw [e1,e2] at q
 exact PySem.richCompare_gives (op:=.Lt) (adR s x t) (adR s y t') F.slot_str_lt F.entry_str_lt (F.args_str_lt_2 _ _) (gives_str_lt x y t t') (fun e=>nomatch e) q
theorem vz {us:Array Value} (hn:∀ v∈us,∃ x t,v=.str x t):CmpOf prog w A .Gt (fun i v=>us[i]?=some v) (fun i j=>decide (ltS (strAt us j) (strAt us i))):=fun i j vi vj s Q E hi hj q=>by
 obtain ⟨x,t,rfl⟩:=hn vi (acO hi)
 obtain ⟨y,t',rfl⟩:=hn vj (acO hj)
 have e1:strAt us i=x:=by unfold strAt; rw [hi]
 have e2:strAt us j=y:=by unfold strAt; rw [hj]
 dsimp only at q
 rw [e1,e2] at q
 exact PySem.richCompare_gives (op:=.Gt) (adR s x t) (adR s y t') F.slot_str_gt F.entry_str_gt (F.args_str_gt_2 _ _) (gives_str_gt x y t t') (fun e=>nomatch e) q
theorem twoS {x y:Str} {t t':Tok}:∀ v∈(#[.str x t,.str y t']:Array Value),∃ z u,v=.str z u:=fun v hv=>by
 simp only [List.mem_toArray,ab4,abH,or_false] at hv
 rcases hv with rfl | rfl
 ·exact ⟨x,t,rfl⟩
 ·exact ⟨y,t',rfl⟩
theorem sN {x y:Str} {t t':Tok} {Q:Value->Shared->Prop} (hh:A.handled=none) (k:∀ h' tk,(∀ c o,s.heap.get? c=some o->h'.get? c=some o)->Q (if ltS y x then .str y t' else .str x t) { s with heap:=h',toks:=tk }) :
  wpAny (model prog w) A (call (.builtin "min") [.str x t,.str y t']) Q E s:=by
 have g:(s.heap.push { cls:=.type "tuple",data:=.seq #[.str x t,.str y t'] }).IsTuple s.heap.objs.size #[.str x t,.str y t']:=⟨_,aai _ rfl,rfl,0,rfl⟩
 have sz:(s.heap.push { cls:=.type "tuple",data:=.seq #[.str x t,.str y t'] }).objs.size=s.heap.objs.size+1:=abp ..
 refine call_min_two (aea g ⟨_,[_,s.heap.objs.size],[_],_,_,_,_,rfl,Walks.tuple (A:=A.in1) hh _ s.heap.objs.size (by rw [sz]; exact aas (abA _)) #[.str x t,.str y t'],
  ⟨⟨_,aai _ rfl,rfl,rfl⟩,g.push _⟩,fun c hc=>?_,by simp,vy twoS,fun v h' tk hP hk=>?_⟩)
 ·show c<((s.heap.push _).push _).objs.size
  rw [abp,sz]
  simp only [ab4,abH,or_false] at hc
  rcases hc with rfl | rfl
  ·rw [sz]; exact abA _
  ·exact abd (abA _)
 ·have old:∀ c o,s.heap.get? c=some o->h'.get? c=some o:=fun c o e=>by
   refine hk c o (fun z=>?_) (aac _ (aac _ e))
   have lt:=aak e
   rw [List.mem_singleton.mp z,sz] at lt
   exact aa6 _ (Nat.lt_of_succ_lt lt)
  have q:=k h' tk old
  have ev:v=if ltS y x then ab9 y t' else ab9 x t:=by
   by_cases c:ltS y x
   ·simp [argBest,strAt,c] at hP
    rw [if_pos c]; exact hP.symm
   ·simp [argBest,strAt,c] at hP
    rw [if_neg c]; exact hP.symm
  rw [ev]; exact q
theorem sO {x y:Str} {t t':Tok} {Q:Value->Shared->Prop} (hh:A.handled=none) (k:∀ h' tk,(∀ c o,s.heap.get? c=some o->h'.get? c=some o)->Q (if ltS x y then .str y t' else .str x t) { s with heap:=h',toks:=tk }) :
  wpAny (model prog w) A (call (.builtin "max") [.str x t,.str y t']) Q E s:=by
 have g:(s.heap.push { cls:=.type "tuple",data:=.seq #[.str x t,.str y t'] }).IsTuple s.heap.objs.size #[.str x t,.str y t']:=⟨_,aai _ rfl,rfl,0,rfl⟩
 have sz:(s.heap.push { cls:=.type "tuple",data:=.seq #[.str x t,.str y t'] }).objs.size=s.heap.objs.size+1:=abp ..
 refine call_max_two (aea g ⟨_,[_,s.heap.objs.size],[_],_,_,_,_,rfl,Walks.tuple (A:=A.in1) hh _ s.heap.objs.size (by rw [sz]; exact aas (abA _)) #[.str x t,.str y t'],
  ⟨⟨_,aai _ rfl,rfl,rfl⟩,g.push _⟩,fun c hc=>?_,by simp,vz twoS,fun v h' tk hP hk=>?_⟩)
 ·show c<((s.heap.push _).push _).objs.size
  rw [abp,sz]
  simp only [ab4,abH,or_false] at hc
  rcases hc with rfl | rfl
  ·rw [sz]; exact abA _
  ·exact abd (abA _)
 ·have old:∀ c o,s.heap.get? c=some o->h'.get? c=some o:=fun c o e=>by
   refine hk c o (fun z=>?_) (aac _ (aac _ e))
   have lt:=aak e
   rw [List.mem_singleton.mp z,sz] at lt
   exact aa6 _ (Nat.lt_of_succ_lt lt)
  have q:=k h' tk old
  have ev:v=if ltS x y then ab9 y t' else ab9 x t:=by
   by_cases c:ltS x y
   ·simp [argBest,strAt,c] at hP
    rw [if_pos c]; exact hP.symm
   ·simp [argBest,strAt,c] at hP
    rw [if_neg c]; exact hP.symm
  rw [ev]; exact q
end
section
variable {X:Cx}
noncomputable def minS (x y:Str):Str:=if ltS y x then y else x
noncomputable def maxS (x y:Str):Str:=if ltS x y then y else x
theorem pX (hc:X.calm=true):CallR X (.builtin "min") (fun xs H Q=>∃ x y,xs=[.str x,.str y]/\Q (.str (minS x y)) H):=by
 intro pins s σ H xs us Q I r h
 obtain ⟨x,y,rfl,q⟩:=h
 obtain ⟨u,v,rfl,⟨t,rfl⟩,⟨t',rfl⟩⟩:=vals2 r
 refine sN (I.ok.hd hc) fun h' tk k=>⟨.str (minS x y),H,I.kept k,?_,q⟩
 unfold minS
 split <;> exact ⟨_,rfl⟩
theorem pY (hc:X.calm=true):CallR X (.builtin "max") (fun xs H Q=>∃ x y,xs=[.str x,.str y]/\Q (.str (maxS x y)) H):=by
 intro pins s σ H xs us Q I r h
 obtain ⟨x,y,rfl,q⟩:=h
 obtain ⟨u,v,rfl,⟨t,rfl⟩,⟨t',rfl⟩⟩:=vals2 r
 refine sO (I.ok.hd hc) fun h' tk k=>⟨.str (maxS x y),H,I.kept k,?_,q⟩
 unfold maxS
 split <;> exact ⟨_,rfl⟩
end
end L2
namespace L2
open PySem PySem.Spec PyProof.Rows
noncomputable def Its (x:Str):It:=⟨fun i _=>i<x.cps.size,fun i H v H'=>H'=H/\∃ c,x.cps[i]?=some c/\v=.str ⟨#[c]⟩,fun i _=>x.cps.size<=i⟩
theorem fX (x:Str):adu x = "str_ascii_iterator" \/ adu x = "str_iterator" := by
 unfold adu
 split
 ·exact .inl rfl
 ·exact .inr rfl
theorem rT {P:aaq} {w:World} {K:aad} {tg:Expr} (x:Str) (t:Tok) (it:Addr):Turn P w K tg (Its x) [it] it (fun i h=>h.IsStrIter it (adu x) x t i) where
 mem:=by simp
 obj:=fun i h st b hb=>by
  have e:b=it:=by simpa using hb
  subst e
  obtain ⟨o,e,c,d⟩:=st
  exact ⟨o,e,fun v z=>by rw [d] at z; cases z⟩
 keep:=fun i h h' st k=>by
  obtain ⟨o,e,r⟩:=st
  exact ⟨o,k it (by simp) o e,r⟩
 item:=by
  intro X hP hw hK hc i pins s σ H E I hf st hg
  subst hP hw hK
  have hg':i<x.cps.size:=hg
  have hx:x.cps[i]?=some x.cps[i]:=by simp [hg']
  obtain ⟨f0,f1,f2,f3,f4,f5⟩:=hf it (by simp)
  have fin:∀ h',h'.IsStrIter it (adu x) x t (i+1)->ace it s.heap h'->∃ u,some (ab9 ⟨#[x.cps[i]]⟩ s.toks)=some u /\
    wpAny (model X.prog X.w) X.A (adI tg (.ref it) u) (fun _ s2=>∃ y H',Inv X pins σ H' s2/\RelV y u/\(Its x).yld i H y H'/\s2.heap.IsStrIter it (adu x) x t (i+1)/\∀ b∈[it],H' b=none) E { s with heap:=h',toks:=s.toks+1 }:=fun h' st' sb=>by
   have I1:Inv X pins σ H { s with heap:=h',toks:=s.toks+1 }:=I.turned (fun b o hb e=>(sb.2 b hb).trans e) f0 f1 f3 f4 f5
   obtain ⟨o,e,c,d⟩:=id st'
   refine ⟨_,rfl,mw (s:={ s with heap:=h',toks:=s.toks+1 }) e c d (by rcases fX x with z | z <;> rw [z] <;> decide) ⟨.str ⟨#[x.cps[i]]⟩,H,I1,⟨_,rfl⟩,⟨rfl,_,hx,rfl⟩,st',fun b hb=>(hf b hb).1⟩⟩
  rcases fX x with z | z
  ·rw [z] at st fin
   exact wpAny_pyNext_ascii_item st hx fun h' st' sb=>by have:=fin h' st' sb; rw [z]; exact this
  ·rw [z] at st fin
   exact wpAny_pyNext_wide_item st hx fun h' st' sb=>by have:=fin h' st' sb; rw [z]; exact this
 done:=by
  intro X hP hw hK hc i pins s σ H E I hf st hg
  subst hP hw hK
  have hg':x.cps.size<=i:=hg
  have hx:x.cps[i]?=none:=by simp [hg']
  obtain ⟨f0,f1,f2,f3,f4,f5⟩:=hf it (by simp)
  rcases fX x with z | z
  ·rw [z] at st
   exact wpAny_pyNext_ascii_end (I.ok.hd hc) st hx fun h' eb=>⟨rfl,I.turned (t':=s.toks) (fun b o hb e=>eb b o hb e) f0 f1 f3 f4 f5⟩
  ·rw [z] at st
   exact wpAny_pyNext_wide_end (I.ok.hd hc) st hx fun h' eb=>⟨rfl,I.turned (t':=s.toks) (fun b o hb e=>eb b o hb e) f0 f1 f3 f4 f5⟩
 self:=fun A i s Q E st h=>by
  obtain ⟨o,e,c,d⟩:=st
  rcases fX x with z | z
  ·rw [z] at c
   exact adj (T := "str_ascii_iterator") ⟨o,e,c⟩ aeL (aa8 aeL ⟨o,e,c⟩ F.entry_str_ascii_iterator_iter (aag ⟨_,rfl, "str_ascii_iterator",_,⟨o,e,c⟩,F.slot_str_ascii_iterator_next.lookup,h⟩) (F.args_str_ascii_iterator_iter_1 _))
  ·rw [z] at c
   exact adj (T := "str_iterator") ⟨o,e,c⟩ F.slot_str_iterator_iter (aa8 F.slot_str_iterator_iter ⟨o,e,c⟩ F.entry_str_iterator_iter (aag ⟨_,rfl, "str_iterator",_,⟨o,e,c⟩,F.slot_str_iterator_next.lookup,h⟩) (F.args_str_iterator_iter_1 _))
section
variable {X:Cx} {tg:Expr}
noncomputable def iStr (tl:TE):TI:=fun σ H R=>tl σ H fun x H1=>∃ z,x=.str z/\R (Its z) H1
theorem vX {l:Expr} {tl:TE} (hl:PE X l tl):PI X tg l (iStr tl):=by
 intro pins s σ H R I h
 refine thn (hl pins s σ H _ I h) fun v s1 ⟨x,H1,I1,r1,q1⟩=>?_
 obtain ⟨z,rfl,q⟩:=q1
 obtain ⟨t,rfl⟩:=r1
 refine wpAny_pyIter_strU ⟨s1.heap.objs.size,[s1.heap.objs.size],_,_,H1,rfl,I1.kept (t':=s1.toks) fun b o e=>aac _ e,rT z t _,⟨_,aai _ rfl,rfl,rfl⟩,fun b hb=>?_,q⟩
 have e:b=s1.heap.objs.size:=by simpa using hb
 subst e
 exact I1.fpOk (aaj _) (I1.hok.fresh (aaj _))
theorem qJ:OpR X (aaS .LtE) (fun x y H Q=>∃ i j,x=.str i/\y=.str j/\Q (.bl (!decide (j.cps.toList<i.cps.toList))) H):=by
 intro pins s σ H x y v u Q I rx ry h
 obtain ⟨i,j,rfl,rfl,q⟩:=h
 obtain ⟨t,rfl⟩:=rx
 obtain ⟨t',rfl⟩:=ry
 exact PySem.P.le_str ⟨.bl _,H,I,rfl,q⟩
end
end L2
namespace L2
open PySem PySem.Spec PyProof.Rows
section
variable {X:Cx}
noncomputable def rCatW (K:aad):R2:=fun x y H Q=>∃ a b xs ys,x=.ref a/\y=.ref b/\SqT K H a xs/\SqT K H b ys/\xs.length+ys.length<=sizeLine /\
 (xs=[]->Q (.ref b) H)/\(ys=[]->Q (.ref a) H)/\∀ p,H p=none->Q (.ref p) (upd H p (.tup (xs++ys)))
theorem uB:OpR X (ab2 .Add) (rCatW X.K):=by
 intro pins s σ H x y v u Q I rx ry h
 obtain ⟨a,b,xs,ys,rfl,rfl,ha,hb,hz,q0,q1,q2⟩:=h
 by_cases hx:xs=[]
 ·cases rx
  cases ry
  obtain ⟨its,r1,p1,_⟩:=I.tuple ha
  obtain ⟨its2,r2,p2,_⟩:=I.tuple hb
  subst hx
  cases r1
  obtain ⟨⟨c1,d1,e1,l1⟩,g1,g2,n,g3⟩:=id p1
  obtain ⟨⟨c2,d2,e2,l2⟩,k1,k2,n2,k3⟩:=id p2
  simp only at g2 g3 k2 k3
  subst g2 g3 k2 k3
  exact concat_meets ⟨_,g1,rfl⟩ ⟨_,k1,rfl⟩ aeN seq_tuple_add adC ady (adn _ _)
   (tuple_addW0 a b _ _ n n2 d1 d2 l1 l2 (by simp)) ⟨g1,k1,⟨.ref b,H,I,rfl,q0 rfl⟩⟩
 ·exact uC pins s σ H (.ref a) (.ref b) v u Q I rx ry ⟨a,b,xs,ys,rfl,rfl,ha,hb,hx,hz,q1,fun _=>q2⟩
end
end L2
namespace L2
open PySem PySem.Spec PyProof.Rows
section
variable {prog:aaq} {w:World} {A:Around} {E:Value->Shared->Prop} {s:Shared}
theorem ls {α:Type}:∀ (xs:List α),(aaM xs.length).filterMap (fun (k:Nat)=>xs[(((xs.length:Int) - 1)+(k:Int) * -1).toNat]?)=xs.reverse:=by
 intro xs
 have key:∀ n,n<=xs.length->(aaM n).filterMap (fun (k:Nat)=>xs[(((xs.length:Int) - 1)+(k:Int) * -1).toNat]?)=(xs.drop (xs.length - n)).reverse:=fun n=>by
  induction n with
  | zero=>intro _; simp
  | succ n ih =>
   intro hn
   rw [adL,List.filterMap_append,ih (by omega)]
   have e:(((xs.length:Int) - 1)+(n:Int) * -1).toNat=xs.length - (n+1):=by omega
   have hlt:xs.length - (n+1)<xs.length:=by omega
   simp only [aaY,List.filterMap_nil,e,aab hlt]
   have d:xs.drop (xs.length - (n+1))=xs[xs.length - (n+1)]::xs.drop (xs.length - n):=by
    rw [abQ hlt]
    congr 2
    omega
   rw [d,abV]
 have:=key xs.length (aaj _)
 rw [this,Nat.sub_self,afj]
theorem pH (n:Nat):abq ((n:Int) - 1) (-1) (-1)=n:=by
 unfold abq
 have h1:¬ ((-1:Int) > 0):=by omega
 rw [if_neg h1]
 by_cases h:((n:Int) - 1) > -1
 ·rw [if_pos h]
  have:((n:Int) - 1 - -1 - 1) / (- -1)+1=(n:Int):=by
   rw [show (- (-1:Int))=1 by rfl,Int.ediv_one]; omega
  rw [this]; omega
 ·rw [if_neg h]; omega
theorem iu {t sl:Addr} {its:List Value} {tk:Tok} {Q:Value->Shared->Prop} (g:IsTup s.heap t its.toArray) (hs:s.heap.IsSliceOf sl .none .none (.int (-1) tk))
  (k:Q (.ref s.heap.objs.size) { s with heap:=s.heap.push { cls:=.type "tuple",data:=.seq its.reverse.toArray } }) (hsz:its.length<=sizeLine):wpAny (model prog w) A (acP (.ref t) (.ref sl)) Q E s:=by
 obtain ⟨q,q1,q2,q3⟩:=id hs
 have ty:s.TypeIs (.ref sl) "slice" := ⟨q,q1,q2⟩
 unfold acP
 try with_reducible refine aaQ ?_
 first | refine aaa (aag ?_) | skip
 refine aaa (adi g.typeIs (by decide) (aaa (ab1 (name:=aaN "__getitem__") g.typeIs abk (aa8 abk g.typeIs ad5 ?_ (aei _ _)))))
 refine aaa (m:=ac7 (.ref t)) (tupleItemsOf_ g (aaa (ac8 ty ?_)))
 rw [if_pos (by decide)]
 refine aaa (m:=acn (.ref sl) (pure (its.toArray.size:Int))) ?_
 unfold acn afk
 refine aaa (aaa (ads q1 q3 (x:=.none) rfl (aaa (ads q1 q3 (x:=.none) rfl (aaa (ads q1 q3 (x:=.int (-1) tk) rfl (aag ?_)))))))
 refine aaa (HT.slicePart_ (.int (-1) tk) ?_)
 show wpAny _ _ (if ((-1:Int)==0)=true then _ else _) _ _ s
 rw [if_neg (by decide)]
 refine aaa (HT.slicePart_ .none (aaa (HT.slicePart_ .none (aaa (aag ?_)))))
 show wpAny _ _ (pure (((its.toArray.size:Int) - 1),(-1:Int),abq ((its.toArray.size:Int) - 1) (-1) (-1))) _ _ s
 rw [pH]
 refine aag ?_
 show wpAny _ _ (if (((its.toArray.size:Int) - 1)==0 && (-1:Int)==1 && its.toArray.size==its.toArray.size)=true then _ else _) _ _ s
 rw [if_neg (by simp)]
 have e:(aaM its.toArray.size).filterMap (fun (k:Nat)=>its.toArray[(((its.toArray.size:Int) - 1)+(k:Int) * -1).toNat]?)=its.reverse:=by
  have:=ls its
  simpa using this
 show wpAny _ _ (do let r <- abF ((aaM its.toArray.size).filterMap (fun (k:Nat)=>its.toArray[(((its.toArray.size:Int) - 1)+(k:Int) * -1).toNat]?)).toArray; ret r) _ _ s
 rw [e]
 exact aaa (m:=abF _) (aa3 (aag ⟨_,rfl,aag k⟩) (by show its.reverse.toArray.size<=sizeLine; simpa using hsz))
end
section
variable {X:Cx} {e st:Expr} {te tst:TE} {pos p2:Pos}
noncomputable def tRev (K:aad) (te tst:TE):TE:=fun σ H Q=>te σ H fun x H1=>tst σ H1 fun y H2=>y=.int (-1)/\∃ a xs,x=.ref a/\SqT K H2 a xs/\∀ p,H2 p=none->Q (.ref p) (upd H2 p (.tup xs.reverse))
theorem wf (he:PE X e te) (hst:PE X st tst):PE X (.Subscript e (.Slice none none (some st) p2) pos) (tRev X.K te tst):=by
 intro pins s σ H Q I h
 refine adT (thn (he pins s σ H _ I h) fun v s1 ⟨x,H1,I1,r1,q1⟩=>?_)
 refine wpAny_Slice ?_
 rw [aef,evalPart_some]
 refine aag (aag (thn (hst pins s1 σ H1 _ I1 q1) fun vs s2 ⟨y,H2,I2,r2,q2⟩=>?_))
 obtain ⟨rfl,a,xs,rfl,hx,q⟩:=q2
 obtain ⟨tk,rfl⟩:=r2
 cases r1
 have I3:Inv X pins σ H2 { s2 with heap:=s2.heap.push { cls:=.type "slice",data:=.fields #[.none,.none,.int (-1) tk] } }:=I2.kept (t':=s2.toks) fun b ob q=>aac _ q
 obtain ⟨its,r,ht,hz⟩:=I3.tuple hx
 show wpAny (model X.prog X.w) X.A (adt e (.Slice none none (some st) p2) (.ref a) (.ref s2.heap.objs.size)) (EP X pins σ Q) X.xe { s2 with heap:=s2.heap.push { cls:=.type "slice",data:=.fields #[.none,.none,.int (-1) tk] } }
 refine aeS (ops:=[.ref a,.ref s2.heap.objs.size]) ht.typeIs PyProof.Rows.slot_tuple_getitem.lookup (iu ht (aeo ..) ?_ (by rw [<- r.length]; exact hz)) (by with_unfolding_all rfl)
 refine ⟨.ref _,_,I3.laid (t':=s2.toks) (o:=.tup xs.reverse) (fun b ob q=>aac _ q) (aaj _) ?_,rfl,q _ (I3.hok.fresh (aaj _))⟩
 refine ⟨by rw [ad7]; exact hz,its.reverse,?_,afa _ _⟩
 exact r.reverse
end
end L2
namespace L2
open PySem PySem.Spec PyProof.Rows
section
variable {prog:aaq} {w:World} {A:Around} {E:Value->Shared->Prop}
end
section
variable {X:Cx} {pos:Pos}
end
end L2
namespace L2
open PySem PySem.Spec PyProof.Rows
end L2
namespace PySem
open Sem (wp)
end PySem
namespace PySem
open PySem.Spec PyProof.Rows
section
variable {prog:aaq} {w:World} {K:Type} [DecidableEq K] {knd:KeyKind prog w K} {A:Around} {R:Result->Shared->Prop}
end
section
variable {prog:aaq} {w:World} {K:Type} [DecidableEq K] {knd:KeyKind prog w K} {A:Around} {E:Value->Shared->Prop} {s:Shared}
end
end PySem
namespace L2
open PySem PySem.Spec PyProof.Rows
section
variable {X:Cx}
end
end L2
namespace Q
open PySem L2
inductive PV where
 | non | bl (b:Bool) | int (i:Int) | str (x:Str) | tup (xs:List PV) | lst (xs:List PV) | dic (kvs:List (Key×PV)) | set (xs:List Str) | scr (ns:List Int)
noncomputable def ScrAt (K:aad) (F:Hp) (a:Addr) (ns:List Int):Prop:=(∃ o,F a=some (.frz o (.lst (ns.map V.int)))) \/
 ∃ (o:Obj) (its:Array Value) (n:Nat),K.lookup a=some o/\o.cls=.type "list" /\ o.dict=none/\o.data=.seq its n/\its.size<=sizeLine/\Vals (ns.map V.int) its.toList
mutual
inductive Rep (K:aad) (F:Hp):V->PV->Prop where
 | non:Rep K F .non .non
 | bl (b:Bool):Rep K F (.bl b) (.bl b)
 | int (i:Int):Rep K F (.int i) (.int i)
 | str (x:Str):Rep K F (.str x) (.str x)
 | tup {a:Addr} {vs:List V} {xs:List PV}:SqT K F a vs->Reps K F vs xs->Rep K F (.ref a) (.tup xs)
 | lst {a:Addr} {vs:List V} {xs:List PV}:F a=some (.lst vs)->Reps K F vs xs->Rep K F (.ref a) (.lst xs)
 | dic {a:Addr} {vs:List (Key×V)} {xs:List (Key×PV)}:F a=some (.dK vs)->RepsK K F vs xs->Rep K F (.ref a) (.dic xs)
 | scr {a:Addr} {ns:List Int}:ScrAt K F a ns->Rep K F (.ref a) (.scr ns)
inductive Reps (K:aad) (F:Hp):List V->List PV->Prop where
 | nil:Reps K F [] []
 | cons {v:V} {x:PV} {vs:List V} {xs:List PV}:Rep K F v x->Reps K F vs xs->Reps K F (v::vs) (x::xs)
inductive RepsK (K:aad) (F:Hp):List (Key×V)->List (Key×PV)->Prop where
 | nil:RepsK K F [] []
 | cons {k:Key} {v:V} {x:PV} {vs:List (Key×V)} {xs:List (Key×PV)}:Rep K F v x->RepsK K F vs xs->RepsK K F ((k,v)::vs) ((k,x)::xs)
end
section
variable {K:aad} {F F' H:Hp}
theorem dL {a:Addr} {xs:List V} (s:Same F F') (h:SqL K F a xs):SqL K F' a xs:=by
 rcases h with (h | ⟨o,h⟩) | h
 ·exact .inl (.inl (s _ _ h))
 ·exact .inl (.inr ⟨o,s _ _ h⟩)
 ·exact .inr h
theorem aA {a:Addr} {xs:List V} (s:Same F F') (h:SqT K F a xs):SqT K F' a xs:=by
 rcases h with (h | ⟨o,h⟩) | h
 ·exact .inl (.inl (s _ _ h))
 ·exact .inl (.inr ⟨o,s _ _ h⟩)
 ·exact .inr h
theorem iP {a:Addr} {ns:List Int} (s:Same F F') (h:ScrAt K F a ns):ScrAt K F' a ns:=by
 rcases h with ⟨o,h⟩ | h
 ·exact .inl ⟨o,s _ _ h⟩
 ·exact .inr h
theorem ScrAt.sq {a:Addr} {ns:List Int} (h:ScrAt K F a ns):SqL K F a (ns.map V.int):=by
 rcases h with ⟨o,h⟩ | h
 ·exact .inl (.inr ⟨o,h⟩)
 ·exact .inr h
theorem Rep.mono {v:V} {x:PV} (s:Same F F') (h:Rep K F v x):Rep K F' v x :=
 Rep.rec (K:=K) (F:=F) (motive_1:=fun v x _=>Rep K F' v x) (motive_2:=fun vs xs _=>Reps K F' vs xs) (motive_3:=fun vs xs _=>RepsK K F' vs xs)
  .non .bl .int .str (fun a _ b=>.tup (aA s a) b) (fun a _ b=>.lst (s _ _ a) b) (fun a _ b=>.dic (s _ _ a) b) (fun a=>.scr (iP s a)) .nil (fun _ _ a b=>.cons a b) .nil (fun _ _ a b=>.cons a b) h
theorem Reps.mono {vs:List V} {xs:List PV} (s:Same F F') (h:Reps K F vs xs):Reps K F' vs xs :=
 Reps.rec (K:=K) (F:=F) (motive_1:=fun v x _=>Rep K F' v x) (motive_2:=fun vs xs _=>Reps K F' vs xs) (motive_3:=fun vs xs _=>RepsK K F' vs xs)
  .non .bl .int .str (fun a _ b=>.tup (aA s a) b) (fun a _ b=>.lst (s _ _ a) b) (fun a _ b=>.dic (s _ _ a) b) (fun a=>.scr (iP s a)) .nil (fun _ _ a b=>.cons a b) .nil (fun _ _ a b=>.cons a b) h
theorem RepsK.mono {vs:List (Key×V)} {xs:List (Key×PV)} (s:Same F F') (h:RepsK K F vs xs):RepsK K F' vs xs :=
 RepsK.rec (K:=K) (F:=F) (motive_1:=fun v x _=>Rep K F' v x) (motive_2:=fun vs xs _=>Reps K F' vs xs) (motive_3:=fun vs xs _=>RepsK K F' vs xs)
  .non .bl .int .str (fun a _ b=>.tup (aA s a) b) (fun a _ b=>.lst (s _ _ a) b) (fun a _ b=>.dic (s _ _ a) b) (fun a=>.scr (iP s a)) .nil (fun _ _ a b=>.cons a b) .nil (fun _ _ a b=>.cons a b) h
theorem Reps.ind {motive:∀ vs xs,Reps K F vs xs->Prop} {vs:List V} {xs:List PV} (h:Reps K F vs xs) (nil:motive [] [] .nil) (cons:∀ {v x vs xs} (a:Rep K F v x) (r:Reps K F vs xs),motive vs xs r->motive (v::vs) (x::xs) (.cons a r)):motive vs xs h :=
 Reps.rec (K:=K) (F:=F) (motive_1:=fun _ _ _=>True) (motive_2:=motive) (motive_3:=fun _ _ _=>True)
  trivial (fun _=>trivial) (fun _=>trivial) (fun _=>trivial) (fun _ _ _=>trivial) (fun _ _ _=>trivial) (fun _ _ _=>trivial) (fun _=>trivial) nil (fun a r _ b=>cons a r b) trivial (fun _ _ _ _=>trivial) h
theorem RepsK.ind {motive:∀ vs xs,RepsK K F vs xs->Prop} {vs:List (Key×V)} {xs:List (Key×PV)} (h:RepsK K F vs xs) (nil:motive [] [] .nil) (cons:∀ {k v x vs xs} (a:Rep K F v x) (r:RepsK K F vs xs),motive vs xs r->motive ((k,v)::vs) ((k,x)::xs) (.cons a r)):motive vs xs h :=
 RepsK.rec (K:=K) (F:=F) (motive_1:=fun _ _ _=>True) (motive_2:=fun _ _ _=>True) (motive_3:=motive)
  trivial (fun _=>trivial) (fun _=>trivial) (fun _=>trivial) (fun _ _ _=>trivial) (fun _ _ _=>trivial) (fun _ _ _=>trivial) (fun _=>trivial) trivial (fun _ _ _ _=>trivial) nil (fun a r _ b=>cons a r b) h
theorem Reps.len {vs:List V} {xs:List PV} (h:Reps K F vs xs):vs.length=xs.length:=by
 induction h using Reps.ind with
 | nil=>rfl
 | cons _ _ ih=>exact congrArg (·+1) ih
theorem Reps.get {vs:List V} {xs:List PV} {i:Nat} {x:PV} (h:Reps K F vs xs) (e:xs[i]?=some x):∃ v,vs[i]?=some v/\Rep K F v x:=by
 induction h using Reps.ind generalizing i with
 | nil=>cases e
 | cons a _ ih=>cases i with
  | zero=>cases e; exact ⟨_,rfl,a⟩
  | succ i=>exact ih e
theorem Reps.getV {vs:List V} {xs:List PV} {i:Nat} {v:V} (h:Reps K F vs xs) (e:vs[i]?=some v):∃ x,xs[i]?=some x/\Rep K F v x:=by
 induction h using Reps.ind generalizing i with
 | nil=>cases e
 | cons a _ ih=>cases i with
  | zero=>cases e; exact ⟨_,rfl,a⟩
  | succ i=>exact ih e
theorem Reps.app {vs ws:List V} {xs ys:List PV} (h:Reps K F vs xs) (k:Reps K F ws ys):Reps K F (vs++ws) (xs++ys):=by
 induction h using Reps.ind with
 | nil=>exact k
 | cons a _ ih=>exact .cons a ih
theorem Reps.take {vs:List V} {xs:List PV} (n:Nat) (h:Reps K F vs xs):Reps K F (vs.take n) (xs.take n):=by
 induction h using Reps.ind generalizing n with
 | nil=>cases n <;> exact .nil
 | cons a _ ih=>cases n with
  | zero=>exact .nil
  | succ n=>exact .cons a (ih n)
theorem Reps.drop {vs:List V} {xs:List PV} (n:Nat) (h:Reps K F vs xs):Reps K F (vs.drop n) (xs.drop n):=by
 induction h using Reps.ind generalizing n with
 | nil=>cases n <;> exact .nil
 | cons a r ih=>cases n with
  | zero=>exact .cons a r
  | succ n=>exact ih n
theorem Reps.rev {vs:List V} {xs:List PV} (h:Reps K F vs xs):Reps K F vs.reverse xs.reverse:=by
 induction h using Reps.ind with
 | nil=>exact .nil
 | cons a _ ih =>
  rw [abV,abV]
  exact ih.app (.cons a .nil)
theorem RepsK.len {vs:List (Key×V)} {xs:List (Key×PV)} (h:RepsK K F vs xs):vs.length=xs.length:=by
 induction h using RepsK.ind with
 | nil=>rfl
 | cons _ _ ih=>exact congrArg (·+1) ih
theorem RepsK.keys {vs:List (Key×V)} {xs:List (Key×PV)} (h:RepsK K F vs xs):vs.map (·.1)=xs.map (·.1):=by
 induction h using RepsK.ind with
 | nil=>rfl
 | cons _ _ ih=>exact congrArg (List.cons _) ih
end
structure Sl where
 k:Nat
 v:PV
noncomputable abbrev En:=List (Option Sl)
structure ObK where
 P:Hp->Hp->Addr->List Addr->PV->Prop
 mono:∀ F F' H H' a l x,P F H a l x->Same F F'->(∀ c∈l,H' c=H c)->P F' H' a l x
structure Md where
 P:aaq
 w:World
 K:aad
 ob:ObK
structure Zn where
 H₀:Hp
 F₀:Hp
 S:List Addr
 oa:Nat->Option Addr:=fun _=>none
 sS:∀ b∈S,H₀ b≠none
noncomputable def OwnAt (M:Md) (F H:Hp) (a:Addr):PV->Prop
 | .lst xs=>∃ vs,H a=some (.lst vs)/\Reps M.K F vs xs
 | .dic xs=>∃ vs,H a=some (.dK vs)/\RepsK M.K F vs xs
 | .set xs=>H a=some (setS M.P M.w a (fun s=>decide (s∈xs)) xs.length)
 | _=>False
theorem OwnAt.mono {M:Md} {F F' H H':Hp} {a:Addr} {x:PV} (s:Same F F') (e:H' a=H a) (h:OwnAt M F H a x):OwnAt M F' H' a x:=by
 cases x <;> try exact h.elim
 ·obtain ⟨vs,h1,h2⟩:=h
  exact ⟨vs,e.trans h1,h2.mono s⟩
 ·obtain ⟨vs,h1,h2⟩:=h
  exact ⟨vs,e.trans h1,h2.mono s⟩
 ·exact e.trans h
noncomputable def SlOk (M:Md) (Z:Zn) (F H:Hp) (v:V) (s:Sl) (fp:List Addr):Prop :=
 (s.k=0/\fp=[]/\Rep M.K F v s.v)\/(s.k=1/\∃ a,v=.ref a/\fp=[a]/\Z.H₀ a=none/\OwnAt M F H a s.v) \/
 ((s.k=2\/s.k=4)/\∃ a,v=.ref a/\(∀ c∈fp,c∈Z.S\/Z.H₀ c=none)/\M.ob.P F H a fp s.v) \/
 (s.k=3/\∃ a,v=.ref a/\fp=[a]/\a∈Z.S/\OwnAt M F H a s.v)
structure Slots (M:Md) (Z:Zn) (F:Hp) (σ:St) (H:Hp) (env:En) (fp:Nat->List Addr):Prop where
 at':∀ i s,env[i]?=some (some s)->∃ v,σ[i]?=some (some v)/\SlOk M Z F H v s (fp i)
 al:∀ i a,a∈fp i->H a≠none/\F a=none
 dj:∀ i j a,i≠j->a∈fp i->a∉fp j
 oa:∀ i a s,Z.oa i=some a->env[i]?=some (some s)->s.k=2->σ[i]?=some (some (.ref a))
structure Sok (M:Md) (Z:Zn) (F:Hp) (σ:St) (H:Hp) (env:En):Prop where
 sF:Same F H
 sG:∀ b o,Z.H₀ b=some o->b∉Z.S->H b=some o
 pr:∀ b,Z.H₀ b≠none->H b≠none
 gr:Same Z.F₀ F
 nw:∀ a,F a≠none->Z.F₀ a≠none\/Z.H₀ a=none
 len:env.length=σ.length
 sl:∃ fp,Slots M Z F σ H env fp
section
variable {M:Md} {Z:Zn} {F F' H H':Hp} {σ:St} {env:En} {v:V} {s:Sl} {fp:List Addr}
theorem SlOk.mono (s1:Same F F') (e:∀ c∈fp,H' c=H c) (h:SlOk M Z F H v s fp):SlOk M Z F' H' v s fp:=by
 rcases h with ⟨a,b,c⟩ | ⟨a,p,rfl,rfl,c,d⟩ | ⟨a,p,rfl,c,d⟩ | ⟨a,p,rfl,rfl,c,d⟩
 ·exact .inl ⟨a,b,c.mono s1⟩
 ·exact .inr (.inl ⟨a,p,rfl,rfl,c,d.mono s1 (e p (by simp))⟩)
 ·exact .inr (.inr (.inl ⟨a,p,rfl,c,M.ob.mono _ _ _ _ _ _ _ d s1 e⟩))
 ·exact .inr (.inr (.inr ⟨a,p,rfl,rfl,c,d.mono s1 (e p (by simp))⟩))
theorem am {H:Hp}:Same H H:=fun _ _ h=>h
theorem ai {A B C:Hp} (x:Same A B) (y:Same B C):Same A C:=fun a o h=>y a o (x a o h)
theorem az {F:Hp} {p:Addr} {o:HO} (h:F p=none):Same F (upd F p o):=fun a u e=>by rw [ak (ax e h)]; exact e
theorem Same.none_of {A B:Hp} (s:Same A B) {a:Addr} (h:B a=none):A a=none:=by
 cases e:A a with
 | none=>rfl
 | some o=>rw [s a o e] at h; cases h
theorem Slots.move {fp:Nat->List Addr} (L:Slots M Z F σ H env fp) (s1:Same F F') (s3:∀ i c o,c∈fp i->H c=some o->H' c=some o) (nw:∀ a,F' a≠none->F a≠none\/H a=none):Slots M Z F' σ H' env fp:=by
 refine ⟨fun i s h=>?_,fun i a h=>?_,L.dj,L.oa⟩
 ·obtain ⟨v,h1,h2⟩:=L.at' i s h
  refine ⟨v,h1,h2.mono s1 fun c hc=>?_⟩
  cases e:H c with
  | none=>exact absurd e (L.al i c hc).1
  | some o=>exact s3 i c o hc e
 ·obtain ⟨h1,h2⟩:=L.al i a h
  constructor
  ·cases e:H a with
   | none=>exact absurd e h1
   | some o=>rw [s3 i a o h e]; simp
  ·cases e:F' a with
   | none=>rfl
   | some o =>
    rcases nw a (by rw [e]; simp) with z | z
    ·exact absurd h2 z
    ·exact absurd z h1
theorem Slots.put {fp:Nat->List Addr} {i:Nat} {l:List Addr} (L:Slots M Z F σ H env fp) (hk:s.k≠2) (hi:i<σ.length) (h:SlOk M Z F H v s l) (al:∀ a∈l,H a≠none/\F a=none) (dj:∀ j a,j≠i->a∈l->a∉fp j) :
  Slots M Z F (σ.set i (some v)) H (env.set i (some s)) (fun j=>if j=i then l else fp j):=by
 refine ⟨fun j t e=>?_,fun j a e=>?_,fun j k a hjk e z=>?_,fun j a t e1 e2 e3=>?_⟩
 case refine_4 =>
  by_cases q:j=i
  ·subst q
   rw [abB] at e2
   simp only [if_true] at e2
   split at e2
   ·cases e2; exact absurd e3 hk
   ·cases e2
  ·rw [aap (abr q)] at e2
   rw [aap (abr q)]
   exact L.oa j a t e1 e2 e3
 ·by_cases q:j=i
  ·subst q
   rw [abB] at e
   simp only [if_true] at e
   split at e
   ·first | (exfalso; revert e; simp; done) | cases e
    exact ⟨v,by simp [hi],by rw [if_pos rfl]; exact h⟩
   ·first | (exfalso; revert e; simp; done) | cases e
  ·rw [aap (abr q)] at e
   rw [aap (abr q),if_neg q]
   exact L.at' j t e
 ·by_cases q:j=i
  ·rw [if_pos q] at e; exact al a e
  ·rw [if_neg q] at e; exact L.al j a e
 ·by_cases q:j=i
  ·rw [if_pos q] at e
   rw [if_neg (fun y=>hjk (q.trans y.symm))] at z
   exact dj k a (fun y=>hjk (q.trans y.symm)) e z
  ·rw [if_neg q] at e
   by_cases q2:k=i
   ·rw [if_pos q2] at z
    exact dj j a q z e
   ·rw [if_neg q2] at z
    exact L.dj j k a hjk e z
theorem Slots.push {fp:Nat->List Addr} {l:List Addr} (L:Slots M Z F σ H env fp) (hk:s.k≠2) (hn:env.length=σ.length) (h:SlOk M Z F H v s l) (al:∀ a∈l,H a≠none/\F a=none) (dj:∀ j a,a∈l->a∉fp j) :
  Slots M Z F (σ++[some v]) H (env++[some s]) (fun j=>if j=env.length then l else fp j):=by
 refine ⟨fun j t e=>?_,fun j a e=>?_,fun j k a hjk e z=>?_,fun j a t e1 e2 e3=>?_⟩
 case refine_4 =>
  by_cases q:j=env.length
  ·subst q
   simp at e2
   subst e2
   exact absurd e3 hk
  ·have hj:j<env.length:=by
    have:j<(env++[some s]).length:=by
     rcases aaO j (env++[some s]).length with y | y
     ·exact y
     ·rw [aam y] at e2; cases e2
    simp at this; omega
   rw [aaw hj] at e2
   rw [aaw (by omega)]
   exact L.oa j a t e1 e2 e3
 ·by_cases q:j=env.length
  ·subst q
   simp at e
   subst e
   exact ⟨v,by rw [hn]; simp,by rw [if_pos rfl]; exact h⟩
  ·rw [if_neg q]
   have hj:j<env.length:=by
    have:j<(env++[some s]).length:=by
     rcases aaO j (env++[some s]).length with y | y
     ·exact y
     ·rw [aam y] at e; cases e
    simp at this; omega
   rw [aaw hj] at e
   rw [aaw (by omega)]
   exact L.at' j t e
 ·by_cases q:j=env.length
  ·rw [if_pos q] at e; exact al a e
  ·rw [if_neg q] at e; exact L.al j a e
 ·by_cases q:j=env.length
  ·rw [if_pos q] at e
   rw [if_neg (fun y=>hjk (q.trans y.symm))] at z
   exact dj k a e z
  ·rw [if_neg q] at e
   by_cases q2:k=env.length
   ·rw [if_pos q2] at z
    exact dj j a z e
   ·rw [if_neg q2] at z
    exact L.dj j k a hjk e z
theorem Slots.drop {fp:Nat->List Addr} (L:Slots M Z F (σ++[some v]) H (env++[some s]) fp) (hn:env.length=σ.length):Slots M Z F σ H env fp:=by
 have lt:∀ {j:Nat} {t:Sl},env[j]?=some (some t)->j<env.length:=fun {j t} e=>by
  rcases aaO j env.length with y | y
  ·exact y
  ·rw [aam y] at e; cases e
 refine ⟨fun j t e=>?_,L.al,L.dj,fun j a t e1 e2 e3=>?_⟩
 ·have hj:=lt e
  obtain ⟨v',h1,h2⟩:=L.at' j t (by rw [aaw hj]; exact e)
  rw [aaw (by omega)] at h1
  exact ⟨v',h1,h2⟩
 ·have hj:=lt e2
  have:=L.oa j a t e1 (by rw [aaw hj]; exact e2) e3
  rw [aaw (by omega)] at this
  exact this
theorem Slots.last {fp:Nat->List Addr} (L:Slots M Z F (σ++[some v]) H (env++[some s]) fp) (hn:env.length=σ.length):SlOk M Z F H v s (fp env.length):=by
 obtain ⟨v',h1,h2⟩:=L.at' env.length s (by simp)
 rw [hn] at h1
 simp at h1
 subst h1
 exact h2
theorem Sok.h0 (K:Sok M Z F σ H env) {a:Addr} (h:H a=none):Z.H₀ a=none:=by
 cases e:Z.H₀ a with
 | none=>rfl
 | some o=>exact absurd h (K.pr a (by rw [e]; simp))
theorem Sok.move (K:Sok M Z F σ H env) (s1:Same F F') (s2:Same F' H') (s3:Same H H') (nw:∀ a,F' a≠none->F a≠none\/H a=none):Sok M Z F' σ H' env:=by
 obtain ⟨fp,L⟩:=K.sl
 refine ⟨s2,fun b o h1 h2=>s3 b o (K.sG b o h1 h2),fun b h=>?_,ai K.gr s1,fun a h=>?_,K.len,fp,L.move s1 (fun _ c o _ e=>s3 c o e) nw⟩
 ·cases e:H b with
  | none=>exact absurd e (K.pr b h)
  | some o=>rw [s3 b o e]; simp
 ·rcases nw a h with h1 | h1
  ·exact K.nw a h1
  ·exact .inr (K.h0 h1)
theorem Sok.lay {p:Addr} {o:HO} (K:Sok M Z F σ H env) (h:H p=none):Sok M Z (upd F p o) σ (upd H p o) env:=by
 have hF:F p=none:=Same.none_of K.sF h
 refine K.move (az hF) (fun a u e=>?_) (az h) fun a e=>?_
 ·by_cases q:a=p
  ·subst q; rw [ao] at e ⊢; exact e
  ·rw [ak q] at e ⊢; exact K.sF a u e
 ·by_cases q:a=p
  ·subst q; exact .inr h
  ·rw [ak q] at e; exact .inl e
theorem Sok.slots {σ':St} {env':En} {fp:Nat->List Addr} (K:Sok M Z F σ H env) (hn:env'.length=σ'.length) (L:Slots M Z F σ' H env' fp):Sok M Z F σ' H env':=⟨K.sF,K.sG,K.pr,K.gr,K.nw,hn,fp,L⟩
theorem Sok.own {p:Addr} {o:HO} {x:PV} (K:Sok M Z F σ H env) (h:H p=none) (hx:OwnAt M F (upd H p o) p x):Sok M Z F (σ++[some (.ref p)]) (upd H p o) (env++[some ⟨1,x⟩]):=by
 have hF:F p=none:=Same.none_of K.sF h
 have K1:Sok M Z F σ (upd H p o) env:=K.move am (fun a u e=>by rw [ak (ax e hF)]; exact K.sF a u e) (az h) fun a e=>.inl e
 obtain ⟨fp,L⟩:=K.sl
 have L1:Slots M Z F σ (upd H p o) env fp:=L.move am (fun _ c u _ e=>az h c u e) fun a e=>.inl e
 refine K1.slots (by simp [K.len]) (L1.push (l:=[p]) (by simp) K.len (.inr (.inl ⟨rfl,p,rfl,rfl,K.h0 h,hx⟩)) (fun a ha=>?_) fun j a ha hj=>?_)
 ·simp at ha; subst ha
  exact ⟨by rw [ao]; simp,hF⟩
 ·simp at ha; subst ha
  exact (L.al j a hj).1 h
theorem Sok.drop (K:Sok M Z F (σ++[some v]) H (env++[some s])):Sok M Z F σ H env:=by
 have hn:env.length=σ.length:=by have:=K.len; simpa using this
 obtain ⟨fp,L⟩:=K.sl
 exact K.slots hn (L.drop hn)
theorem OwnAt.rep {a:Addr} {o:HO} {x:PV} (h:OwnAt M F H a x) (hx:∀ xs,x≠.set xs) (hF:F a=none) (ho:H a=some o):Rep M.K (upd F a o) (.ref a) x:=by
 have s1:Same F (upd F a o):=az hF
 cases x <;> try exact h.elim
 ·obtain ⟨vs,h1,h2⟩:=h
  rw [ho] at h1; cases h1
  exact .lst ao (h2.mono s1)
 ·obtain ⟨vs,h1,h2⟩:=h
  rw [ho] at h1; cases h1
  exact .dic ao (h2.mono s1)
 ·exact absurd rfl (hx _)
theorem Sok.frz {fp:Nat->List Addr} {i:Nat} {a:Addr} {o:HO} {σ':St} {env':En} (K:Sok M Z F σ H env) (L:Slots M Z F σ H env fp) (hf:fp i=[a]) (h0:Z.H₀ a=none) (ho:H a=some o)
  (hn:env'.length=σ'.length) (hs:∀ j s,j≠i->env'[j]?=some (some s)->env[j]?=some (some s)/\σ'[j]?=σ[j]?)
  (hi:∀ s,env'[i]?=some (some s)->∃ v,σ'[i]?=some (some v)/\s.k=0/\Rep M.K (upd F a o) v s.v):Sok M Z (upd F a o) σ' H env':=by
 have ha:=L.al i a (by rw [hf]; simp)
 have s1:Same F (upd F a o):=az ha.2
 refine ⟨fun b u e=>?_,K.sG,K.pr,ai K.gr s1,fun b e=>?_,hn,fun j=>if j=i then [] else fp j,fun j s h=>?_,fun j b h=>?_,fun j k b hjk h z=>?_,fun j b t e1 e2 e3=>?_⟩
 ·by_cases q:b=a
  ·subst q; rw [ao] at e; cases e; exact ho
  ·rw [ak q] at e; exact K.sF b u e
 ·by_cases q:b=a
  ·subst q; exact .inr h0
  ·rw [ak q] at e; exact K.nw b e
 ·by_cases q:j=i
  ·subst q
   obtain ⟨v,h1,h2,h3⟩:=hi s h
   exact ⟨v,h1,.inl ⟨h2,if_pos rfl,h3⟩⟩
  ·obtain ⟨e1,e2⟩:=hs j s q h
   obtain ⟨v,h1,h2⟩:=L.at' j s e1
   exact ⟨v,by rw [e2]; exact h1,by rw [if_neg q]; exact h2.mono s1 fun _ _=>rfl⟩
 ·by_cases q:j=i
  ·rw [if_pos q] at h; simp at h
  ·rw [if_neg q] at h
   have hb:=L.al j b h
   have:b≠a:=fun z=>L.dj j i b q h (by rw [hf,z]; simp)
   exact ⟨hb.1,by rw [ak this]; exact hb.2⟩
 ·by_cases q:j=i
  ·rw [if_pos q] at h; simp at h
  ·rw [if_neg q] at h
   by_cases q2:k=i
   ·rw [if_pos q2] at z; simp at z
   ·rw [if_neg q2] at z; exact L.dj j k b hjk h z
 ·by_cases q:j=i
  ·subst q
   obtain ⟨_,_,h2,_⟩:=hi t e2
   rw [e3] at h2; cases h2
  ·obtain ⟨f1,f2⟩:=hs j t q e2
   rw [f2]; exact L.oa j b t e1 f1 e3
theorem cO {H:Hp} {a:Addr} (h:H a≠none):∃ o,H a=some o:=by
 cases e:H a with
 | none=>exact absurd e h
 | some o=>exact ⟨o,rfl⟩
theorem Sok.freezeL {x:PV} (K:Sok M Z F (σ++[some v]) H (env++[some ⟨1,x⟩])) (hx:∀ xs,x≠.set xs):∃ F',Same F F'/\Sok M Z F' σ H env/\Rep M.K F' v x:=by
 have hn:env.length=σ.length:=by have:=K.len; simpa using this
 obtain ⟨fp,L⟩:=K.sl
 rcases L.last hn with ⟨e,_⟩ | ⟨_,a,rfl,hf,h0,hw⟩ | ⟨e,_⟩ | ⟨e,_⟩
 ·first | (exfalso; revert e; simp; done) | cases e
 ·have ha:=L.al env.length a (by rw [hf]; simp)
  obtain ⟨o,ho⟩:=cO ha.1
  refine ⟨upd F a o,az ha.2,K.frz L hf h0 ho hn (fun j s _ e=>?_) (fun s e=>?_),hw.rep hx ha.2 ho⟩
  ·have hj:j<env.length:=by
    rcases aaO j env.length with y | y
    ·exact y
    ·rw [aam y] at e; cases e
   rw [aaw hj,aaw (by omega)]
   exact ⟨e,rfl⟩
  ·simp at e
 ·first | (exfalso; revert e; simp; done) | cases e
 ·first | (exfalso; revert e; simp; done) | cases e
theorem Sok.freeze {i:Nat} {x:PV} (K:Sok M Z F σ H env) (hi:env[i]?=some (some ⟨1,x⟩)) (hx:∀ xs,x≠.set xs):∃ F' v,σ[i]?=some (some v)/\Same F F'/\Sok M Z F' σ H (env.set i (some ⟨0,x⟩))/\Rep M.K F' v x:=by
 obtain ⟨fp,L⟩:=K.sl
 obtain ⟨v,hv,h⟩:=L.at' i _ hi
 rcases h with ⟨e,_⟩ | ⟨_,a,rfl,hf,h0,hw⟩ | ⟨e,_⟩ | ⟨e,_⟩
 ·first | (exfalso; revert e; simp; done) | cases e
 ·have ha:=L.al i a (by rw [hf]; simp)
  obtain ⟨o,ho⟩:=cO ha.1
  refine ⟨upd F a o,_,hv,az ha.2,K.frz L hf h0 ho (by simp [K.len]) (fun j s q e=>?_) (fun s e=>?_),hw.rep hx ha.2 ho⟩
  ·rw [aap (abr q)] at e
   exact ⟨e,rfl⟩
  ·rw [abB] at e
   simp only [if_true] at e
   split at e
   ·first | (exfalso; revert e; simp; done) | cases e
    exact ⟨_,hv,rfl,hw.rep hx ha.2 ho⟩
   ·first | (exfalso; revert e; simp; done) | cases e
 ·first | (exfalso; revert e; simp; done) | cases e
 ·first | (exfalso; revert e; simp; done) | cases e
theorem Sok.put {i:Nat} {x:PV} (K:Sok M Z F σ H env) (h:Rep M.K F v x):Sok M Z F (σ.set i (some v)) H (env.set i (some ⟨0,x⟩)):=by
 obtain ⟨fp,L⟩:=K.sl
 rcases aaO i env.length with hi | hi
 case inr =>
  rw [abD hi,abD (by have:=K.len; omega)]
  exact K
 exact K.slots (by simp [K.len]) (L.put (l:=[]) (by simp) (by have:=K.len; omega) (.inl ⟨rfl,rfl,h⟩) (fun a h=>by simp at h) fun j a _ h=>by simp at h)
theorem Sok.take {i:Nat} (K:Sok M Z F (σ++[some v]) H (env++[some s])) (hk:autoParam (s.k≠2) Z6._auto_1):Sok M Z F (σ.set i (some v)) H (env.set i (some s)):=by
 have hn:env.length=σ.length:=by have:=K.len; simpa using this
 rcases aaO i env.length with hi | hi
 case inr =>
  rw [abD hi,abD (by omega)]
  exact K.drop
 obtain ⟨fp,L⟩:=K.sl
 have hl:=L.last hn
 refine K.slots (by simp [hn]) (Slots.put (l:=fp env.length) (fp:=fun j=>if j=env.length then [] else fp j) ⟨fun j t e=>?_,fun j a e=>?_,fun j k a hjk e z=>?_,(L.drop hn).oa⟩ hk (by omega) hl (fun a=>L.al _ a) fun j a _ h z=>?_)
 ·have hj:j<env.length:=by
   rcases aaO j env.length with y | y
   ·exact y
   ·rw [aam y] at e; cases e
  rw [if_neg (by omega)]
  obtain ⟨v',h1,h2⟩:=L.at' j t (by rw [aaw hj]; exact e)
  rw [aaw (by omega)] at h1
  exact ⟨v',h1,h2⟩
 ·split at e
  ·simp at e
  ·exact L.al j a e
 ·split at e
  ·simp at e
  ·split at z
   ·simp at z
   ·exact L.dj j k a hjk e z
 ·split at z
  ·simp at z
  ·rename_i q
   exact L.dj env.length j a (abr q) h z
theorem Sok.write {i k:Nat} {a:Addr} {o:HO} {x y:PV} (K:Sok M Z F σ H env) (hk:k=1\/k=3) (hi:env[i]?=some (some ⟨k,x⟩)) (hv:σ[i]?=some (some (.ref a))) (hw:OwnAt M F (upd H a o) a y):Sok M Z F σ (upd H a o) (env.set i (some ⟨k,y⟩)):=by
 obtain ⟨fp,L⟩:=K.sl
 obtain ⟨v,hv',h⟩:=L.at' i _ hi
 rw [hv] at hv'; cases hv'
 obtain ⟨hf,hd,hnew⟩:fp i=[a]/\(Z.H₀ a=none\/a∈Z.S)/\SlOk M Z F (upd H a o) (.ref a) ⟨k,y⟩ [a]:=by
  rcases h with ⟨e,_⟩ | ⟨e,a',ea,hf,h0,hx⟩ | ⟨e,_⟩ | ⟨e,a',ea,hf,h0,hx⟩
  ·rcases hk with rfl | rfl <;> exact absurd e (by simp)
  ·cases ea
   exact ⟨hf,.inl h0,.inr (.inl ⟨e,a,rfl,rfl,h0,hw⟩)⟩
  ·rcases hk with rfl | rfl <;> exact absurd e (by simp)
  ·cases ea
   exact ⟨hf,.inr h0,.inr (.inr (.inr ⟨e,a,rfl,rfl,h0,hw⟩))⟩
 have ha:=L.al i a (by rw [hf]; simp)
 refine ⟨fun b u e=>?_,fun b u h1 h2=>?_,fun b h=>?_,K.gr,K.nw,by simp [K.len],fp,fun j s e=>?_,fun j b h=>?_,L.dj,fun j b t e1 e2 e3=>?_⟩
 ·rw [ak (ax e ha.2)]; exact K.sF b u e
 ·have:b≠a:=by
   rcases hd with h0 | h0
   ·exact ax h1 h0
   ·exact fun z=>h2 (by rw [z]; exact h0)
  rw [ak this]; exact K.sG b u h1 h2
 ·by_cases q:b=a
  ·subst q; rw [ao]; simp
  ·rw [ak q]; exact K.pr b h
 ·by_cases q:j=i
  ·subst q
   rw [abB] at e
   simp only [if_true] at e
   split at e
   ·first | (exfalso; revert e; simp; done) | cases e
    exact ⟨_,hv,by rw [hf]; exact hnew⟩
   ·first | (exfalso; revert e; simp; done) | cases e
  ·rw [aap (abr q)] at e
   obtain ⟨v,h1,h2⟩:=L.at' j s e
   refine ⟨v,h1,h2.mono am fun c hc=>ak fun z=>?_⟩
   exact L.dj j i c q hc (by rw [hf,z]; simp)
 ·have hb:=L.al j b h
  refine ⟨?_,hb.2⟩
  by_cases q:b=a
  ·subst q; rw [ao]; simp
  ·rw [ak q]; exact hb.1
 ·by_cases q:j=i
  ·subst q
   rw [abB] at e2
   simp only [if_true] at e2
   split at e2
   ·cases e2; rcases hk with rfl | rfl <;> cases e3
   ·cases e2
  ·rw [aap (abr q)] at e2
   exact L.oa j b t e1 e2 e3
end
noncomputable def Vw (M:Md) (F H:Hp) (v:V) (x:PV):Prop:=Rep M.K F v x\/∃ a,v=.ref a/\OwnAt M F H a x
section
variable {M:Md} {Z:Zn} {F F' H H':Hp} {σ:St} {env:En} {v:V}
theorem Vw.lst {xs:List PV} (h:Vw M F H v (.lst xs)) (s:Same F H):∃ a vs,v=.ref a/\H a=some (.lst vs)/\Reps M.K F vs xs:=by
 rcases h with h | ⟨a,rfl,vs,h1,h2⟩
 ·cases h with
  | lst h1 h2=>exact ⟨_,_,rfl,s _ _ h1,h2⟩
 ·exact ⟨a,vs,rfl,h1,h2⟩
theorem Vw.tup {xs:List PV} (h:Vw M F H v (.tup xs)) (s:Same F H):∃ a vs,v=.ref a/\SqT M.K H a vs/\Reps M.K F vs xs:=by
 rcases h with h | ⟨a,rfl,h⟩
 ·cases h with
  | tup h1 h2=>exact ⟨_,_,rfl,aA s h1,h2⟩
 ·exact h.elim
theorem Vw.dic {xs:List (Key×PV)} (h:Vw M F H v (.dic xs)) (s:Same F H):∃ a vs,v=.ref a/\H a=some (.dK vs)/\RepsK M.K F vs xs:=by
 rcases h with h | ⟨a,rfl,vs,h1,h2⟩
 ·cases h with
  | dic h1 h2=>exact ⟨_,_,rfl,s _ _ h1,h2⟩
 ·exact ⟨a,vs,rfl,h1,h2⟩
theorem Vw.int {i:Int} (h:Vw M F H v (.int i)):v=.int i:=by
 rcases h with h | ⟨a,rfl,h⟩
 ·cases h; rfl
 ·exact h.elim
theorem Vw.bl {b:Bool} (h:Vw M F H v (.bl b)):v=.bl b:=by
 rcases h with h | ⟨a,rfl,h⟩
 ·cases h; rfl
 ·exact h.elim
theorem Vw.str {x:Str} (h:Vw M F H v (.str x)):v=.str x:=by
 rcases h with h | ⟨a,rfl,h⟩
 ·cases h; rfl
 ·exact h.elim
theorem Vw.non (h:Vw M F H v .non):v=.non:=by
 rcases h with h | ⟨a,rfl,h⟩
 ·cases h; rfl
 ·exact h.elim
theorem Sok.vw {i:Nat} {s:Sl} (K:Sok M Z F σ H env) (hi:env[i]?=some (some s)) (hk:s.k≠2/\s.k≠4):∃ v,σ[i]?=some (some v)/\Vw M F H v s.v:=by
 obtain ⟨fp,L⟩:=K.sl
 obtain ⟨v,hv,h⟩:=L.at' i _ hi
 rcases h with ⟨_,_,h⟩ | ⟨_,a,rfl,_,_,h⟩ | ⟨e,_⟩ | ⟨_,a,rfl,_,_,h⟩
 ·exact ⟨v,hv,.inl h⟩
 ·exact ⟨_,hv,.inr ⟨a,rfl,h⟩⟩
 ·exact (e.elim hk.1 hk.2).elim
 ·exact ⟨_,hv,.inr ⟨a,rfl,h⟩⟩
theorem Sok.val {i:Nat} {x:PV} (K:Sok M Z F σ H env) (hi:env[i]?=some (some ⟨0,x⟩)):∃ v,σ[i]?=some (some v)/\Rep M.K F v x:=by
 obtain ⟨fp,L⟩:=K.sl
 obtain ⟨v,hv,h⟩:=L.at' i _ hi
 rcases h with ⟨_,_,h⟩ | ⟨e,_⟩ | ⟨e,_⟩ | ⟨e,_⟩
 ·exact ⟨v,hv,h⟩
 ·first | (exfalso; revert e; simp; done) | cases e
 ·first | (exfalso; revert e; simp; done) | cases e
 ·first | (exfalso; revert e; simp; done) | cases e
theorem Sok.ownAt {i k:Nat} {x:PV} (K:Sok M Z F σ H env) (hk:k=1\/k=3) (hi:env[i]?=some (some ⟨k,x⟩)):∃ a,σ[i]?=some (some (.ref a))/\OwnAt M F H a x:=by
 obtain ⟨fp,L⟩:=K.sl
 obtain ⟨v,hv,h⟩:=L.at' i _ hi
 rcases h with ⟨e,_⟩ | ⟨_,a,rfl,_,_,h⟩ | ⟨e,_⟩ | ⟨_,a,rfl,_,_,h⟩
 ·rcases hk with rfl | rfl <;> exact absurd e (by simp)
 ·exact ⟨a,hv,h⟩
 ·rcases hk with rfl | rfl <;> exact absurd e (by simp)
 ·exact ⟨a,hv,h⟩
end
end Q
namespace Q
open PySem L2
noncomputable abbrev WE:=En->(PV->En->Prop)->Prop
noncomputable abbrev WT:=En->(Bool->En->Prop)->Prop
noncomputable abbrev WA:=En->(List PV->En->Prop)->Prop
structure Wd where
 nx:En->Prop
 rt:PV->En->Prop
 bk:En->Prop:=fun _=>False
 ct:En->Prop:=fun _=>False
 rf:PV->En->Prop:=fun _ _=>False
 ro:PV->Nat->En->Prop:=fun _ _ _=>False
noncomputable abbrev WS:=Wd->En->Prop
noncomputable abbrev md (ob:ObK) (X:Cx):Md:=⟨X.prog,X.w,X.K,ob⟩
structure EvS (ob:ObK) (X:Cx) (e:Expr) (f:WE):Prop where
 ex:∃ t:TE,PE X e t/\∀ (Z:Zn) (F:Hp) (σ:St) (H:Hp) (env:En) (P:PV->En->Prop) (Q:VK),Sok (md ob X) Z F σ H env->f env P ->
  (∀ x env' v F' H',P x env'->Same F F'->Sok (md ob X) Z F' σ H' env'->Rep X.K F' v x->Q v H')->t σ H Q
structure EvW (ob:ObK) (X:Cx) (e:Expr) (f:WE):Prop where
 ex:∃ t:TE,PE X e t/\∀ (Z:Zn) (F:Hp) (σ:St) (H:Hp) (env:En) (P:PV->En->Prop) (Q:VK),Sok (md ob X) Z F σ H env->f env P ->
  (∀ x env' v F' H',P x env'->Same F F'->Sok (md ob X) Z F' σ H' env'->Vw (md ob X) F' H' v x->Q v H')->t σ H Q
structure EvF (ob:ObK) (X:Cx) (e:Expr) (f:WE):Prop where
 ex:∃ t:TE,PE X e t/\∀ (Z:Zn) (F:Hp) (σ:St) (H:Hp) (env:En) (P:PV->En->Prop) (Q:VK),Sok (md ob X) Z F σ H env->f env P ->
  (∀ x env' v F' H',P x env'->Same F F'->(∀ xs,x≠.set xs)->Sok (md ob X) Z F' (σ++[some v]) H' (env'++[some ⟨1,x⟩])->Q v H')->t σ H Q
structure EvT (ob:ObK) (X:Cx) (e:Expr) (f:WT):Prop where
 ex:∃ t:TT,PT X e t/\∀ (Z:Zn) (F:Hp) (σ:St) (H:Hp) (env:En) (P:Bool->En->Prop) (Q:Bool->Hp->Prop),Sok (md ob X) Z F σ H env->f env P ->
  (∀ b env' F' H',P b env'->Same F F'->Sok (md ob X) Z F' σ H' env'->Q b H')->t σ H Q
structure EvP (ob:ObK) (X:Cx) (e:Expr) (f:WT):Prop where
 ex:∃ t:TT,PW X e t/\∀ (Z:Zn) (F:Hp) (σ:St) (H:Hp) (env:En) (P:Bool->En->Prop) (Q:Bool->Hp->Prop),Sok (md ob X) Z F σ H env->f env P ->
  (∀ b env' F' H',P b env'->Same F F'->Sok (md ob X) Z F' σ H' env'->Q b H')->t σ H Q
structure EvA (ob:ObK) (X:Cx) (es:List Expr) (f:WA):Prop where
 ex:∃ t:TA,PA X es t/\∀ (Z:Zn) (F:Hp) (σ:St) (H:Hp) (env:En) (P:List PV->En->Prop) (Q:List V->Hp->Prop),Sok (md ob X) Z F σ H env->f env P ->
  (∀ xs env' vs F' H',P xs env'->xs.length=es.length->Same F F'->Sok (md ob X) Z F' σ H' env'->Reps X.K F' vs xs->Q vs H')->t σ H Q
noncomputable def eC (x:PV):WE:=fun env P=>P x env
noncomputable def eV (i:Nat):WE:=fun env P=>match env[i]? with
 | some (some ⟨0,x⟩)=>P x env
 | some (some ⟨1,.lst xs⟩)=>P (.lst xs) (env.set i (some ⟨0,.lst xs⟩))
 | some (some ⟨1,.dic xs⟩)=>P (.dic xs) (env.set i (some ⟨0,.dic xs⟩))
 | _=>False
noncomputable def eVW (i:Nat):WE:=fun env P=>match env[i]? with
 | some (some ⟨0,x⟩)=>P x env
 | some (some ⟨1,x⟩)=>P x env
 | some (some ⟨3,x⟩)=>P x env
 | _=>False
noncomputable def opt {α:Type} (o:Option α) (P:α->Prop):Prop:=∃ z,o=some z/\P z
theorem opt_some {α:Type} {z:α} {P:α->Prop}:opt (some z) P↔P z:=⟨fun ⟨_,e,h⟩=>by cases e; exact h,fun h=>⟨z,rfl,h⟩⟩
noncomputable def aNil:WA:=fun env P=>P [] env
noncomputable def aCons (a:WE) (r:WA):WA:=fun env P=>a env fun x e1=>r e1 fun xs e2=>P (x::xs) e2
noncomputable def eTup (a:WA):WE:=fun env P=>a env fun xs e=>P (.tup xs) e
noncomputable def eLst (a:WA):WE:=fun env P=>a env fun xs e=>P (.lst xs) e
noncomputable def eOp (g:PV->PV->Option PV) (a b:WE):WE:=fun env P=>a env fun x e1=>b e1 fun y e2=>opt (g x y) fun z=>P z e2
noncomputable def eUn (g:PV->Option PV) (a:WE):WE:=fun env P=>a env fun x e1=>opt (g x) fun z=>P z e1
noncomputable def eOpS (g:PV->PV->Option PV) (i:Nat) (b:WE):WE:=fun env P=>(env[i]?).join.isSome=true/\b env fun y e2=>eVW i e2 fun x _=>opt (g x y) fun z=>P z e2
noncomputable def tBool (a:WE):WT:=fun env P=>a env fun x e=>opt (match x with | .bl b=>some b | _=>none) fun b=>P b e
noncomputable def tAnd (a b:WT):WT:=fun env P=>a env fun x e=>if x=true then b e P else P false e
noncomputable def tOr (a b:WT):WT:=fun env P=>a env fun x e=>if x=true then P true e else b e P
noncomputable def tNot (a:WT):WT:=fun env P=>a env fun x e=>P (!x) e
noncomputable def eIf (c:WT) (a b:WE):WE:=fun env P=>c env fun x e=>if x=true then a e P else b e P
section
variable {ob:ObK} {X:Cx} {e a b c:Expr} {es:List Expr} {pos:Pos} {f g h:WE}
theorem EvS.w (he:EvS ob X e f):EvW ob X e f:=by
 obtain ⟨t,ht,h⟩:=he.ex
 exact ⟨t,ht,fun Z F σ H env P Q K hf k=>h Z F σ H env P Q K hf fun x env' v F' H' p s K' r=>k x env' v F' H' p s K' (.inl r)⟩
theorem EvF.s (he:EvF ob X e f):EvS ob X e f:=by
 obtain ⟨t,ht,h⟩:=he.ex
 refine ⟨t,ht,fun Z F σ H env P Q K hf k=>h Z F σ H env P Q K hf fun x env' v F' H' p s hx K'=>?_⟩
 obtain ⟨F2,s2,K2,r⟩:=K'.freezeL hx
 exact k x env' v F2 H' p (ai s s2) K2 r
theorem ga {v:V} {x:PV} (hp:PE X e (tC v)) (hr:∀ F,Rep X.K F v x):EvS ob X e (eC x) :=
 ⟨_,hp,fun Z F σ H env P Q K hf k=>k x env v F H hf am K (hr F)⟩
theorem ae {i j}:EvS ob X (.Constant (.int i) j pos) (eC (.int i)):=ga aG fun _=>.int i
theorem e8 {i j}:EvS ob X (.Constant (.bool i) j pos) (eC (.bl i)):=ga xu fun _=>.bl i
theorem aQ {i j}:EvS ob X (.Constant (.str i) j pos) (eC (.str i)):=ga wc fun _=>.str i
theorem ac (i:Nat) {x:Str} (hp:PE X (.Name x pos) (tVar i)):EvS ob X (.Name x pos) (eV i):=by
 refine ⟨_,hp,fun Z F σ H env P Q K hf k=>?_⟩
 unfold eV at hf
 split at hf
 ·rename_i y hy
  obtain ⟨v,hv,r⟩:=K.val hy
  exact ⟨v,hv,k _ _ v F H hf am K r⟩
 ·rename_i y hy
  obtain ⟨F',v,hv,s,K',r⟩:=K.freeze hy (fun _=>by simp)
  exact ⟨v,hv,k _ _ v F' H hf s K' r⟩
 ·rename_i y hy
  obtain ⟨F',v,hv,s,K',r⟩:=K.freeze hy (fun _=>by simp)
  exact ⟨v,hv,k _ _ v F' H hf s K' r⟩
 ·exact hf.elim
theorem aw (i:Nat) {x:Str} (hp:PE X (.Name x pos) (tVar i)):EvW ob X (.Name x pos) (eVW i):=by
 refine ⟨_,hp,fun Z F σ H env P Q K hf k=>?_⟩
 unfold eVW at hf
 split at hf
 ·rename_i y hy
  obtain ⟨v,hv,r⟩:=K.vw hy (by simp)
  exact ⟨v,hv,k _ _ v F H hf am K r⟩
 ·rename_i y hy
  obtain ⟨v,hv,r⟩:=K.vw hy (by simp)
  exact ⟨v,hv,k _ _ v F H hf am K r⟩
 ·rename_i y hy
  obtain ⟨v,hv,r⟩:=K.vw hy (by simp)
  exact ⟨v,hv,k _ _ v F H hf am K r⟩
 ·exact hf.elim
theorem af:EvA ob X [] aNil:=⟨_,bG,fun Z F σ H env P Q K hf k=>k [] env [] F H hf rfl am K .nil⟩
theorem ab {fa:WA} (he:EvS ob X e f) (hr:EvA ob X es fa) (hs:autoParam (aan (e::es) X.env=(false,eval e X.env)::aan es X.env) Z2._auto_1):EvA ob X (e::es) (aCons f fa):=by
 obtain ⟨t,ht,h⟩:=he.ex
 obtain ⟨u,hu,g⟩:=hr.ex
 refine ⟨_,bb ht hu hs,fun Z F σ H env P Q K hf k=>?_⟩
 refine h Z F σ H env _ _ K hf fun x e1 v F1 H1 p s1 K1 r1=>?_
 refine g Z F1 σ H1 e1 _ _ K1 p fun xs e2 vs F2 H2 p2 hl s2 K2 r2=>?_
 exact k (x::xs) e2 (v::vs) F2 H2 p2 (by simp [hl]) (ai s1 s2) K2 (.cons (r1.mono s2) r2)
theorem aH {fa:WA} {x1} (ha:EvA ob X es fa) (hn:autoParam (es.length<=1000) Z1._auto_1):EvS ob X (.Tuple es x1 pos) (eTup fa):=by
 obtain ⟨t,ht,h⟩:=ha.ex
 refine ⟨_,wb ht,fun Z F σ H env P Q K hf k=>?_⟩
 refine h Z F σ H env _ _ K hf fun xs e1 vs F1 H1 p hl s1 K1 r1=>⟨?_,fun q hq=>?_⟩
 ·rw [r1.len,hl,aaA]; omega
 ·have hF:F1 q=none:=Same.none_of K1.sF hq
  exact k _ e1 _ _ _ p (ai s1 (az hF)) (K1.lay hq) (.tup (.inl (.inl ao)) (r1.mono (az hF)))
theorem b8 {fa:WA} (ha:EvA ob X es fa) (hn:autoParam (es.length<=1000) Z1._auto_1):EvF ob X (.List es pos) (eLst fa):=by
 obtain ⟨t,ht,h⟩:=ha.ex
 refine ⟨_,jH ht,fun Z F σ H env P Q K hf k=>?_⟩
 refine h Z F σ H env _ _ K hf fun xs e1 vs F1 H1 p hl s1 K1 r1=>⟨?_,fun q hq=>?_⟩
 ·rw [r1.len,hl,aaA]; omega
 ·exact k _ e1 _ _ _ p s1 (fun _=>by simp) (K1.own hq ⟨vs,ao,r1⟩)
noncomputable def OpQ (ob:ObK) (X:Cx) (r:R2) (g:PV->PV->Option PV):Prop :=
 ∀ (Z:Zn) (F:Hp) (σ:St) (H:Hp) (env:En) (v u:V) (x y z:PV) (Q:VK),Sok (md ob X) Z F σ H env->Vw (md ob X) F H v x->Vw (md ob X) F H u y->g x y=some z ->
  (∀ v' F' H',Same F F'->Sok (md ob X) Z F' σ H' env->Rep X.K F' v' z->Q v' H')->r v u H Q
noncomputable def OpQS (ob:ObK) (X:Cx) (r:R2) (g:PV->PV->Option PV):Prop :=
 ∀ (Z:Zn) (F:Hp) (σ:St) (H:Hp) (env:En) (v u:V) (x y z:PV) (Q:VK),Sok (md ob X) Z F σ H env->Rep X.K F v x->Vw (md ob X) F H u y->g x y=some z ->
  (∀ v' F' H',Same F F'->Sok (md ob X) Z F' σ H' env->Rep X.K F' v' z->Q v' H')->r v u H Q
theorem OpQ.s {r:R2} {o:PV->PV->Option PV} (h:OpQ ob X r o):OpQS ob X r o:=fun Z F σ H env v u x y z Q K rx ry=>h Z F σ H env v u x y z Q K (.inl rx) ry
theorem hW {r:R2} {o:PV->PV->Option PV} {ta tb:TE} (hq:OpQS ob X r o)
  (ha:∀ (Z:Zn) (F:Hp) (σ:St) (H:Hp) (env:En) (P:PV->En->Prop) (Q:VK),Sok (md ob X) Z F σ H env->f env P->(∀ x env' v F' H',P x env'->Same F F'->Sok (md ob X) Z F' σ H' env'->Rep X.K F' v x->Q v H')->ta σ H Q)
  (hb:∀ (Z:Zn) (F:Hp) (σ:St) (H:Hp) (env:En) (P:PV->En->Prop) (Q:VK),Sok (md ob X) Z F σ H env->g env P->(∀ x env' v F' H',P x env'->Same F F'->Sok (md ob X) Z F' σ H' env'->Vw (md ob X) F' H' v x->Q v H')->tb σ H Q) :
  ∀ (Z:Zn) (F:Hp) (σ:St) (H:Hp) (env:En) (P:PV->En->Prop) (Q:VK),Sok (md ob X) Z F σ H env->eOp o f g env P->(∀ x env' v F' H',P x env'->Same F F'->Sok (md ob X) Z F' σ H' env'->Rep X.K F' v x->Q v H')->tOp r ta tb σ H Q:=by
 intro Z F σ H env P Q K hf k
 refine ha Z F σ H env _ _ K hf fun x e1 v F1 H1 p s1 K1 r1=>?_
 refine hb Z F1 σ H1 e1 _ _ K1 p fun y e2 u F2 H2 p2 s2 K2 r2=>?_
 obtain ⟨z,ez,p3⟩:=p2
 exact hq Z F2 σ H2 e2 v u x y z Q K2 (r1.mono s2) r2 ez fun v' F' H' s3 K3 r3=>k z e2 v' F' H' p3 (ai s1 (ai s2 s3)) K3 r3
theorem sE {r:R2} {o:PV->PV->Option PV} {tb:TE} {i:Nat} (hq:OpQ ob X r o)
  (hb:∀ (Z:Zn) (F:Hp) (σ:St) (H:Hp) (env:En) (P:PV->En->Prop) (Q:VK),Sok (md ob X) Z F σ H env->g env P->(∀ x env' v F' H',P x env'->Same F F'->Sok (md ob X) Z F' σ H' env'->Vw (md ob X) F' H' v x->Q v H')->tb σ H Q) :
  ∀ (Z:Zn) (F:Hp) (σ:St) (H:Hp) (env:En) (P:PV->En->Prop) (Q:VK),Sok (md ob X) Z F σ H env->eOpS o i g env P->(∀ x env' v F' H',P x env'->Same F F'->Sok (md ob X) Z F' σ H' env'->Rep X.K F' v x->Q v H')->tOp r (tVar i) tb σ H Q:=by
 intro Z F σ H env P Q K hf k
 obtain ⟨hd,hf⟩:=hf
 obtain ⟨v,hv⟩:∃ v,σ[i]?=some (some v):=by
  cases e:env[i]? with
  | none=>rw [e] at hd; cases hd
  | some w =>
   cases w with
   | none=>rw [e] at hd; cases hd
   | some s =>
    obtain ⟨fp,L⟩:=K.sl
    obtain ⟨v,hv,_⟩:=L.at' i s e
    exact ⟨v,hv⟩
 refine ⟨v,hv,hb Z F σ H env _ _ K hf fun y e2 u F2 H2 p2 s2 K2 r2=>?_⟩
 unfold eVW at p2
 have fin:∀ (s:Sl),(s.k≠2/\s.k≠4)->e2[i]?=some (some s)->opt (o s.v y) (fun z=>P z e2)->r v u H2 Q:=fun s hk hs ⟨z,ez,p3⟩=>by
  obtain ⟨v',hv',rv⟩:=K2.vw hs hk
  rw [hv] at hv'; cases hv'
  exact hq Z F2 σ H2 e2 v u s.v y z Q K2 rv r2 ez fun v' F' H' s3 K3 r3=>k z e2 v' F' H' p3 (ai s2 s3) K3 r3
 split at p2
 ·rename_i hy; exact fin _ (by simp) hy p2
 ·rename_i hy; exact fin _ (by simp) hy p2
 ·rename_i hy; exact fin _ (by simp) hy p2
 ·exact p2.elim
end
end Q
namespace Q
open PySem L2 PyProof.Rows
noncomputable def valP (kvs:List (Key×PV)) (k:Key):Option PV:=(kvs.find? fun kv=>decide (kv.1=k)).map (·.2)
noncomputable def putP (kvs:List (Key×PV)) (k:Key) (v:PV):List (Key×PV) :=
 if (kvs.any fun kv=>decide (kv.1=k))=true then kvs.map (fun kv=>if kv.1=k then (kv.1,v) else kv) else kvs++[(k,v)]
noncomputable def keyP:PV->Option Key
 | .int i=>some (.inl i)
 | .str s=>some (.inr s)
 | _=>none
section
variable {K:aad} {F:Hp}
theorem RepsK.val {k:Key} {vs:List (Key×V)} {xs:List (Key×PV)} (h:RepsK K F vs xs):(valV vs k=none/\valP xs k=none)\/∃ v x,valV vs k=some v/\valP xs k=some x/\Rep K F v x:=by
 induction h using RepsK.ind with
 | nil=>exact .inl ⟨rfl,rfl⟩
 | @cons k' v x vs xs h _ ih =>
  by_cases e:k'=k
  ·exact .inr ⟨v,x,iK e,by simp [valP,abx,e],h⟩
  ·rw [iL (p:=(k',v)) e]
   have e2:valP ((k',x)::xs) k=valP xs k:=by simp [valP,abx,e]
   rw [e2]
   exact ih
theorem RepsK.any {k:Key} {vs:List (Key×V)} {xs:List (Key×PV)} (h:RepsK K F vs xs):(vs.any fun kv=>decide (kv.1=k))=xs.any fun kv=>decide (kv.1=k):=by
 induction h using RepsK.ind with
 | nil=>rfl
 | cons _ _ ih=>exact congrArg (_ || ·) ih
theorem RepsK.app {vs ws:List (Key×V)} {xs ys:List (Key×PV)} (h:RepsK K F vs xs) (k:RepsK K F ws ys):RepsK K F (vs++ws) (xs++ys):=by
 induction h using RepsK.ind with
 | nil=>exact k
 | cons a _ ih=>exact .cons a ih
theorem RepsK.mapPut {k:Key} {v:V} {x:PV} (hv:Rep K F v x) {vs:List (Key×V)} {xs:List (Key×PV)} (h:RepsK K F vs xs):RepsK K F (vs.map fun kv=>if kv.1=k then (kv.1,v) else kv) (xs.map fun kv=>if kv.1=k then (kv.1,x) else kv):=by
 induction h using RepsK.ind with
 | nil=>exact .nil
 | @cons k' v' x' vs xs a _ ih =>
  rw [aao,aao]
  dsimp only
  by_cases e:k'=k
  ·rw [if_pos e,if_pos e]; exact .cons hv ih
  ·rw [if_neg e,if_neg e]; exact .cons a ih
theorem RepsK.put {k:Key} {v:V} {x:PV} {vs:List (Key×V)} {xs:List (Key×PV)} (h:RepsK K F vs xs) (hv:Rep K F v x):RepsK K F (putK vs k v) (putP xs k x):=by
 unfold putK putP
 rw [h.any]
 split
 ·exact h.mapPut hv
 ·exact h.app (.cons hv .nil)
theorem oU {x:PV} {k:Key} {v:V} (h:keyP x=some k) (r:Rep K F v x):v=kV k:=by
 cases r <;> cases h <;> rfl
end
noncomputable def ixPV:PV->PV->Option PV
 | .tup xs,.int i=>atI xs i
 | .lst xs,.int i=>atI xs i
 | .str s,.int i=>if s.length<=100000 then (atI s.cps.toList i).map fun c=>.str ⟨#[c]⟩ else none
 | .dic kvs,y=>(keyP y).bind (valP kvs)
 | _,_=>none
noncomputable def rIxD:R2:=fun x y H Q=>∃ a v,x=.ref a/\DGet H a y (some v)/\Q v H
section
variable {ob:ObK} {X:Cx} {a b c e:Expr} {f g h:WE} {pos:Pos}
theorem uZ (hu:X.A.units+1<cLine):IxR X rIxD:=by
 intro value slice pins s σ H x y v u Q I rx ry h hs
 obtain ⟨a,z,rfl,g,q⟩:=h
 cases rx
 exact aeS (ou I g) PySem.F.slot_dict_getitem.lookup (rG hu I g ry fun w' s3 I3 rw'=>⟨z,H,I3,rw',q⟩) hs
noncomputable def rIxA (K:aad):R2:=fun x y H Q=>rIx K x y H Q\/rIxD x y H Q
theorem qV (hu:X.A.units+1<cLine):IxR X (rIxA X.K):=ix_seq.or (uZ hu)
theorem pi {K:aad} {F:Hp} {vs:List V} {xs:List PV} {i:Int} {z:PV} (r:Reps K F vs xs) (h:atI xs i=some z):∃ v,atI vs i=some v/\Rep K F v z:=by
 unfold atI at h ⊢
 rw [r.len]
 cases e:ixN xs.length i with
 | none=>rw [e] at h; cases h
 | some j =>
  rw [e] at h
  exact r.get h
theorem vwKey {M:Md} {F H:Hp} {v:V} {x:PV} {k:Key} (h:Vw M F H v x) (hk:keyP x=some k):v=kV k:=by
 cases x <;> try cases hk
 ·exact h.int
 ·exact h.str
theorem opq_ix:OpQ ob X (rIxA X.K) ixPV:=by
 intro Z F σ H env v u x y z Q K rx ry hz k
 unfold ixPV at hz
 split at hz
 ·obtain ⟨p,vs,rfl,h1,h2⟩:=rx.tup K.sF
  rw [ry.int]
  obtain ⟨w,e1,e2⟩:=pi h2 hz
  exact .inl (.inr (.inl ⟨p,vs,_,w,rfl,rfl,h1,e1,k w F H am K e2⟩))
 ·obtain ⟨p,vs,rfl,h1,h2⟩:=rx.lst K.sF
  rw [ry.int]
  obtain ⟨w,e1,e2⟩:=pi h2 hz
  exact .inl (.inl ⟨p,vs,_,w,rfl,rfl,.inl (.inl h1),e1,k w F H am K e2⟩)
 ·rename_i s i
  split at hz
  ·rename_i hl
   rw [rx.str,ry.int]
   cases e:atI s.cps.toList i with
   | none=>rw [e] at hz; cases hz
   | some c =>
    rw [e] at hz; cases hz
    exact .inl (.inr (.inr ⟨s,i,c,rfl,rfl,by rw [aaA]; omega,e,k _ F H am K (.str _)⟩))
  ·cases hz
 ·rename_i kvs
  obtain ⟨p,vs,rfl,h1,h2⟩:=rx.dic K.sF
  cases e:keyP y with
  | none=>rw [e] at hz; cases hz
  | some kk =>
   rw [e] at hz
   have hz:valP kvs kk=some z:=hz
   rw [vwKey ry e]
   rcases h2.val (k:=kk) with ⟨_,e2⟩ | ⟨w,w',e1,e2,e3⟩
   ·rw [e2] at hz; cases hz
   ·rw [e2] at hz; cases hz
    refine .inr ⟨p,w,rfl,?_,k w F H am K e3⟩
    rw [<- e1]; exact DGet.k h1
 ·cases hz
theorem aq (hu:X.A.units+1<cLine) (ha:EvS ob X a f) (hb:EvW ob X b g) (hs:autoParam (lg b) Z7._auto_1):EvS ob X (.Subscript a b pos) (eOp ixPV f g):=by
 obtain ⟨ta,ha,ka⟩:=ha.ex
 obtain ⟨tb,hb,kb⟩:=hb.ex
 exact ⟨_,bR (qV hu) ha hb hs,hW opq_ix.s ka kb⟩
theorem fN (i:Nat) {x:Str} {p:Pos} (hu:X.A.units+1<cLine) (ha:PE X (.Name x p) (tVar i)) (hb:EvW ob X b g) (hs:autoParam (lg b) Z7._auto_1):EvS ob X (.Subscript (.Name x p) b pos) (eOpS ixPV i g):=by
 obtain ⟨tb,hb,kb⟩:=hb.ex
 exact ⟨_,bR (qV hu) ha hb hs,sE opq_ix kb⟩
theorem OpR.or {fn:Value->Value->Sem Value} {r r':R2} (h:OpR X fn r) (h':OpR X fn r'):OpR X fn (fun x y H Q=>r x y H Q\/r' x y H Q):=by
 intro pins s σ H x y v u Q I rx ry q
 rcases q with q | q
 ·exact h pins s σ H x y v u Q I rx ry q
 ·exact h' pins s σ H x y v u Q I rx ry q
noncomputable def addPV:PV->PV->Option PV
 | .int i,.int j=>some (.int (i+j))
 | .str s,.str t=>if s.length+t.length<=100000 then some (.str (s++t)) else none
 | .tup xs,.tup ys=>if xs.length+ys.length<=100000 then some (.tup (xs++ys)) else none
 | .lst xs,.lst ys=>if xs.length+ys.length<=100000 then some (.lst (xs++ys)) else none
 | _,_=>none
theorem Vw.tupR {M:Md} {F H:Hp} {v:V} {xs:List PV} (h:Vw M F H v (.tup xs)):Rep M.K F v (.tup xs):=by
 rcases h with h | ⟨a,rfl,h⟩
 ·exact h
 ·exact h.elim
noncomputable def rAddA (K:aad):R2:=fun x y H Q=>((rI0 fun i j=>.int (i+j)) x y H Q\/∃ i j,x=.str i/\y=.str j/\i.length+j.length<=sizeLine/\Q (.str (i++j)) H)\/(rCatW K x y H Q\/rCat x y H Q)
theorem uD:OpR X (ab2 .Add) (rAddA X.K):=OpR.or (OpR.or gK pJ) (OpR.or uB wx)
theorem uy:OpQ ob X (rAddA X.K) addPV:=by
 intro Z F σ H env v u x y z Q K rx ry hz k
 unfold addPV at hz
 split at hz
 ·cases hz
  rw [rx.int,ry.int]
  exact .inl (.inl ⟨_,_,rfl,rfl,k _ F H am K (.int _)⟩)
 ·split at hz
  ·cases hz
   rw [rx.str,ry.str]
   exact .inl (.inr ⟨_,_,rfl,rfl,by rw [aaA]; omega,k _ F H am K (.str _)⟩)
  ·cases hz
 ·rename_i xs ys
  split at hz
  ·cases hz
   obtain ⟨p,vs,rfl,h1,h2⟩:=rx.tup K.sF
   obtain ⟨q,ws,rfl,g1,g2⟩:=ry.tup K.sF
   have hl:=h2.len
   have gl:=g2.len
   refine .inr (.inl ⟨p,q,vs,ws,rfl,rfl,h1,g1,by rw [aaA]; omega,?_⟩)
   refine ⟨fun e=>k _ F H am K ?_,fun e=>k _ F H am K ?_,fun r hr=>?_⟩
   ·subst e
    have:xs=[]:=List.length_eq_zero_iff.mp hl.symm
    subst this
    exact ry.tupR
   ·subst e
    have:ys=[]:=List.length_eq_zero_iff.mp gl.symm
    subst this
    rw [aby]
    exact rx.tupR
   ·have hF:F r=none:=Same.none_of K.sF hr
    exact k _ _ _ (az hF) (K.lay hr) (.tup (.inl (.inl ao)) ((h2.app g2).mono (az hF)))
  ·cases hz
 ·rename_i xs ys
  split at hz
  ·cases hz
   obtain ⟨p,vs,rfl,h1,h2⟩:=rx.lst K.sF
   obtain ⟨q,ws,rfl,g1,g2⟩:=ry.lst K.sF
   have hl:=h2.len
   have gl:=g2.len
   refine .inr (.inr ⟨p,q,vs,ws,rfl,rfl,h1,g1,by rw [aaA]; omega,fun r hr=>?_⟩)
   have hF:F r=none:=Same.none_of K.sF hr
   exact k _ _ _ (az hF) (K.lay hr) (.lst ao ((h2.app g2).mono (az hF)))
  ·cases hz
 ·cases hz
end
end Q
namespace Q
open PySem L2 PyProof.Rows
section
variable {ob:ObK} {X:Cx} {a b c e:Expr} {f g h:WE} {pos:Pos}
theorem fO {op:Operator} {r:R2} {o:PV->PV->Option PV} (hr:OpR X (ab2 op) r) (hq:OpQ ob X r o) (ha:EvS ob X a f) (hb:EvW ob X b g):EvS ob X (.BinOp a op b pos) (eOp o f g):=by
 obtain ⟨ta,ha,ka⟩:=ha.ex
 obtain ⟨tb,hb,kb⟩:=hb.ex
 exact ⟨_,bv hr ha hb,hW hq.s ka kb⟩
theorem aL (ha:EvS ob X a f) (hb:EvW ob X b g):EvS ob X (.BinOp a .Add b pos) (eOp addPV f g):=fO uD uy ha hb
noncomputable def iI (C:Int->Int->Bool) (h:Int->Int->Int):PV->PV->Option PV
 | .int i,.int j=>if C i j=true then some (.int (h i j)) else none
 | _,_=>none
theorem hZ {C:Int->Int->Bool} {D:Int->Int->Prop} {h:Int->Int->Int} (hC:∀ i j,C i j=true->D i j):OpQ ob X (rI D fun i j=>.int (h i j)) (iI C h):=by
 intro Z F σ H env v u x y z Q K rx ry hz k
 unfold iI at hz
 split at hz
 ·split at hz
  ·rename_i hc
   cases hz
   rw [rx.int,ry.int]
   exact ⟨_,_,rfl,rfl,hC _ _ hc,k _ F H am K (.int _)⟩
  ·cases hz
 ·cases hz
noncomputable def subPV:=iI (fun _ _=>true) fun i j=>i - j
noncomputable def cMul (i j:Int):Bool:=(decide (-(2 ^ 64)<i) && decide (i<2 ^ 64)) || (decide (-(2 ^ 64)<j) && decide (j<2 ^ 64))
noncomputable def mulPV:PV->PV->Option PV
 | .int i,.int j=>if cMul i j=true then some (.int (i*j)) else none
 | .str s,.int i=>if 0<=i/\i<=1000/\s.length<=1000 then some (.str (repS s i.toNat)) else none
 | .lst xs,.int i=>if -1000<=i/\i<=1000/\xs.length<=1000 then some (.lst (aaC i.toNat xs).flatten) else none
 | _,_=>none
noncomputable def modPV:=iI (fun _ j=>decide (0<j)) fun i j=>i % j
noncomputable def divPV:=iI (fun _ j=>decide (0<j) && decide (j<1073741824)) fun i j=>i / j
noncomputable def powPV:=iI (fun i j=>decide (0<=j) && decide (j<=1000000) && decide (i.natAbs<2 ^ 64)) fun i j=>i ^ j.toNat
theorem uz:OpR X (ab2 .Sub) (rI (fun _ _=>True) fun i j=>.int (i - j)):=by
 intro pins s σ H x y v u Q I rx ry h
 obtain ⟨i,j,e1,e2,_,q⟩:=h
 exact wq pins s σ H x y v u Q I rx ry ⟨i,j,e1,e2,q⟩
theorem cQ (ha:EvS ob X a f) (hb:EvW ob X b g):EvS ob X (.BinOp a .Sub b pos) (eOp subPV f g):=fO uz (hZ fun _ _ _=>trivial) ha hb
theorem eu (ha:EvS ob X a f) (hb:EvW ob X b g):EvS ob X (.BinOp a .Mod b pos) (eOp modPV f g):=fO eg (hZ fun _ _ h=>of_decide_eq_true h) ha hb
theorem rp (ha:EvS ob X a f) (hb:EvW ob X b g):EvS ob X (.BinOp a .FloorDiv b pos) (eOp divPV f g):=fO kA (hZ fun _ _ h=>by simp at h; exact h) ha hb
theorem nr (ha:EvS ob X a f) (hb:EvW ob X b g):EvS ob X (.BinOp a .Pow b pos) (eOp powPV f g):=fO mT (hZ fun _ _ h=>by simp at h; exact ⟨h.1.1,h.1.2,h.2⟩) ha hb
theorem Reps.rep {K:aad} {F:Hp} {vs:List V} {xs:List PV} (r:Reps K F vs xs):∀ n:Nat,Reps K F (aaC n vs).flatten (aaC n xs).flatten
 | 0=>.nil
 | n+1=>by
  rw [abh,abh,abK,abK]
  exact r.app (r.rep n)
theorem ux:OpQ ob X (fun x y H Q=>(rI CMul fun i j=>.int (i*j)) x y H Q\/(rMulS x y H Q\/rRep x y H Q)) mulPV:=by
 intro Z F σ H env v u x y z Q K rx ry hz k
 unfold mulPV at hz
 split at hz
 ·split at hz
  ·rename_i hc
   cases hz
   rw [rx.int,ry.int]
   refine .inl ⟨_,_,rfl,rfl,?_,k _ F H am K (.int _)⟩
   unfold cMul at hc
   simp at hc
   exact hc
  ·cases hz
 ·split at hz
  ·rename_i hc
   cases hz
   rw [rx.str,ry.int]
   exact .inr (.inl ⟨_,_,rfl,rfl,hc.1,hc.2.1,hc.2.2,k _ F H am K (.str _)⟩)
  ·cases hz
 ·rename_i xs i
  split at hz
  ·rename_i hc
   cases hz
   obtain ⟨p,vs,rfl,h1,h2⟩:=rx.lst K.sF
   rw [ry.int]
   have hl:=h2.len
   refine .inr (.inr ⟨p,i,vs,rfl,rfl,h1,by omega,by omega,?_,fun r hr=>?_⟩)
   ·rw [aaA]
    have h3:i.toNat<=1000:=by omega
    have h4:vs.length<=1000:=by omega
    calc vs.length*i.toNat<=1000*1000:=Nat.mul_le_mul h4 h3
     _<=16777216:=by decide
   ·have hF:F r=none:=Same.none_of K.sF hr
    exact k _ _ _ (az hF) (K.lay hr) (.lst ao ((h2.rep _).mono (az hF)))
  ·cases hz
 ·cases hz
theorem fM (ha:EvS ob X a f) (hb:EvW ob X b g):EvS ob X (.BinOp a .Mult b pos) (eOp mulPV f g):=fO (OpR.or jM (OpR.or uA wt)) ux ha hb
noncomputable def negPV:PV->Option PV
 | .int i=>some (.int (-i))
 | _=>none
theorem dA {op:CmpOp} {r:R2} {o:PV->PV->Option PV} (hr:OpR X (aaS op) r) (hq:OpQ ob X r o) (ha:EvS ob X a f) (hb:EvW ob X b g) (hm:acV op b=false):EvS ob X (.Compare a [op] [b] pos) (eOp o f g):=by
 obtain ⟨ta,ha,ka⟩:=ha.ex
 obtain ⟨tb,hb,kb⟩:=hb.ex
 exact ⟨_,oK hr ha hb hm,hW hq.s ka kb⟩
theorem w8 {op:CmpOp} {o:PV->PV->Option PV} (he:∃ t,PE X (.Compare a [op] [b] pos) t/\PT X (.Compare a [op] [b] pos) (tTest t)/\∀ (Z:Zn) (F:Hp) (σ:L2.St) (H:Hp) (env:En) (P:PV->En->Prop) (Q:VK),Sok (md ob X) Z F σ H env->f env P->(∀ x env' v F' H',P x env'->Same F F'->Sok (md ob X) Z F' σ H' env'->Rep X.K F' v x->Q v H')->t σ H Q):EvT ob X (.Compare a [op] [b] pos) (tBool f):=by
 obtain ⟨t,_,ht,h⟩:=he
 refine ⟨_,ht,fun Z F σ H env P Q K hf k=>h Z F σ H env _ _ K hf fun x e1 v F1 H1 p s1 K1 r1=>?_⟩
 obtain ⟨z,hz,p⟩:=p
 cases x <;> try (cases hz)
 cases r1
 exact ⟨_,rfl,k _ e1 F1 H1 p s1 K1⟩
theorem av {op:CmpOp} {r:R2} {o:PV->PV->Option PV} (hr:OpR X (aaS op) r) (hq:OpQ ob X r o) (ha:EvS ob X a f) (hb:EvW ob X b g) (hm:acV op b=false):EvT ob X (.Compare a [op] [b] pos) (tBool (eOp o f g)):=by
 obtain ⟨ta,ha,ka⟩:=ha.ex
 obtain ⟨tb,hb,kb⟩:=hb.ex
 exact w8 (o:=o) ⟨_,oK hr ha hb hm,fA hr ha hb hm,hW hq.s ka kb⟩
theorem b0 {r:R2} {o:PV->PV->Option PV} {P:V->V->Hp->V->Prop} (h:∀ (F H:Hp) (v u:V) (x y z:PV),Same F H->Vw (md ob X) F H v x->Vw (md ob X) F H u y->o x y=some z->∃ w,(∀ F,Rep X.K F w z)/\∀ Q:VK,Q w H->r v u H Q):OpQ ob X r o:=by
 intro Z F σ H env v u x y z Q K rx ry hz k
 obtain ⟨w,h1,h2⟩:=h F H v u x y z K.sF rx ry hz
 exact h2 Q (k w F H am K (h1 F))
noncomputable def ltPV:PV->PV->Option PV
 | .int i,.int j=>some (.bl (decide (i<j)))
 | .str s,.str t=>some (.bl (decide (ltS s t)))
 | _,_=>none
noncomputable def lePV:PV->PV->Option PV
 | .int i,.int j=>some (.bl (decide (i<=j)))
 | .str s,.str t=>some (.bl (!decide (ltS t s)))
 | _,_=>none
noncomputable def gtPV:PV->PV->Option PV
 | .int i,.int j=>some (.bl (decide (j<i)))
 | _,_=>none
theorem gJ:OpQ ob X (fun x y H Q=>(rI0 fun i j=>.bl (decide (i<j))) x y H Q\/∃ i j,x=.str i/\y=.str j/\Q (.bl (decide (i.cps.toList<j.cps.toList))) H) ltPV:=by
 refine b0 (P:=fun _ _ _ _=>True) fun F H v u x y z sF rx ry hz=>?_
 unfold ltPV at hz
 split at hz
 ·cases hz
  rw [rx.int,ry.int]
  exact ⟨_,fun _=>.bl _,fun Q q=>.inl ⟨_,_,rfl,rfl,q⟩⟩
 ·cases hz
  rw [rx.str,ry.str]
  exact ⟨_,fun _=>.bl _,fun Q q=>.inr ⟨_,_,rfl,rfl,q⟩⟩
 ·cases hz
theorem jK:OpQ ob X (fun x y H Q=>(rI0 fun i j=>.bl (decide (i<=j))) x y H Q\/∃ i j,x=.str i/\y=.str j/\Q (.bl (!decide (j.cps.toList<i.cps.toList))) H) lePV:=by
 refine b0 (P:=fun _ _ _ _=>True) fun F H v u x y z sF rx ry hz=>?_
 unfold lePV at hz
 split at hz
 ·cases hz
  rw [rx.int,ry.int]
  exact ⟨_,fun _=>.bl _,fun Q q=>.inl ⟨_,_,rfl,rfl,q⟩⟩
 ·cases hz
  rw [rx.str,ry.str]
  exact ⟨_,fun _=>.bl _,fun Q q=>.inr ⟨_,_,rfl,rfl,q⟩⟩
 ·cases hz
theorem jL:OpQ ob X (rI0 fun i j=>.bl (decide (j<i))) gtPV:=by
 refine b0 (P:=fun _ _ _ _=>True) fun F H v u x y z sF rx ry hz=>?_
 unfold gtPV at hz
 split at hz
 ·cases hz
  rw [rx.int,ry.int]
  exact ⟨_,fun _=>.bl _,fun Q q=>⟨_,_,rfl,rfl,q⟩⟩
 ·cases hz
theorem jJ:OpR X (aaS .Lt) (fun x y H Q=>(rI0 fun i j=>.bl (decide (i<j))) x y H Q\/∃ i j,x=.str i/\y=.str j/\Q (.bl (decide (i.cps.toList<j.cps.toList))) H):=OpR.or xw qI
theorem mo:OpR X (aaS .LtE) (fun x y H Q=>(rI0 fun i j=>.bl (decide (i<=j))) x y H Q\/∃ i j,x=.str i/\y=.str j/\Q (.bl (!decide (j.cps.toList<i.cps.toList))) H):=OpR.or xx qJ
noncomputable def truPV:PV->Option Bool
 | .non=>some false
 | .bl b=>some b
 | .int i=>some (i != 0)
 | .str s=>if s.length<=100000 then some ((s.length:Int) != 0) else none
 | .tup xs=>some (!xs.isEmpty)
 | .lst xs=>some (!xs.isEmpty)
 | .dic xs=>some (!xs.isEmpty)
 | _=>none
noncomputable def tTru (a:WE):WT:=fun env P=>a env fun x e=>opt (truPV x) fun b=>P b e
theorem cS (he:EvW ob X e f) (h:autoParam (∀ whole,isTrue e X.env whole=(do let v <- whole; standAt e.pos; aeZ [v] (truthy v))) Z3._auto_1):EvT ob X e (tTru f):=by
 obtain ⟨t,ht,k0⟩:=he.ex
 refine ⟨_,sh ht h,fun Z F σ H env P Q K hf k=>k0 Z F σ H env _ _ K hf fun x e1 v F1 H1 p s1 K1 r1=>?_⟩
 obtain ⟨z,hz,p⟩:=p
 refine ⟨z,?_,k _ e1 F1 H1 p s1 K1⟩
 have emp:∀ {α β:Type} {l:List α} {m:List β},l.length=m.length->l.isEmpty=m.isEmpty:=fun {α β l m} h=>by
  cases l <;> cases m <;> simp at h ⊢
 cases x <;> simp only [truPV] at hz
 ·cases hz; rw [r1.non]; rfl
 ·cases hz; rw [r1.bl]; rfl
 ·cases hz; rw [r1.int]; rfl
 ·split at hz
  ·cases hz; rw [r1.str]; exact ⟨by rw [aaA]; omega,rfl⟩
  ·cases hz
 ·cases hz
  obtain ⟨p,vs,rfl,h1,h2⟩:=r1.tup K1.sF
  exact .inr (.inl ⟨vs,h1,by rw [emp h2.len]⟩)
 ·cases hz
  obtain ⟨p,vs,rfl,h1,h2⟩:=r1.lst K1.sF
  exact .inl ⟨vs,.inl (.inl h1),by rw [emp h2.len]⟩
 ·cases hz
  obtain ⟨p,vs,rfl,h1,h2⟩:=r1.dic K1.sF
  exact .inr (.inr ⟨vs,h1,by rw [emp h2.len]⟩)
 ·cases hz
 ·cases hz
variable {t u:WT} {rest:List Expr}
theorem dh (h:EvP ob X e t):EvT ob X e t:=by
 obtain ⟨w,hw,k⟩:=h.ex
 exact ⟨w,hw.pt,k⟩
theorem cB (h:EvT ob X a t):EvP ob X (.BoolOp .And [a] pos) t:=by
 obtain ⟨w,hw,k⟩:=h.ex
 exact ⟨w,pw_and1 hw,k⟩
theorem gS (h:EvT ob X a t):EvP ob X (.BoolOp .Or [a] pos) t:=by
 obtain ⟨w,hw,k⟩:=h.ex
 exact ⟨w,pw_or1 hw,k⟩
theorem cU (h:EvT ob X a t) (h2:EvP ob X (.BoolOp .And (b::rest) pos) u):EvP ob X (.BoolOp .And (a::b::rest) pos) (tAnd t u):=by
 obtain ⟨w,hw,k⟩:=h.ex
 obtain ⟨w2,hw2,k2⟩:=h2.ex
 refine ⟨_,pw_and hw hw2,fun Z F σ H env P Q K hf kk=>k Z F σ H env _ _ K hf fun x e1 F1 H1 p s1 K1=>?_⟩
 cases x with
 | true=>exact iteT (k2 Z F1 σ H1 e1 P Q K1 p fun x e2 F2 H2 p2 s2 K2=>kk x e2 F2 H2 p2 (ai s1 s2) K2)
 | false=>exact iteF (kk _ e1 F1 H1 p s1 K1)
theorem e9 (h:EvT ob X a t) (h2:EvP ob X (.BoolOp .Or (b::rest) pos) u):EvP ob X (.BoolOp .Or (a::b::rest) pos) (tOr t u):=by
 obtain ⟨w,hw,k⟩:=h.ex
 obtain ⟨w2,hw2,k2⟩:=h2.ex
 refine ⟨_,pw_or hw hw2,fun Z F σ H env P Q K hf kk=>k Z F σ H env _ _ K hf fun x e1 F1 H1 p s1 K1=>?_⟩
 cases x with
 | true=>exact iteT (kk _ e1 F1 H1 p s1 K1)
 | false=>exact iteF (k2 Z F1 σ H1 e1 P Q K1 p fun x e2 F2 H2 p2 s2 K2=>kk x e2 F2 H2 p2 (ai s1 s2) K2)
theorem cT (h:EvT ob X a t):EvT ob X (.UnaryOp .Not a pos) (tNot t):=by
 obtain ⟨w,hw,k⟩:=h.ex
 exact ⟨_,vS hw,fun Z F σ H env P Q K hf kk=>k Z F σ H env _ _ K hf fun x e1 F1 H1 p s1 K1=>kk _ e1 F1 H1 p s1 K1⟩
theorem rn (hc:EvT ob X c t) (ha:EvS ob X a f) (hb:EvS ob X b g):EvS ob X (.IfExp c a b pos) (eIf t f g):=by
 obtain ⟨w,hw,k⟩:=hc.ex
 obtain ⟨ta,ha,ka⟩:=ha.ex
 obtain ⟨tb,hb,kb⟩:=hb.ex
 refine ⟨_,sv hw ha hb,fun Z F σ H env P Q K hf kk=>k Z F σ H env _ _ K hf fun x e1 F1 H1 p s1 K1=>?_⟩
 cases x with
 | true=>exact iteT (ka Z F1 σ H1 e1 P Q K1 p fun x e2 v F2 H2 p2 s2 K2 r2=>kk x e2 v F2 H2 p2 (ai s1 s2) K2 r2)
 | false=>exact iteF (kb Z F1 σ H1 e1 P Q K1 p fun x e2 v F2 H2 p2 s2 K2 r2=>kk x e2 v F2 H2 p2 (ai s1 s2) K2 r2)
noncomputable def blPV:PV->Option Bool
 | .bl b=>some b
 | _=>none
noncomputable def eAnd (a b:WE):WE:=fun env P=>a env fun x e=>opt (blPV x) fun k=>if k=true then b e P else P (.bl false) e
noncomputable def eOr (a b:WE):WE:=fun env P=>a env fun x e=>opt (blPV x) fun k=>if k=true then P (.bl true) e else b e P
noncomputable def eNot (a:WE):WE:=fun env P=>a env fun x e=>opt (blPV x) fun k=>P (.bl (!k)) e
theorem fL {op} (h:EvS ob X a f):EvS ob X (.BoolOp op [a] pos) f:=by
 obtain ⟨t,ht,k⟩:=h.ex
 exact ⟨t,wg ht,k⟩
theorem kZ {K:aad} {F:Hp} {v:V} {x:PV} {k:Bool} (r:Rep K F v x) (h:blPV x=some k):v=.bl k/\x=.bl k:=by
 cases x <;> cases h
 cases r
 exact ⟨rfl,rfl⟩
theorem fQ (ha:EvS ob X a f) (hb:EvS ob X (.BoolOp .And (b::rest) pos) g):EvS ob X (.BoolOp .And (a::b::rest) pos) (eAnd f g):=by
 obtain ⟨ta,ha,ka⟩:=ha.ex
 obtain ⟨tb,hb,kb⟩:=hb.ex
 refine ⟨_,wm ha hb,fun Z F σ H env P Q K hf kk=>ka Z F σ H env _ _ K hf fun x e1 v F1 H1 p s1 K1 r1=>?_⟩
 obtain ⟨z,hz,p⟩:=p
 obtain ⟨rfl,rfl⟩:=kZ r1 hz
 refine ⟨z,rfl,?_⟩
 cases z with
 | true=>exact iteT (kb Z F1 σ H1 e1 P Q K1 p fun x e2 v F2 H2 p2 s2 K2 r2=>kk x e2 v F2 H2 p2 (ai s1 s2) K2 r2)
 | false=>exact iteF (kk _ e1 _ F1 H1 p s1 K1 (.bl _))
theorem wY (ha:EvS ob X a f):EvS ob X (.UnaryOp .Not a pos) (eNot f):=by
 obtain ⟨ta,ha,ka⟩:=ha.ex
 refine ⟨_,wj ha,fun Z F σ H env P Q K hf kk=>ka Z F σ H env _ _ K hf fun x e1 v F1 H1 p s1 K1 r1=>?_⟩
 obtain ⟨z,hz,p⟩:=p
 obtain ⟨rfl,rfl⟩:=kZ r1 hz
 exact ⟨z,rfl,kk _ e1 _ F1 H1 p s1 K1 (.bl _)⟩
end
end Q
namespace Q
open PySem L2 PyProof.Rows
noncomputable def eqPV:Nat->PV->PV->Option Bool
 | 0,_,_=>none
 | d+1,x,y=>match x,y with
  | .non,.non=>some true
  | .non,.bl _=>some false
  | .non,.int _=>some false
  | .non,.str _=>some false
  | .bl _,.non=>some false
  | .bl a,.bl b=>some (a==b)
  | .bl a,.int b=>some ((if a then 1 else 0)==b)
  | .bl _,.str _=>some false
  | .int _,.non=>some false
  | .int a,.bl b=>some (a==(if b then 1 else 0))
  | .int a,.int b=>some (a==b)
  | .int _,.str _=>some false
  | .str _,.non=>some false
  | .str _,.bl _=>some false
  | .str _,.int _=>some false
  | .str a,.str b=>some (a==b)
  | .tup xs,.tup ys=>((xs.zip ys).mapM fun p=>eqPV d p.1 p.2).map fun bs=>bs.all id && xs.length==ys.length
  | .lst xs,.lst ys=>if xs.length=ys.length then ((xs.zip ys).mapM fun p=>eqPV d p.1 p.2).map fun bs=>bs.all id else some false
  | .tup _,.lst _=>some false
  | .lst _,.tup _=>some false
  | .tup _,.non=>some false
  | .tup _,.bl _=>some false
  | .tup _,.int _=>some false
  | .tup _,.str _=>some false
  | .non,.tup _=>some false
  | .bl _,.tup _=>some false
  | .int _,.tup _=>some false
  | .str _,.tup _=>some false
  | .lst _,.non=>some false
  | .lst _,.bl _=>some false
  | .lst _,.int _=>some false
  | .lst _,.str _=>some false
  | .non,.lst _=>some false
  | .bl _,.lst _=>some false
  | .int _,.lst _=>some false
  | .str _,.lst _=>some false
  | _,_=>none
theorem bA {α β:Type} {f:α->Option β}:∀ {l:List α} {m:List β},l.mapM f=some m->m.length=l.length/\∀ (i:Nat) (a:α),l[i]?=some a->∃ b,m[i]?=some b/\f a=some b
 | [],m,h=>by simp at h; subst h; exact ⟨rfl,fun i a e=>by simp at e⟩
 | a::l,m,h=>by
  rw [abw] at h
  cases ea:f a with
  | none=>rw [ea] at h; cases h
  | some b =>
   rw [ea] at h
   cases el:l.mapM f with
   | none=>rw [el] at h; cases h
   | some m' =>
    rw [el] at h
    have h:some (b::m')=some m:=h
    cases h
    obtain ⟨h1,h2⟩:=bA el
    refine ⟨by simp [h1],fun i c e=>?_⟩
    cases i with
    | zero=>simp at e; subst e; exact ⟨b,rfl,ea⟩
    | succ i=>simp at e ⊢; exact h2 i c e
theorem Vals.getV:∀ {xs:List V} {us:List Value} {i:Nat} {u:Value},Vals xs us->us[i]?=some u->∃ x,xs[i]?=some x/\RelV x u
 | _,_,_,_,.nil,e=>by simp at e
 | _,_,0,_,.cons r _,e=>by simp at e; subst e; exact ⟨_,rfl,r⟩
 | _,_,i+1,x,.cons _ t,e=>by
  obtain ⟨u,h1,h2⟩:=Vals.getV (i:=i) (u:=x) t (by simpa using e)
  exact ⟨u,by simpa using h1,h2⟩
section
variable {X:Cx} {pins:List (Addr×Obj)} {σ:L2.St} {H F:Hp} {s:Shared}
theorem db (I:Inv X pins σ H s) {a:Addr} {vs ws:List V} (h1:SqL X.K H a vs) (h2:SqT X.K H a ws):False:=by
 obtain ⟨_,_,⟨o,n,e,c,_⟩,_⟩:=I.list h1
 obtain ⟨_,_,⟨o',e',c',_⟩,_⟩:=I.tuple h2
 rw [e] at e'; cases e'; rw [c] at c'; injection c' with c'; exact absurd c' (by decide)
theorem eF {e:Nat->Bool} {bs:List Bool} (h:∀ j,j<bs.length->bs[j]?=some (e j)):(aaM bs.length).all e=bs.all id:=by
 rw [abz,acT,acT]
 constructor
 ·intro q b hb
  obtain ⟨j,hj,rfl⟩:=List.mem_iff_getElem.mp hb
  have:=h j hj
  rw [aab hj] at this
  have q2:=q j (List.mem_range.mpr hj)
  rw [<- aar this] at q2
  exact q2
 ·intro q j hj
  have hj:=List.mem_range.mp hj
  have:=h j hj
  rw [aab hj] at this
  rw [<- aar this]
  exact q _ (abI hj)
theorem lI (I:Inv X pins σ H s) (sF:Same F H):∀ {d:Nat} {v:V} {x y:PV} {k:Bool},Rep X.K F v x->Rep X.K F v y->eqPV d x y=some k->k=true:=by
 intro d
 induction d with
 | zero=>intro v x y k _ _ h; cases h
 | succ d ih =>
  intro v x y k rx ry h
  have lists:∀ {vs:List V} {xs ys:List PV} {bs:List Bool},Reps X.K F vs xs->Reps X.K F vs ys->(xs.zip ys).mapM (fun p=>eqPV d p.1 p.2)=some bs->bs.all id=true:=fun {vs xs ys bs} r1 r2 hm=>by
   obtain ⟨h1,h2⟩:=bA hm
   rw [acT]
   intro b hb
   obtain ⟨j,hj,rfl⟩:=List.mem_iff_getElem.mp hb
   have hj2:j<(xs.zip ys).length:=by rw [<- h1]; exact hj
   obtain ⟨b',e1,e2⟩:=h2 j _ (aab hj2)
   rw [aab hj] at e1
   cases aar e1
   have hx:xs[j]?=some (xs.zip ys)[j].1:=by
    have:=aab hj2
    rw [aaX] at this
    exact this.1
   have hy:ys[j]?=some (xs.zip ys)[j].2:=by
    have:=aab hj2
    rw [aaX] at this
    exact this.2
   obtain ⟨v1,q1,q2⟩:=r1.get hx
   obtain ⟨v2,q3,q4⟩:=r2.get hy
   rw [q1] at q3; cases q3
   exact ih q2 q4 e2
  cases rx with
  | non=>cases ry; cases h; rfl
  | bl b=>cases ry; cases h; simp
  | int b=>cases ry; cases h; simp
  | str b=>cases ry; cases h; simp
  | tup h1 r1 =>
   cases ry with
   | tup h2 r2 =>
    have:=I.tuple_inj (aA sF h1) (aA sF h2)
    subst this
    replace h:aez (fun bs:List Bool=>bs.all id && acw _==acw _) (List.mapM (fun p:PV×PV=>eqPV d p.1 p.2) (List.zip _ _))=some k:=h
    rw [aaF] at h
    obtain ⟨bs,hb,e⟩:=h
    rw [<- e,lists r1 r2 hb,<- r1.len,<- r2.len]
    simp
   | lst h2 r2=>exact (db I (.inl (.inl (sF _ _ h2))) (aA sF h1)).elim
   | dic h2 r2=>cases h
   | scr h2=>cases h
  | lst h1 r1 =>
   cases ry with
   | tup h2 r2=>exact (db I (.inl (.inl (sF _ _ h1))) (aA sF h2)).elim
   | lst h2 r2 =>
    rw [h1] at h2; cases h2
    replace h:(if acw _=acw _ then aez (fun bs:List Bool=>bs.all id) (List.mapM (fun p:PV×PV=>eqPV d p.1 p.2) (List.zip _ _)) else some false)=some k:=h
    rw [if_pos (by rw [<- r1.len,<- r2.len])] at h
    rw [aaF] at h
    obtain ⟨bs,hb,e⟩:=h
    rw [<- e,lists r1 r2 hb]
   | dic h2 r2=>cases h
   | scr h2=>cases h
  | dic h1 r1=>cases y <;> cases h
  | scr h1=>cases y <;> cases h
theorem eqAt (I:Inv X pins σ H s) (sF:Same F H):∀ {d:Nat} {A:Around} {v u:V} {x y:PV} {a b:Value} {k:Bool},A.units+d<cLine->Rep X.K F v x->Rep X.K F u y->RelV v a->RelV u b->eqPV d x y=some k->SeqAt.RcAt A s a b k/\SeqAt.EqAt A s a b k:=by
 intro d
 induction d with
 | zero=>intro A v u x y a b k _ _ _ _ _ h; cases h
 | succ d ih =>
  intro A v u x y a b k hu rx ry ra rb h
  have hu0:A.units<cLine:=by omega
  cases rx with
  | non =>
   cases ra
   cases ry with
   | non=>cases rb; cases h; exact ⟨SeqAt.RcAt.none_none,ae2 _⟩
   | bl b=>cases rb; cases h; exact ⟨SeqAt.RcAt.none_bool b,SeqAt.EqAt.none_bool b⟩
   | int b=>obtain ⟨t,rfl⟩:=rb; cases h; exact ⟨SeqAt.RcAt.none_int b t,SeqAt.EqAt.none_int b t⟩
   | str b=>obtain ⟨t,rfl⟩:=rb; cases h; exact ⟨SeqAt.RcAt.none_str b t,SeqAt.EqAt.none_str b t⟩
   | tup h1 r1 =>
    cases rb; cases h
    obtain ⟨its,_,p,_⟩:=I.tuple (aA sF h1)
    exact ⟨SeqAt.RcAt.none_tuple p hu0,SeqAt.EqAt.none_tuple p hu0⟩
   | lst h1 r1 =>
    cases rb; cases h
    obtain ⟨its,_,p,_⟩:=I.list (.inl (.inl (sF _ _ h1)))
    exact ⟨SeqAt.RcAt.none_list p.isList hu0,SeqAt.EqAt.none_list p.isList hu0⟩
   | dic=>cases h
   | scr=>cases h
  | bl a =>
   cases ra
   cases ry with
   | non=>cases rb; cases h; exact ⟨SeqAt.RcAt.bool_none a,SeqAt.EqAt.bool_none a⟩
   | bl b=>cases rb; cases h; exact ⟨SeqAt.RcAt.bool_bool a b,SeqAt.EqAt.bool_bool a b⟩
   | int b=>obtain ⟨t,rfl⟩:=rb; cases h; exact ⟨SeqAt.RcAt.bool_int a b t,SeqAt.EqAt.bool_int a b t⟩
   | str b=>obtain ⟨t,rfl⟩:=rb; cases h; exact ⟨SeqAt.RcAt.bool_str a b t,SeqAt.EqAt.bool_str a b t⟩
   | tup h1 r1 =>
    cases rb; cases h
    obtain ⟨its,_,p,_⟩:=I.tuple (aA sF h1)
    exact ⟨SeqAt.RcAt.bool_tuple a p hu0,SeqAt.EqAt.bool_tuple a p hu0⟩
   | lst h1 r1 =>
    cases rb; cases h
    obtain ⟨its,_,p,_⟩:=I.list (.inl (.inl (sF _ _ h1)))
    exact ⟨SeqAt.RcAt.bool_list a p.isList hu0,SeqAt.EqAt.bool_list a p.isList hu0⟩
   | dic=>cases h
   | scr=>cases h
  | int a =>
   obtain ⟨t',rfl⟩:=ra
   cases ry with
   | non=>cases rb; cases h; exact ⟨SeqAt.RcAt.int_none a t',SeqAt.EqAt.int_none a t'⟩
   | bl b=>cases rb; cases h; exact ⟨SeqAt.RcAt.int_bool a t' b,SeqAt.EqAt.int_bool a t' b⟩
   | int b=>obtain ⟨t,rfl⟩:=rb; cases h; exact ⟨SeqAt.RcAt.int_int a t' b t,SeqAt.EqAt.int_int a t' b t⟩
   | str b=>obtain ⟨t,rfl⟩:=rb; cases h; exact ⟨SeqAt.RcAt.int_str a t' b t,SeqAt.EqAt.int_str a t' b t⟩
   | tup h1 r1 =>
    cases rb; cases h
    obtain ⟨its,_,p,_⟩:=I.tuple (aA sF h1)
    exact ⟨SeqAt.RcAt.int_tuple a t' p hu0,SeqAt.EqAt.int_tuple a t' p hu0⟩
   | lst h1 r1 =>
    cases rb; cases h
    obtain ⟨its,_,p,_⟩:=I.list (.inl (.inl (sF _ _ h1)))
    exact ⟨SeqAt.RcAt.int_list a t' p.isList hu0,SeqAt.EqAt.int_list a t' p.isList hu0⟩
   | dic=>cases h
   | scr=>cases h
  | str a =>
   obtain ⟨t',rfl⟩:=ra
   cases ry with
   | non=>cases rb; cases h; exact ⟨SeqAt.RcAt.str_none a t',SeqAt.EqAt.str_none a t'⟩
   | bl b=>cases rb; cases h; exact ⟨SeqAt.RcAt.str_bool a t' b,SeqAt.EqAt.str_bool a t' b⟩
   | int b=>obtain ⟨t,rfl⟩:=rb; cases h; exact ⟨SeqAt.RcAt.str_int a t' b t,SeqAt.EqAt.str_int a t' b t⟩
   | str b=>obtain ⟨t,rfl⟩:=rb; cases h; exact ⟨SeqAt.RcAt.str_str a t' b t,SeqAt.EqAt.str_str a t' b t⟩
   | tup h1 r1 =>
    cases rb; cases h
    obtain ⟨its,_,p,_⟩:=I.tuple (aA sF h1)
    exact ⟨SeqAt.RcAt.str_tuple a t' p hu0,SeqAt.EqAt.str_tuple a t' p hu0⟩
   | lst h1 r1 =>
    cases rb; cases h
    obtain ⟨its,_,p,_⟩:=I.list (.inl (.inl (sF _ _ h1)))
    exact ⟨SeqAt.RcAt.str_list a t' p.isList hu0,SeqAt.EqAt.str_list a t' p.isList hu0⟩
   | dic=>cases h
   | scr=>cases h
  | @tup pa vs xs h1 r1 =>
   cases ra
   obtain ⟨its,rv,p,_⟩:=I.tuple (aA sF h1)
   cases ry with
   | non=>cases rb; cases h; exact ⟨SeqAt.RcAt.tuple_none p hu0,SeqAt.EqAt.tuple_none p hu0⟩
   | bl b=>cases rb; cases h; exact ⟨SeqAt.RcAt.tuple_bool b p hu0,SeqAt.EqAt.tuple_bool b p hu0⟩
   | int b=>obtain ⟨t,rfl⟩:=rb; cases h; exact ⟨SeqAt.RcAt.tuple_int b t p hu0,SeqAt.EqAt.tuple_int b t p hu0⟩
   | str b=>obtain ⟨t,rfl⟩:=rb; cases h; exact ⟨SeqAt.RcAt.tuple_str b t p hu0,SeqAt.EqAt.tuple_str b t p hu0⟩
   | @tup pb ws ys h2 r2 =>
    cases rb
    have h0:=h
    obtain ⟨its2,rw',p2,_⟩:=I.tuple (aA sF h2)
    replace h:aez (fun bs:List Bool=>bs.all id && xs.length==ys.length) (List.mapM (fun p:PV×PV=>eqPV d p.1 p.2) (xs.zip ys))=some k:=h
    rw [aaF] at h
    obtain ⟨bs,hb,e⟩:=h
    obtain ⟨hbl,hbe⟩:=bA hb
    have l1:its.length=xs.length:=by rw [<- rv.length,r1.len]
    have l2:its2.length=ys.length:=by rw [<- rw'.length,r2.len]
    have rc:SeqAt.RcAt A s (.ref pa) (.ref pb) k:=by
     have:=SeqAt.RcAt.tuples (e:=fun j=>bs.getD j false) p p2 hu0 (fun j j1 j2=>by
      simp only [aaf] at j1 j2
      have jx:j<xs.length:=by omega
      have jy:j<ys.length:=by omega
      have hz:(xs.zip ys)[j]?=some (xs[j],ys[j]):=by rw [aaX]; exact ⟨by simp [jx],by simp [jy]⟩
      obtain ⟨b,e1,e2⟩:=hbe j _ hz
      obtain ⟨v1,q1,q2⟩:=r1.get (aab jx)
      obtain ⟨v2,q3,q4⟩:=r2.get (aab jy)
      obtain ⟨u1,q5,q6⟩:=rv.get q1
      obtain ⟨u2,q7,q8⟩:=rw'.get q3
      have g1:its.toArray[j]=u1:=by simpa [aab j1] using q5
      have g2:its2.toArray[j]=u2:=by simpa [aab j2] using q7
      rw [g1,g2]
      have hb':bs.getD j false=b:=by simp [aem,e1]
      rw [hb']
      exact (ih (A:=A.in1) (by show A.units+1+d<cLine; omega) q2 q4 q6 q8 e2).2)
     have e3:((aaM (min its.toArray.size its2.toArray.size)).all (fun j=>bs.getD j false) && its.toArray.size==its2.toArray.size)=k:=by
      have e4:min its.toArray.size its2.toArray.size=bs.length:=by
       rw [hbl,ae7,aaf,aaf,l1,l2]
      rw [e4,eF (fun j hj=>by simp [aem,aab hj]),aaf,aaf,l1,l2]
      exact e
     rw [e3] at this
     exact this
    refine ⟨rc,?_⟩
    by_cases q:pa=pb
    ·subst q
     have:k=true:=lI I sF (.tup h1 r1) (.tup h2 r2) h0
     subst this
     exact ae2 _
    ·exact SeqAt.EqAt.of_refs q rc
   | lst h2 r2 =>
    cases rb; cases h
    obtain ⟨its2,_,p2,_⟩:=I.list (.inl (.inl (sF _ _ h2)))
    exact ⟨SeqAt.RcAt.tuple_list p p2.isList hu0,SeqAt.EqAt.tuple_list p p2.isList hu0⟩
   | dic=>cases h
   | scr=>cases h
  | @lst pa vs xs h1 r1 =>
   cases ra
   obtain ⟨its,rv,p,_⟩:=I.list (.inl (.inl (sF _ _ h1)))
   cases ry with
   | non=>cases rb; cases h; exact ⟨SeqAt.RcAt.list_none p.isList hu0,SeqAt.EqAt.list_none p.isList hu0⟩
   | bl b=>cases rb; cases h; exact ⟨SeqAt.RcAt.list_bool b p.isList hu0,SeqAt.EqAt.list_bool b p.isList hu0⟩
   | int b=>obtain ⟨t,rfl⟩:=rb; cases h; exact ⟨SeqAt.RcAt.list_int b t p.isList hu0,SeqAt.EqAt.list_int b t p.isList hu0⟩
   | str b=>obtain ⟨t,rfl⟩:=rb; cases h; exact ⟨SeqAt.RcAt.list_str b t p.isList hu0,SeqAt.EqAt.list_str b t p.isList hu0⟩
   | tup h2 r2 =>
    cases rb; cases h
    obtain ⟨its2,_,p2,_⟩:=I.tuple (aA sF h2)
    exact ⟨SeqAt.RcAt.list_tuple p.isList p2 hu0,SeqAt.EqAt.list_tuple p.isList p2 hu0⟩
   | @lst pb ws ys h2 r2 =>
    cases rb
    have h0:=h
    obtain ⟨its2,rw',p2,_⟩:=I.list (.inl (.inl (sF _ _ h2)))
    have l1:its.length=xs.length:=by rw [<- rv.length,r1.len]
    have l2:its2.length=ys.length:=by rw [<- rw'.length,r2.len]
    have rc:SeqAt.RcAt A s (.ref pa) (.ref pb) k:=by
     replace h:(if xs.length=ys.length then aez (fun bs:List Bool=>bs.all id) (List.mapM (fun p:PV×PV=>eqPV d p.1 p.2) (xs.zip ys)) else some false)=some k:=h
     split at h
     ·rename_i hl
      rw [aaF] at h
      obtain ⟨bs,hb,e⟩:=h
      obtain ⟨hbl,hbe⟩:=bA hb
      have:=SeqAt.RcAt.lists (e:=fun j=>bs.getD j false) p.isList p2.isList (by rw [aaf,aaf]; omega) hu0 (fun j j1 j2=>by
       simp only [aaf] at j1 j2
       have jx:j<xs.length:=by omega
       have jy:j<ys.length:=by omega
       have hz:(xs.zip ys)[j]?=some (xs[j],ys[j]):=by rw [aaX]; exact ⟨by simp [jx],by simp [jy]⟩
       obtain ⟨b,e1,e2⟩:=hbe j _ hz
       obtain ⟨v1,q1,q2⟩:=r1.get (aab jx)
       obtain ⟨v2,q3,q4⟩:=r2.get (aab jy)
       obtain ⟨u1,q5,q6⟩:=rv.get q1
       obtain ⟨u2,q7,q8⟩:=rw'.get q3
       have g1:its.toArray[j]=u1:=by simpa [aab j1] using q5
       have g2:its2.toArray[j]=u2:=by simpa [aab j2] using q7
       rw [g1,g2]
       have hb':bs.getD j false=b:=by simp [aem,e1]
       rw [hb']
       exact (ih (A:=A.in1) (by show A.units+1+d<cLine; omega) q2 q4 q6 q8 e2).2)
      have e3:((aaM its.toArray.size).all (fun j=>bs.getD j false))=k:=by
       have e4:its.toArray.size=bs.length:=by
        rw [hbl,ae7,aaf,l1]; omega
       rw [e4,eF (fun j hj=>by simp [aem,aab hj])]
       exact e
      rw [e3] at this
      exact this
     ·rename_i hl
      cases h
      exact SeqAt.RcAt.lists_lengths p.isList p2.isList (by simp only [aaf]; simpa [l1,l2] using hl) hu0
    refine ⟨rc,?_⟩
    by_cases q:pa=pb
    ·subst q
     have:k=true:=lI I sF (.lst h1 r1) (.lst h2 r2) h0
     subst this
     exact ae2 _
    ·exact SeqAt.EqAt.of_refs q rc
   | dic=>cases h
   | scr=>cases h
  | dic h1 r1=>cases y <;> cases h
  | scr h1=>cases y <;> cases h
end
section
variable {ob:ObK} {X:Cx} {a b c e:Expr} {f g h:WE} {pos:Pos}
noncomputable def eqqPV (x y:PV):Option PV:=(eqPV 60 x y).map .bl
theorem Vw.frz {M:Md} {F H:Hp} {v:V} {x:PV} (h:Vw M F H v x) (s:Same F H) (hx:∀ xs,x≠.set xs):∃ F',Same F F'/\Same F' H/\Rep M.K F' v x:=by
 rcases h with h | ⟨a,rfl,h⟩
 ·exact ⟨F,am,s,h⟩
 ·cases x <;> try exact h.elim
  ·rename_i xs
   obtain ⟨vs,h1,h2⟩:=h
   cases e:F a with
   | none =>
    refine ⟨upd F a (.lst vs),az e,fun b o q=>?_,.lst ao (h2.mono (az e))⟩
    by_cases z:b=a
    ·subst z; rw [ao] at q; cases q; exact h1
    ·rw [ak z] at q; exact s b o q
   | some o =>
    have:=s a o e
    rw [h1] at this; cases this
    exact ⟨F,am,s,.lst e h2⟩
  ·rename_i xs
   obtain ⟨vs,h1,h2⟩:=h
   cases e:F a with
   | none =>
    refine ⟨upd F a (.dK vs),az e,fun b o q=>?_,.dic ao (h2.mono (az e))⟩
    by_cases z:b=a
    ·subst z; rw [ao] at q; cases q; exact h1
    ·rw [ak z] at q; exact s b o q
   | some o =>
    have:=s a o e
    rw [h1] at this; cases this
    exact ⟨F,am,s,.dic e h2⟩
  ·exact absurd rfl (hx _)
noncomputable def rEqQ (K:aad):R2:=fun v u H Q=>∃ F x y k,Same F H/\Rep K F v x/\Rep K F u y/\eqPV 60 x y=some k/\Q (.bl k) H
theorem aO (hu:X.A.units+60<cLine):OpR X (aaS .Eq) (rEqQ X.K):=by
 intro pins s σ H x y v u Q I rx ry h
 obtain ⟨F,p,q,k,sF,r1,r2,e,hq⟩:=h
 exact (eqAt I sF (A:=X.A) hu r1 r2 rx ry e).1 X.prog X.w X.xe _ ⟨.bl k,H,I,rfl,hq⟩
theorem aN:OpQ ob X (rEqQ X.K) eqqPV:=by
 refine b0 (P:=fun _ _ _ _=>True) fun F H v u x y z sF rx ry hz=>?_
 unfold eqqPV at hz
 rw [aaF] at hz
 obtain ⟨k,hk,rfl⟩:=hz
 have nx:∀ xs,x≠.set xs:=fun xs e=>by subst e; cases y <;> cases hk
 have ny:∀ xs,y≠.set xs:=fun xs e=>by subst e; cases x <;> cases hk
 obtain ⟨F1,s1,s2,r1⟩:=rx.frz sF nx
 have ry1:Vw (md ob X) F1 H u y:=by
  rcases ry with r | ⟨a,e,r⟩
  ·exact .inl (r.mono s1)
  ·exact .inr ⟨a,e,r.mono s1 rfl⟩
 obtain ⟨F2,s3,s4,r2⟩:=ry1.frz s2 ny
 exact ⟨_,fun _=>.bl _,fun Q q=>⟨F2,x,y,k,s4,r1.mono s3,r2,hk,q⟩⟩
noncomputable def toV:PV->Option V
 | .non=>some .non
 | .bl b=>some (.bl b)
 | .int i=>some (.int i)
 | .str s=>some (.str s)
 | _=>none
theorem qc {M:Md} {F H:Hp} {v w:V} {x:PV} (h:Vw M F H v x) (e:toV x=some w):v=w:=by
 cases x <;> cases e
 ·exact h.non
 ·exact h.bl
 ·exact h.int
 ·exact h.str
noncomputable def nePV:PV->PV->Option PV
 | .lst xs,.lst []=>some (.bl (!xs.isEmpty))
 | x,y=>(toV x).bind fun v=>(toV y).bind fun u=>if scal v u=true then some (.bl (!decide (v=u))) else none
theorem cM:OpQ ob X (fun x y H Q=>rNe x y H Q\/rNeNil X.K x y H Q) nePV:=by
 refine b0 (P:=fun _ _ _ _=>True) fun F H v u x y z sF rx ry hz=>?_
 unfold nePV at hz
 split at hz
 ·cases hz
  rename_i xs
  obtain ⟨p,vs,rfl,h1,h2⟩:=rx.lst sF
  obtain ⟨q,ws,rfl,g1,g2⟩:=ry.lst sF
  cases g2
  refine ⟨_,fun _=>.bl _,fun Q hq=>.inr ⟨p,q,vs,rfl,rfl,.inl (.inl h1),.inl (.inl g1),?_⟩⟩
  have:vs.isEmpty=xs.isEmpty:=by have:=h2.len; cases vs <;> cases xs <;> simp at this ⊢
  rw [this]; exact hq
 ·cases e1:toV x with
  | none=>rw [e1] at hz; cases hz
  | some v' =>
   cases e2:toV y with
   | none=>rw [e1,e2] at hz; cases hz
   | some u' =>
    rw [e1,e2] at hz
    have hz:(if scal v' u'=true then some (PV.bl (!decide (v'=u'))) else none)=some z:=hz
    split at hz
    ·rename_i hs
     cases hz
     rw [qc rx e1,qc ry e2]
     exact ⟨_,fun _=>.bl _,fun Q q=>.inl ⟨hs,q⟩⟩
    ·cases hz
theorem dJ (hu:X.A.units<cLine):OpR X (aaS .NotEq) (fun x y H Q=>rNe x y H Q\/rNeNil X.K x y H Q):=OpR.or xv (jd hu)
end
end Q
namespace Q
open PySem L2 PyProof.Rows
section
variable {X:Cx} {pins:List (Addr×Obj)} {σ:L2.St} {H F:Hp} {s:Shared}
theorem Inv.noK (I:Inv X pins σ H s) {a:Addr} {o:Obj} (h:X.K.lookup a=some o):H a=none:=(I.bs a o (I.mod.kin a o h)).2
theorem nv (I:Inv X pins σ H s) {a:Addr} {kvs:List (Key×V)} {vs:List V} (h1:H a=some (.dK kvs)) (h2:SqT X.K H a vs):False:=by
 obtain ⟨_,_,_,_,o,_,_,e,ex,_⟩:=I.hok a _ h1
 obtain ⟨_,_,⟨o',e',c',_⟩,_⟩:=I.tuple h2
 rw [e] at e'; cases e'; rw [ex.1] at c'; injection c' with c'; exact absurd c' (by decide)
theorem iE:∀ {ns ms:List Int},ns.map V.int=ms.map V.int->ns=ms
 | [],[],_=>rfl
 | n::ns,m::ms,h=>by
  rw [aao,aao] at h
  injection h with h1 h2
  injection h1 with h1
  rw [h1,iE h2]
 | [],_::_,h=>by simp at h
 | _::_,[],h=>by simp at h
theorem Rep.inj (I:Inv X pins σ H s) (sF:Same F H) {v:V} {x y:PV} (h:Rep X.K F v x) (h':Rep X.K F v y):x=y:=by
 refine Rep.rec (K:=X.K) (F:=F) (motive_1:=fun v x _=>∀ y,Rep X.K F v y->x=y) (motive_2:=fun vs xs _=>∀ ys,Reps X.K F vs ys->xs=ys) (motive_3:=fun vs xs _=>∀ ys,RepsK X.K F vs ys->xs=ys)
  ?_ ?_ ?_ ?_ ?_ ?_ ?_ ?_ ?_ ?_ ?_ ?_ h y h'
 ·intro y h; cases h; rfl
 ·intro b y h; cases h; rfl
 ·intro b y h; cases h; rfl
 ·intro b y h; cases h; rfl
 ·intro a vs xs h1 _ ih y h
  cases h with
  | tup h2 r2 =>
   have:=I.tuple_inj (aA sF h1) (aA sF h2)
   subst this
   rw [ih _ r2]
  | lst h2 r2=>exact (db I (.inl (.inl (sF _ _ h2))) (aA sF h1)).elim
  | dic h2 r2=>exact (nv I (sF _ _ h2) (aA sF h1)).elim
  | scr h2=>exact (db I (dL sF h2.sq) (aA sF h1)).elim
 ·intro a vs xs h1 _ ih y h
  cases h with
  | tup h2 r2=>exact (db I (.inl (.inl (sF _ _ h1))) (aA sF h2)).elim
  | lst h2 r2=>rw [h1] at h2; cases h2; rw [ih _ r2]
  | dic h2 r2=>rw [h1] at h2; cases h2
  | scr h2 =>
   rcases h2 with ⟨o,h2⟩ | ⟨o,_,_,h2,_⟩
   ·rw [h1] at h2; cases h2
   ·have:=sF _ _ h1; rw [Inv.noK I h2] at this; cases this
 ·intro a vs xs h1 _ ih y h
  cases h with
  | tup h2 r2=>exact (nv I (sF _ _ h1) (aA sF h2)).elim
  | lst h2 r2=>rw [h1] at h2; cases h2
  | dic h2 r2=>rw [h1] at h2; cases h2; rw [ih _ r2]
  | scr h2 =>
   rcases h2 with ⟨o,h2⟩ | ⟨o,_,_,h2,_⟩
   ·rw [h1] at h2; cases h2
   ·have:=sF _ _ h1; rw [Inv.noK I h2] at this; cases this
 ·intro a ns h1 y h
  cases h with
  | tup h2 r2=>exact (db I (dL sF h1.sq) (aA sF h2)).elim
  | lst h2 r2 =>
   rcases h1 with ⟨o,h1⟩ | ⟨o,_,_,h1,_⟩
   ·rw [h1] at h2; cases h2
   ·have:=sF _ _ h2; rw [Inv.noK I h1] at this; cases this
  | dic h2 r2 =>
   rcases h1 with ⟨o,h1⟩ | ⟨o,_,_,h1,_⟩
   ·rw [h1] at h2; cases h2
   ·have:=sF _ _ h2; rw [Inv.noK I h1] at this; cases this
  | scr h2=>rw [iE (I.list_inj (dL sF h1.sq) (dL sF h2.sq))]
 ·intro ys h; cases h; rfl
 ·intro v x vs xs _ _ ih1 ih2 ys h
  cases h with
  | cons h r=>rw [ih1 _ h,ih2 _ r]
 ·intro ys h; cases h; rfl
 ·intro k v x vs xs _ _ ih1 ih2 ys h
  cases h with
  | cons h r=>rw [ih1 _ h,ih2 _ r]
theorem ie (I:Inv X pins σ H s) (sF:Same F H) {A:Around} {d:Nat} {vs:List V} {us:List Value} {xs:List PV} {v:V} {u:Value} {x:PV} {ks:List Bool} (hu:A.units+d<cLine) (rv:Vals vs us) (r:Reps X.K F vs xs) (rx:Rep X.K F v x) (ru:RelV v u)
  (hk:xs.mapM (fun y=>eqPV d y x)=some ks):∃ e:Value->Bool,(∀ y,y∈us->SeqAt.EqAt A s y u (e y))/\us.any e=ks.any id/\us.countP e=ks.countP id/\(∀ (i:Nat) (w:Value),us[i]?=some w->ks[i]?=some (e w)):=by
 obtain ⟨hl,hb⟩:=bA hk
 have l1:=rv.length
 have l2:=r.len
 have key:∀ (i:Nat) (w:Value),us[i]?=some w->∃ b y z,xs[i]?=some y/\vs[i]?=some z/\RelV z w/\Rep X.K F z y/\eqPV d y x=some b/\ks[i]?=some b:=fun i w hw=>by
  obtain ⟨z,e1,e2⟩:=Vals.getV rv hw
  obtain ⟨y,e3,e4⟩:=r.getV e1
  obtain ⟨b,e5,e6⟩:=hb i y e3
  exact ⟨b,y,z,e3,e1,e2,e4,e6,e5⟩
 let e:Value->Bool:=fun w=>(us.zip ks).any fun p=>p.1==w && p.2
 have four:∀ (i:Nat) (w:Value),us[i]?=some w->ks[i]?=some (e w):=by
  intro i w hw
  obtain ⟨b,y,z,e1,e2,e3,e4,e5,e6⟩:=key i w hw
  rw [e6]
  congr 1
  rw [abz,aeQ]
  constructor
  ·intro hb'
   refine ⟨(w,b),abf (i:=i) (by rw [aaX]; exact ⟨hw,e6⟩),by simp [hb']⟩
  ·rintro ⟨⟨w',b'⟩,hm,hp⟩
   simp only [aaK] at hp
   obtain ⟨j,hj,ej⟩:=List.mem_iff_getElem.mp hm
   have hz:=aab hj
   rw [ej,aaX] at hz
   obtain ⟨hz1,hz2⟩:=hz
   have hww:w'=w:=eq_of_beq hp.1
   dsimp only at hz1 hz2
   rw [hww] at hz1
   obtain ⟨b2,y2,z2,f1,f2,f3,f4,f5,f6⟩:=key j w hz1
   have:z=z2:=e3.inj f3
   subst this
   have:=Rep.inj I sF e4 f4
   subst this
   rw [e5] at f5; cases f5
   rw [hz2] at f6; cases f6
   exact hp.2
 have hmap:ks=us.map e:=by
  refine abX fun i=>?_
  rw [aal]
  cases q:us[i]? with
  | none =>
   have:us.length<=i:=List.getElem?_eq_none_iff.mp q
   rw [aam (by omega)]; rfl
  | some w=>rw [four i w q]; rfl
 refine ⟨e,fun y hy=>?_,?_,?_,four⟩
 ·obtain ⟨i,hi,rfl⟩:=List.mem_iff_getElem.mp hy
  have hw:=aab hi
  obtain ⟨b,y,z,e1,e2,e3,e4,e5,e6⟩:=key i _ hw
  have:=four i _ hw
  rw [e6] at this
  rw [<- aar this]
  exact (eqAt I sF (A:=A) hu e4 rx e3 ru e5).2
 ·rw [hmap,List.any_map]; rfl
 ·rw [hmap,List.countP_map]; rfl
end
section
variable {ob:ObK} {X:Cx} {a b c e:Expr} {f g h:WE} {pos:Pos}
noncomputable def inB (x:PV):PV->Option Bool
 | .tup ys=>(ys.mapM fun y=>eqPV 60 y x).map fun ks=>ks.any id
 | .lst ys=>(ys.mapM fun y=>eqPV 60 y x).map fun ks=>ks.any id
 | .dic kvs=>(keyP x).map fun k=>(valP kvs k).isSome
 | .str s=>match x with
  | .str t=>some (!(acH s t 0 s.length 1).isEmpty)
  | _=>none
 | .set S=>match x with
  | .str t=>some (decide (t∈S))
  | _=>none
 | _=>none
noncomputable def noSet:PV->Bool
 | .set _=>false
 | _=>true
theorem mX {x:PV} (h:noSet x=true):∀ xs,x≠.set xs:=fun xs e=>by subst e; cases h
noncomputable def inPV (x y:PV):Option PV:=if noSet x=true then (inB x y).map .bl else none
noncomputable def ninPV (x y:PV):Option PV:=if noSet x=true then (inB x y).map fun b=>.bl (!b) else none
noncomputable def rInQ (P:aaq) (w:World) (K:aad) (neg:Bool):R2:=fun v u H Q=>∃ (F:Hp) (x:PV) (b:Bool),Same F H/\Q (.bl (if neg then !b else b)) H /\
 ((∃ p vs ys ks,u=.ref p/\(SqL K H p vs\/SqT K H p vs)/\Reps K F vs ys/\Rep K F v x/\ys.mapM (fun y=>eqPV 60 y x)=some ks/\b=ks.any id) \/
  (∃ p o,u=.ref p/\DGet H p v o/\b=o.isSome)\/(∃ i j,v=.str i/\u=.str j/\b=!(acH j i 0 j.length 1).isEmpty) \/
  (∃ z a S n,v=.str z/\u=.ref a/\H a=some (setS P w a S n)/\b=S z))
theorem fE (hu:X.A.units+62<cLine):OpR X (aaS .In) (rInQ X.prog X.w X.K false):=by
 intro pins s σ H v u v' u' Q I rv ru h
 obtain ⟨F,x,b,sF,q,h⟩:=h
 have q:Q (.bl b) H:=q
 rcases h with ⟨p,vs,ys,ks,rfl,hs,hr,hx,hk,rfl⟩ | ⟨p,o,rfl,hd,rfl⟩ | ⟨i,j,rfl,rfl,rfl⟩ | ⟨z,a,S,n,rfl,rfl,ha,rfl⟩
 ·cases ru
  rcases hs with hs | hs
  ·obtain ⟨its,r,pl,_⟩:=I.list hs
   obtain ⟨e,e1,e2,_⟩:=ie I sF (A:=X.A.in1) (d:=60) (by show X.A.units+1+60<cLine; omega) r hr hx rv hk
   refine SeqAt.in_listAt e pl.isList (fun y hy=>e1 y (by simpa using hy)) ⟨.bl _,H,I,rfl,?_⟩
   rw [show its.toArray.any e=its.any e by simp,e2]; exact q
  ·obtain ⟨its,r,pl,_⟩:=I.tuple hs
   obtain ⟨e,e1,e2,_⟩:=ie I sF (A:=X.A.in1) (d:=60) (by show X.A.units+1+60<cLine; omega) r hr hx rv hk
   refine SeqAt.in_tupleAt e pl (fun y hy=>e1 y (by simpa using hy)) ⟨.bl _,H,I,rfl,?_⟩
   rw [show its.toArray.any e=its.any e by simp,e2]; exact q
 ·cases ru
  exact xG (by omega) I hd rv fun s3 I3=>⟨.bl _,H,I3,rfl,q⟩
 ·exact qK pins s σ H _ _ _ _ Q I rv ru ⟨i,j,rfl,rfl,q⟩
 ·cases ru
  obtain ⟨t,rfl⟩:=rv
  obtain ⟨x,_,_⟩:=I.hok a _ ha
  exact wpAny_inSet_of (knd:=PySem.strKind X.prog X.w) (aet _ _ _ _) rfl x ⟨.bl (S z),H,I.tok _,rfl,q⟩
theorem cy (hu:X.A.units+62<cLine):OpR X (aaS .NotIn) (rInQ X.prog X.w X.K true):=by
 intro pins s σ H v u v' u' Q I rv ru h
 obtain ⟨F,x,b,sF,q,h⟩:=h
 have q:Q (.bl (!b)) H:=q
 rcases h with ⟨p,vs,ys,ks,rfl,hs,hr,hx,hk,rfl⟩ | ⟨p,o,rfl,hd,rfl⟩ | ⟨i,j,rfl,rfl,rfl⟩ | ⟨z,a,S,n,rfl,rfl,ha,rfl⟩
 ·cases ru
  rcases hs with hs | hs
  ·obtain ⟨its,r,pl,_⟩:=I.list hs
   obtain ⟨e,e1,e2,_⟩:=ie I sF (A:=X.A.in1) (d:=60) (by show X.A.units+1+60<cLine; omega) r hr hx rv hk
   refine SeqAt.notIn_listAt e pl.isList (fun y hy=>e1 y (by simpa using hy)) ⟨.bl _,H,I,rfl,?_⟩
   rw [show its.toArray.any e=its.any e by simp,e2]; exact q
  ·obtain ⟨its,r,pl,_⟩:=I.tuple hs
   obtain ⟨e,e1,e2,_⟩:=ie I sF (A:=X.A.in1) (d:=60) (by show X.A.units+1+60<cLine; omega) r hr hx rv hk
   refine SeqAt.notIn_tupleAt e pl (fun y hy=>e1 y (by simpa using hy)) ⟨.bl _,H,I,rfl,?_⟩
   rw [show its.toArray.any e=its.any e by simp,e2]; exact q
 ·cases ru
  exact vh (by omega) I hd rv fun s3 I3=>⟨.bl _,H,I3,rfl,q⟩
 ·exact mU pins s σ H _ _ _ _ Q I rv ru ⟨i,j,rfl,rfl,q⟩
 ·exact qH pins s σ H _ _ _ _ Q I rv ru ⟨z,a,S,n,rfl,rfl,ha,q⟩
theorem qY {F H:Hp} {v u:V} {x y:PV} {b neg:Bool} (sF:Same F H) (nx:∀ xs,x≠.set xs) (rx:Vw (md ob X) F H v x) (ry:Vw (md ob X) F H u y) (hz:inB x y=some b) (Q:VK) (q:Q (.bl (if neg then !b else b)) H):rInQ X.prog X.w X.K neg v u H Q:=by
 unfold inB at hz
 have seq:∀ {p:Addr} {vs:List V} {ys:List PV},u=.ref p->(SqL X.K H p vs\/SqT X.K H p vs)->Reps X.K F vs ys->((ys.mapM fun y=>eqPV 60 y x).map fun ks=>ks.any id)=some b->rInQ X.prog X.w X.K neg v u H Q:=fun {p vs ys} hp hs hr hz=>by
  rw [aaF] at hz
  obtain ⟨ks,hk,e⟩:=hz
  obtain ⟨F1,s1,s2,r1⟩:=rx.frz sF nx
  exact ⟨F1,x,b,s2,q,.inl ⟨p,vs,ys,ks,hp,hs,hr.mono s1,r1,hk,e.symm⟩⟩
 split at hz
 ·obtain ⟨p,vs,e,h1,h2⟩:=ry.tup sF
  exact seq e (.inr h1) h2 hz
 ·obtain ⟨p,vs,e,h1,h2⟩:=ry.lst sF
  exact seq e (.inl (.inl (.inl h1))) h2 hz
 ·obtain ⟨p,vs,e,h1,h2⟩:=ry.dic sF
  rw [aaF] at hz
  obtain ⟨k,hk,rfl⟩:=hz
  have hv:=vwKey rx hk
  subst hv
  refine ⟨F,.non,_,sF,q,.inr (.inl ⟨p,valV vs k,e,DGet.k h1,?_⟩)⟩
  rcases h2.val (k:=k) with ⟨e1,e2⟩ | ⟨w,w',e1,e2,_⟩
  ·rw [e1,e2]; rfl
  ·rw [e1,e2]; rfl
 ·split at hz
  ·cases hz
   exact ⟨F,.non,_,sF,q,.inr (.inr (.inl ⟨_,_,rx.str,ry.str,rfl⟩))⟩
  ·cases hz
 ·split at hz
  ·cases hz
   rcases ry with r | ⟨p,rfl,r⟩
   ·cases r
   ·exact ⟨F,.non,_,sF,q,.inr (.inr (.inr ⟨_,p,_,_,rx.str,rfl,r,rfl⟩))⟩
  ·cases hz
 ·cases hz
theorem fD:OpQ ob X (rInQ X.prog X.w X.K false) inPV:=by
 refine b0 (P:=fun _ _ _ _=>True) fun F H v u x y z sF rx ry hz=>?_
 unfold inPV at hz
 split at hz
 case isFalse=>cases hz
 rename_i nx
 rw [aaF] at hz
 obtain ⟨b,hb,rfl⟩:=hz
 exact ⟨_,fun _=>.bl _,fun Q q=>qY sF (mX nx) rx ry hb Q q⟩
theorem cx:OpQ ob X (rInQ X.prog X.w X.K true) ninPV:=by
 refine b0 (P:=fun _ _ _ _=>True) fun F H v u x y z sF rx ry hz=>?_
 unfold ninPV at hz
 split at hz
 case isFalse=>cases hz
 rename_i nx
 rw [aaF] at hz
 obtain ⟨b,hb,rfl⟩:=hz
 exact ⟨_,fun _=>.bl _,fun Q q=>qY sF (mX nx) rx ry hb Q q⟩
end
end Q
namespace Q
open PySem L2 PyProof.Rows
inductive Vws (M:Md) (F H:Hp):List V->List PV->Prop where
 | nil:Vws M F H [] []
 | cons {v:V} {x:PV} {vs:List V} {xs:List PV}:Vw M F H v x->Vws M F H vs xs->Vws M F H (v::vs) (x::xs)
theorem Reps.vws {M:Md} {F H:Hp} {vs:List V} {xs:List PV} (h:Reps M.K F vs xs):Vws M F H vs xs:=by
 induction h using Reps.ind with
 | nil=>exact .nil
 | cons a _ ih=>exact .cons (.inl a) ih
theorem Vws.one {M:Md} {F H:Hp} {vs:List V} {x:PV} (h:Vws M F H vs [x]):∃ v,vs=[v]/\Vw M F H v x:=by
 cases h with
 | cons a r=>cases r; exact ⟨_,rfl,a⟩
theorem Vws.two {M:Md} {F H:Hp} {vs:List V} {x y:PV} (h:Vws M F H vs [x,y]):∃ v u,vs=[v,u]/\Vw M F H v x/\Vw M F H u y:=by
 cases h with
 | cons a r =>
  cases r with
  | cons b r=>cases r; exact ⟨_,_,rfl,a,b⟩
structure EvAW (ob:ObK) (X:Cx) (es:List Expr) (f:WA):Prop where
 ex:∃ t:TA,PA X es t/\∀ (Z:Zn) (F:Hp) (σ:L2.St) (H:Hp) (env:En) (P:List PV->En->Prop) (Q:List V->Hp->Prop),Sok (md ob X) Z F σ H env->f env P ->
  (∀ xs env' vs F' H',P xs env'->Same F F'->Sok (md ob X) Z F' σ H' env'->Vws (md ob X) F' H' vs xs->Q vs H')->t σ H Q
noncomputable def a1 (a:WE):WA:=fun env P=>a env fun x e=>P [x] e
noncomputable def eCB (o:List PV->Option PV) (fa:WA):WE:=fun env P=>fa env fun xs e=>opt (o xs) fun z=>P z e
section
variable {ob:ObK} {X:Cx} {a b c e:Expr} {es:List Expr} {f g h:WE} {fa:WA} {pos p:Pos} {x:Str} {idn T:String} {r:List V->Hp->VK->Prop} {o:List PV->Option PV}
theorem EvA.w (h:EvA ob X es fa):EvAW ob X es fa:=by
 obtain ⟨t,ht,k⟩:=h.ex
 exact ⟨t,ht,fun Z F σ H env P Q K hf kk=>k Z F σ H env P Q K hf fun xs e1 vs F1 H1 p _ s1 K1 r1=>kk xs e1 vs F1 H1 p s1 K1 r1.vws⟩
theorem bU (h:EvW ob X e f) (hs:autoParam (aan [e] X.env=(false,eval e X.env)::aan [] X.env) Z2._auto_1):EvAW ob X [e] (a1 f):=by
 obtain ⟨t,ht,k⟩:=h.ex
 exact ⟨_,bb ht bG hs,fun Z F σ H env P Q K hf kk=>k Z F σ H env _ _ K hf fun x e1 v F1 H1 p s1 K1 r1=>kk [x] e1 [v] F1 H1 p s1 K1 (.cons r1 .nil)⟩
noncomputable def CallQ (ob:ObK) (X:Cx) (r:List V->Hp->VK->Prop) (o:List PV->Option PV):Prop :=
 ∀ (Z:Zn) (F:Hp) (σ:L2.St) (H:Hp) (env:En) (vs:List V) (xs:List PV) (z:PV) (Q:VK),Sok (md ob X) Z F σ H env->Vws (md ob X) F H vs xs->o xs=some z ->
  (∀ v' F' H',Same F F'->Sok (md ob X) Z F' σ H' env->Rep X.K F' v' z->Q v' H')->r vs H Q
noncomputable def CallQF (ob:ObK) (X:Cx) (r:List V->Hp->VK->Prop) (o:List PV->Option PV):Prop :=
 ∀ (Z:Zn) (F:Hp) (σ:L2.St) (H:Hp) (env:En) (vs:List V) (xs:List PV) (z:PV) (Q:VK),Sok (md ob X) Z F σ H env->Vws (md ob X) F H vs xs->o xs=some z ->
  (∀ v' H',(∀ xs,z≠.set xs)->Sok (md ob X) Z F (σ++[some v']) H' (env++[some ⟨1,z⟩])->Q v' H')->r vs H Q
theorem qq {t:TA} (hq:CallQ ob X r o) (k:∀ (Z:Zn) (F:Hp) (σ:L2.St) (H:Hp) (env:En) (P:List PV->En->Prop) (Q:List V->Hp->Prop),Sok (md ob X) Z F σ H env->fa env P->(∀ xs env' vs F' H',P xs env'->Same F F'->Sok (md ob X) Z F' σ H' env'->Vws (md ob X) F' H' vs xs->Q vs H')->t σ H Q) :
  ∀ (Z:Zn) (F:Hp) (σ:L2.St) (H:Hp) (env:En) (P:PV->En->Prop) (Q:VK),Sok (md ob X) Z F σ H env->eCB o fa env P->(∀ x env' v F' H',P x env'->Same F F'->Sok (md ob X) Z F' σ H' env'->Rep X.K F' v x->Q v H')->tCB r t σ H Q:=by
 intro Z F σ H env P Q K hf kk
 refine k Z F σ H env _ _ K hf fun xs e1 vs F1 H1 p s1 K1 r1=>?_
 obtain ⟨z,hz,p⟩:=p
 exact hq Z F1 σ H1 e1 vs xs z Q K1 r1 hz fun v' F' H' s2 K2 r2=>kk z e1 v' F' H' p (ai s1 s2) K2 r2
theorem ue {t:TA} (hq:CallQF ob X r o) (k:∀ (Z:Zn) (F:Hp) (σ:L2.St) (H:Hp) (env:En) (P:List PV->En->Prop) (Q:List V->Hp->Prop),Sok (md ob X) Z F σ H env->fa env P->(∀ xs env' vs F' H',P xs env'->Same F F'->Sok (md ob X) Z F' σ H' env'->Vws (md ob X) F' H' vs xs->Q vs H')->t σ H Q) :
  ∀ (Z:Zn) (F:Hp) (σ:L2.St) (H:Hp) (env:En) (P:PV->En->Prop) (Q:VK),Sok (md ob X) Z F σ H env->eCB o fa env P->(∀ x env' v F' H',P x env'->Same F F'->(∀ xs,x≠.set xs)->Sok (md ob X) Z F' (σ++[some v]) H' (env'++[some ⟨1,x⟩])->Q v H')->tCB r t σ H Q:=by
 intro Z F σ H env P Q K hf kk
 refine k Z F σ H env _ _ K hf fun xs e1 vs F1 H1 p s1 K1 r1=>?_
 obtain ⟨z,hz,p⟩:=p
 exact hq Z F1 σ H1 e1 vs xs z Q K1 r1 hz fun v' H' hx K2=>kk z e1 v' F1 H' p s1 hx K2
theorem bi (hc:CallR X (.builtin idn) r) (hq:CallQ ob X r o) (hg:Gl X x) (hm:X.mg x=none) (hv:abZ x=some (.builtin idn)) (ha:EvAW ob X (e::es) fa) (hn:autoParam (x ≠ "__name__") Z1._auto_1) (hdb:autoParam ((x==("__debug__" : Str))=false) Z1._auto_1)
  (he:autoParam (aan (e::es) X.env=(false,eval e X.env)::aan es X.env) Z2._auto_1) (hpl:autoParam ((backTo pos (aan es X.env)).any (·.1)=false) Z2._auto_1):EvS ob X (.Call (.Name x p) (e::es) [] pos) (eCB o fa):=by
 obtain ⟨t,ht,k⟩:=ha.ex
 exact ⟨_,bC hc hg hm hv ht hn hdb he hpl,qq hq k⟩
theorem cR (hc:CallR X (.type T) r) (hq:CallQ ob X r o) (hg:Gl X x) (hm:X.mg x=none) (hv:abZ x=some (.type T)) (ha:EvAW ob X (e::es) fa) (hn:autoParam (x ≠ "__name__") Z1._auto_1) (hdb:autoParam ((x==("__debug__" : Str))=false) Z1._auto_1)
  (he:autoParam (aan (e::es) X.env=(false,eval e X.env)::aan es X.env) Z2._auto_1) (hpl:autoParam ((backTo pos (aan es X.env)).any (·.1)=false) Z2._auto_1):EvS ob X (.Call (.Name x p) (e::es) [] pos) (eCB o fa):=by
 obtain ⟨t,ht,k⟩:=ha.ex
 exact ⟨_,gI hc hg hm hv ht hn hdb he hpl,qq hq k⟩
theorem wZ (hc:CallR X (.type T) r) (hq:CallQF ob X r o) (hg:Gl X x) (hm:X.mg x=none) (hv:abZ x=some (.type T)) (ha:EvAW ob X (e::es) fa) (hn:autoParam (x ≠ "__name__") Z1._auto_1) (hdb:autoParam ((x==("__debug__" : Str))=false) Z1._auto_1)
  (he:autoParam (aan (e::es) X.env=(false,eval e X.env)::aan es X.env) Z2._auto_1) (hpl:autoParam ((backTo pos (aan es X.env)).any (·.1)=false) Z2._auto_1):EvF ob X (.Call (.Name x p) (e::es) [] pos) (eCB o fa):=by
 obtain ⟨t,ht,k⟩:=ha.ex
 exact ⟨_,gI hc hg hm hv ht hn hdb he hpl,ue hq k⟩
theorem Vw.scr {M:Md} {F H:Hp} {v:V} {ns:List Int} (h:Vw M F H v (.scr ns)) (s:Same F H):∃ a,v=.ref a/\SqL M.K H a (ns.map V.int):=by
 rcases h with h | ⟨a,rfl,h⟩
 ·cases h with
  | scr h=>exact ⟨_,rfl,dL s h.sq⟩
 ·exact h.elim
noncomputable def lenPV:List PV->Option PV
 | [.lst xs]=>some (.int xs.length)
 | [.tup xs]=>some (.int xs.length)
 | [.dic xs]=>some (.int xs.length)
 | [.str s]=>if s.length<=100000 then some (.int s.length) else none
 | [.scr ns]=>some (.int ns.length)
 | _=>none
noncomputable def rLen (K:aad):List V->Hp->VK->Prop:=fun xs H Q=>(∃ p ys,xs=[.ref p]/\(SqL K H p ys\/SqT K H p ys)/\Q (.int ys.length) H)\/((∃ z,xs=[.str z]/\z.length<=sizeLine/\Q (.int z.length) H)\/∃ a kvs,xs=[V.ref a]/\H a=some (.dK kvs)/\Q (.int kvs.length) H)
theorem bn:CallR X (.builtin "len") (rLen X.K):=CallR.or gY (CallR.or nH rM)
theorem bp:CallQ ob X (rLen X.K) lenPV:=by
 intro Z F σ H env vs xs z Q K rv hz k
 unfold lenPV at hz
 split at hz
 ·cases hz
  obtain ⟨v,rfl,r⟩:=rv.one
  obtain ⟨p,vs,rfl,h1,h2⟩:=r.lst K.sF
  exact .inl ⟨p,vs,rfl,.inl (.inl (.inl h1)),k _ F H am K (by rw [h2.len]; exact .int _)⟩
 ·cases hz
  obtain ⟨v,rfl,r⟩:=rv.one
  obtain ⟨p,vs,rfl,h1,h2⟩:=r.tup K.sF
  exact .inl ⟨p,vs,rfl,.inr h1,k _ F H am K (by rw [h2.len]; exact .int _)⟩
 ·cases hz
  obtain ⟨v,rfl,r⟩:=rv.one
  obtain ⟨p,vs,rfl,h1,h2⟩:=r.dic K.sF
  exact .inr (.inr ⟨p,vs,rfl,h1,k _ F H am K (by rw [h2.len]; exact .int _)⟩)
 ·split at hz
  ·cases hz
   obtain ⟨v,rfl,r⟩:=rv.one
   rw [r.str]
   exact .inr (.inl ⟨_,rfl,by rw [aaA]; omega,k _ F H am K (.int _)⟩)
  ·cases hz
 ·cases hz
  obtain ⟨v,rfl,r⟩:=rv.one
  obtain ⟨p,rfl,h1⟩:=r.scr K.sF
  exact .inl ⟨p,_,rfl,.inl h1,k _ F H am K (by rw [aae]; exact .int _)⟩
 ·cases hz
noncomputable def bq:List PV->Option PV
 | [.lst xs]=>some (.tup xs)
 | [.tup xs]=>some (.tup xs)
 | _=>none
noncomputable def rTuple (K:aad):List V->Hp->VK->Prop:=fun xs H Q=>∃ p ys,xs=[.ref p]/\((SqL K H p ys/\∀ l,H l=none->Q (.ref l) (upd H l (.tup ys)))\/(SqT K H p ys/\Q (.ref p) H))
theorem bt:CallR X (.type "tuple") (rTuple X.K):=mi
theorem bu:CallQ ob X (rTuple X.K) bq:=by
 intro Z F σ H env vs xs z Q K rv hz k
 unfold bq at hz
 split at hz
 ·cases hz
  obtain ⟨v,rfl,r⟩:=rv.one
  obtain ⟨p,vs,rfl,h1,h2⟩:=r.lst K.sF
  refine ⟨p,vs,rfl,.inl ⟨.inl (.inl h1),fun l hl=>?_⟩⟩
  have hF:F l=none:=Same.none_of K.sF hl
  exact k _ _ _ (az hF) (K.lay hl) (.tup (.inl (.inl ao)) (h2.mono (az hF)))
 ·cases hz
  obtain ⟨v,rfl,r⟩:=rv.one
  have r':=r.tupR
  obtain ⟨p,vs,rfl,h1,h2⟩:=r.tup K.sF
  exact ⟨p,vs,rfl,.inr ⟨h1,k _ F H am K r'⟩⟩
 ·cases hz
noncomputable def listPV:List PV->Option PV
 | [.lst xs]=>some (.lst xs)
 | [.tup xs]=>some (.lst xs)
 | [.scr ns]=>some (.lst (ns.map .int))
 | _=>none
noncomputable def rList (K:aad):List V->Hp->VK->Prop:=fun xs H Q=>∃ p ys,xs=[.ref p]/\(SqL K H p ys\/SqT K H p ys)/\∀ l,H l=none->Q (.ref l) (upd H l (.lst ys))
theorem vm:CallR X (.type "list") (rList X.K):=nG
theorem eR {K:aad} {F:Hp}:∀ (ns:List Int),Reps K F (ns.map V.int) (ns.map PV.int)
 | []=>.nil
 | n::ns=>.cons (.int n) (eR ns)
theorem vp:CallQF ob X (rList X.K) listPV:=by
 intro Z F σ H env vs xs z Q K rv hz k
 unfold listPV at hz
 split at hz
 ·cases hz
  obtain ⟨v,rfl,r⟩:=rv.one
  obtain ⟨p,vs,rfl,h1,h2⟩:=r.lst K.sF
  exact ⟨p,vs,rfl,.inl (.inl (.inl h1)),fun l hl=>k _ _ (fun _=>by simp) (K.own hl ⟨vs,ao,h2⟩)⟩
 ·cases hz
  obtain ⟨v,rfl,r⟩:=rv.one
  obtain ⟨p,vs,rfl,h1,h2⟩:=r.tup K.sF
  exact ⟨p,vs,rfl,.inr h1,fun l hl=>k _ _ (fun _=>by simp) (K.own hl ⟨vs,ao,h2⟩)⟩
 ·cases hz
  obtain ⟨v,rfl,r⟩:=rv.one
  obtain ⟨p,rfl,h1⟩:=r.scr K.sF
  exact ⟨p,_,rfl,.inl h1,fun l hl=>k _ _ (fun _=>by simp) (K.own hl ⟨_,ao,eR _⟩)⟩
 ·cases hz
noncomputable def minPV:List PV->Option PV
 | [.int i,.int j]=>some (.int (if j<i then j else i))
 | [.str s,.str t]=>some (.str (minS s t))
 | _=>none
noncomputable def maxPV:List PV->Option PV
 | [.int i,.int j]=>some (.int (if j > i then j else i))
 | [.str s,.str t]=>some (.str (maxS s t))
 | _=>none
theorem xc (hc:X.calm=true):CallR X (.builtin "min") (fun xs H Q=>(∃ i j,xs=[.int i,.int j]/\Q (.int (if j<i then j else i)) H)\/∃ x y,xs=[.str x,.str y]/\Q (.str (minS x y)) H):=CallR.or (rK hc) (pX hc)
theorem rH (hc:X.calm=true):CallR X (.builtin "max") (fun xs H Q=>(∃ i j,xs=[.int i,.int j]/\Q (.int (if j > i then j else i)) H)\/∃ x y,xs=[.str x,.str y]/\Q (.str (maxS x y)) H):=CallR.or (rL hc) (pY hc)
theorem xg:CallQ ob X (fun xs H Q=>(∃ i j,xs=[.int i,.int j]/\Q (.int (if j<i then j else i)) H)\/∃ x y,xs=[.str x,.str y]/\Q (.str (minS x y)) H) minPV:=by
 intro Z F σ H env vs xs z Q K rv hz k
 unfold minPV at hz
 split at hz
 ·cases hz
  obtain ⟨v,u,rfl,r1,r2⟩:=rv.two
  rw [r1.int,r2.int]
  exact .inl ⟨_,_,rfl,k _ F H am K (.int _)⟩
 ·cases hz
  obtain ⟨v,u,rfl,r1,r2⟩:=rv.two
  rw [r1.str,r2.str]
  exact .inr ⟨_,_,rfl,k _ F H am K (.str _)⟩
 ·cases hz
theorem rJ:CallQ ob X (fun xs H Q=>(∃ i j,xs=[.int i,.int j]/\Q (.int (if j > i then j else i)) H)\/∃ x y,xs=[.str x,.str y]/\Q (.str (maxS x y)) H) maxPV:=by
 intro Z F σ H env vs xs z Q K rv hz k
 unfold maxPV at hz
 split at hz
 ·cases hz
  obtain ⟨v,u,rfl,r1,r2⟩:=rv.two
  rw [r1.int,r2.int]
  exact .inl ⟨_,_,rfl,k _ F H am K (.int _)⟩
 ·cases hz
  obtain ⟨v,u,rfl,r1,r2⟩:=rv.two
  rw [r1.str,r2.str]
  exact .inr ⟨_,_,rfl,k _ F H am K (.str _)⟩
 ·cases hz
noncomputable def intPV:PV->Option Int
 | .int i=>some i
 | _=>none
noncomputable def strPV:PV->Option Str
 | .str i=>some i
 | _=>none
theorem cZ {α:Type} {K:aad} {F:Hp} {g:PV->Option α} {w:α->V} (hg:∀ x a,g x=some a->∀ v,Rep K F v x->v=w a):∀ {xs:List PV} {as:List α} {vs:List V},xs.mapM g=some as->Reps K F vs xs->vs=as.map w
 | [],as,vs,h,r=>by simp at h; subst h; cases r; rfl
 | x::xs,as,vs,h,r=>by
  rw [abw] at h
  cases ea:g x with
  | none=>rw [ea] at h; cases h
  | some a =>
   rw [ea] at h
   cases el:xs.mapM g with
   | none=>rw [el] at h; cases h
   | some bs =>
    rw [el] at h
    have h:some (a::bs)=some as:=h
    cases h
    cases r with
    | cons r1 r2=>rw [aao,hg x a ea _ r1,cZ hg el r2]
noncomputable def allPV:List PV->Option PV
 | [.lst xs]=>(xs.mapM blPV).map fun bs=>.bl (bs.all id)
 | _=>none
theorem xl {K:aad} {F:Hp} (x:PV) (a:Bool) (h:blPV x=some a) (v:V) (r:Rep K F v x):v=.bl a:=by cases x <;> cases h; cases r; rfl
theorem hJ {K:aad} {F:Hp} (x:PV) (a:Str) (h:strPV x=some a) (v:V) (r:Rep K F v x):v=.str a:=by cases x <;> cases h; cases r; rfl
theorem xh:CallQ ob X (fun xs H Q=>∃ (p:Addr) (bs:List Bool),xs=[.ref p]/\SqL X.K H p (bs.map V.bl)/\Q (.bl (bs.all id)) H) allPV:=by
 intro Z F σ H env vs xs z Q K rv hz k
 unfold allPV at hz
 split at hz
 ·rw [aaF] at hz
  obtain ⟨ns,hn,rfl⟩:=hz
  obtain ⟨v,rfl,r⟩:=rv.one
  obtain ⟨p,vs,rfl,h1,h2⟩:=r.lst K.sF
  have:=cZ xl hn h2
  subst this
  exact ⟨p,ns,rfl,.inl (.inl h1),k _ F H am K (.bl _)⟩
 ·cases hz
noncomputable abbrev WO:=En->(Option Int->En->Prop)->Prop
structure EvO (ob:ObK) (X:Cx) (e:Option Expr) (f:WO):Prop where
 ex:∃ t:TO,PO X e t/\∀ (Z:Zn) (F:Hp) (σ:L2.St) (H:Hp) (env:En) (P:Option Int->En->Prop) (Q:Option Int->Hp->Prop),Sok (md ob X) Z F σ H env->f env P ->
  (∀ i env' F' H',P i env'->Same F F'->Sok (md ob X) Z F' σ H' env'->Q i H')->t σ H Q
noncomputable def oNone:WO:=fun env P=>P none env
noncomputable def oSome (a:WE):WO:=fun env P=>a env fun x e=>opt (intPV x) fun i=>P (some i) e
theorem cD:EvO ob X none oNone:=⟨_,ku,fun Z F σ H env P Q K hf k=>k none env F H hf am K⟩
theorem cC (h:EvW ob X e f):EvO ob X (some e) (oSome f):=by
 obtain ⟨t,ht,k⟩:=h.ex
 refine ⟨_,ko ht,fun Z F σ H env P Q K hf kk=>k Z F σ H env _ _ K hf fun x e1 v F1 H1 p s1 K1 r1=>?_⟩
 obtain ⟨z,hz,p⟩:=p
 cases x <;> cases hz
 rw [r1.int]
 exact ⟨_,rfl,kk _ e1 F1 H1 p s1 K1⟩
noncomputable def cutP {α:Type} (xs:List α) (lo hi:Option Int):List α:=(xs.drop (HT.sIx xs.length 0 lo)).take (HT.sIx xs.length xs.length hi - HT.sIx xs.length 0 lo)
noncomputable def slPV:PV->Option Int->Option Int->Option PV
 | .lst xs,lo,hi=>some (.lst (cutP xs lo hi))
 | .tup xs,lo,hi=>some (.tup (cutP xs lo hi))
 | .scr ns,lo,hi=>some (.lst ((cutP ns lo hi).map .int))
 | _,_,_=>none
noncomputable def eSl (a:WE) (lo hi:WO):WE:=fun env P=>a env fun x e1=>lo e1 fun l e2=>hi e2 fun u e3=>opt (slPV x l u) fun z=>P z e3
theorem nz {K:aad} {F:Hp} {vs:List V} {xs:List PV} {lo hi:Option Int} (r:Reps K F vs xs):Reps K F (cutV vs lo hi) (cutP xs lo hi):=by
 unfold cutV cutP
 rw [r.len]
 exact (r.drop _).take _
theorem vk {ns:List Int} {lo hi:Option Int}:cutV (ns.map V.int) lo hi=(cutP ns lo hi).map V.int:=by
 unfold cutV cutP
 rw [aae,ael,List.map_drop]
theorem Rep.vw {M:Md} {F H:Hp} {v:V} {x:PV} (h:Rep M.K F v x):Vw M F H v x:=.inl h
theorem e7 {l u:Option Expr} {lo hi:WO} {p2:Pos} (ha:EvS ob X a f) (hl:EvO ob X l lo) (hu:EvO ob X u hi):EvS ob X (.Subscript a (.Slice l u none p2) pos) (eSl f lo hi):=by
 obtain ⟨t,ht,k⟩:=ha.ex
 obtain ⟨t1,ht1,k1⟩:=hl.ex
 obtain ⟨t2,ht2,k2⟩:=hu.ex
 refine ⟨_,i8 (SlR.or j6 ua) ht ht1 ht2,fun Z F σ H env P Q K hf kk=>k Z F σ H env _ _ K hf fun x e1 v F1 H1 p s1 K1 r1=>?_⟩
 refine k1 Z F1 σ H1 e1 _ _ K1 p fun i e2 F2 H2 p2 s2 K2=>k2 Z F2 σ H2 e2 _ _ K2 p2 fun j e3 F3 H3 p3 s3 K3=>?_
 obtain ⟨z,hz,p3⟩:=p3
 have r3:=(r1.mono s2).mono s3
 have s4:=ai s1 (ai s2 s3)
 have r3':Vw (md ob X) F3 H3 v x:=.inl r3
 cases x <;> simp only [slPV] at hz <;> cases hz
 ·obtain ⟨q,vs,rfl,h1,h2⟩:=r3'.tup K3.sF
  refine .inr ⟨q,vs,rfl,h1,fun hw=>kk _ e3 _ F3 H3 p3 s4 K3 ?_,fun l hl=>?_⟩
  ·have:cutP (α:=PV) ‹_› i j=‹List PV›:=by
    unfold cutP
    rw [<- h2.len,hw.1,hw.2]
    simp [h2.len]
   rw [this]; exact r3
  ·have hF:F3 l=none:=Same.none_of K3.sF hl
   exact kk _ e3 _ _ _ p3 (ai s4 (az hF)) (K3.lay hl) (.tup (.inl (.inl ao)) ((nz h2).mono (az hF)))
 ·obtain ⟨q,vs,rfl,h1,h2⟩:=r3'.lst K3.sF
  refine .inl ⟨q,vs,rfl,.inl (.inl h1),fun l hl=>?_⟩
  have hF:F3 l=none:=Same.none_of K3.sF hl
  exact kk _ e3 _ _ _ p3 (ai s4 (az hF)) (K3.lay hl) (.lst ao ((nz h2).mono (az hF)))
 ·obtain ⟨q,rfl,h1⟩:=r3'.scr K3.sF
  refine .inl ⟨q,_,rfl,h1,fun l hl=>?_⟩
  have hF:F3 l=none:=Same.none_of K3.sF hl
  exact kk _ e3 _ _ _ p3 (ai s4 (az hF)) (K3.lay hl) (.lst (by rw [ao,vk]) (eR _))
end
end Q
namespace Q
open PySem L2 PyProof.Rows
structure Lds (M:Md) (Z:Zn) (F:Hp) (P:Wd) (D:Ends):Prop where
 nx:∀ env σ F' H,P.nx env->Same F F'->Sok M Z F' σ H env->D.nx σ H
 rt:∀ x env v σ F' H,P.rt x env->Same F F'->Sok M Z F' σ H env->Rep M.K F' v x->D.rt v H
 bk:∀ env σ F' H,P.bk env->Same F F'->Sok M Z F' σ H env->D.bk σ H
 ct:∀ env σ F' H,P.ct env->Same F F'->Sok M Z F' σ H env->D.ct σ H
 rf:∀ x env v σ F' H,P.rf x env->Same F F'->(∀ xs,x≠.set xs)->Sok M Z F' (σ++[some v]) H (env++[some ⟨1,x⟩])->D.rt v H
 ro:∀ x i env v σ F' H,P.ro x i env->Same F F'->Sok M Z F' σ H env->env[i]?=some (some ⟨4,x⟩)->σ[i]?=some (some v)->D.rt v H
theorem Lds.mono {M:Md} {Z:Zn} {F F1:Hp} {P:Wd} {D:Ends} (h:Lds M Z F P D) (s:Same F F1):Lds M Z F1 P D :=
 ⟨fun e σ F' H p q=>h.nx e σ F' H p (ai s q),fun x e v σ F' H p q=>h.rt x e v σ F' H p (ai s q),fun e σ F' H p q=>h.bk e σ F' H p (ai s q),fun e σ F' H p q=>h.ct e σ F' H p (ai s q),fun x e v σ F' H p q=>h.rf x e v σ F' H p (ai s q),fun x i e v σ F' H p q=>h.ro x i e v σ F' H p (ai s q)⟩
structure EvX (ob:ObK) (X:Cx) (st:Stmt) (f:WS):Prop where
 ex:∃ t:TS,PS X st t/\∀ (Z:Zn) (F:Hp) (σ:L2.St) (H:Hp) (env:En) (P:Wd) (D:Ends),Sok (md ob X) Z F σ H env->f P env->Lds (md ob X) Z F P D->t D σ H
structure EvXs (ob:ObK) (X:Cx) (st:List Stmt) (f:WS):Prop where
 ex:∃ t:TS,PSs X st t/\∀ (Z:Zn) (F:Hp) (σ:L2.St) (H:Hp) (env:En) (P:Wd) (D:Ends),Sok (md ob X) Z F σ H env->f P env->Lds (md ob X) Z F P D->t D σ H
noncomputable abbrev WG:=PV->En->(En->Prop)->Prop
structure EvG (ob:ObK) (X:Cx) (tg:Expr) (f:WG):Prop where
 ex:∃ t:TG,PG X tg t/\∀ (Z:Zn) (F:Hp) (σ:L2.St) (H:Hp) (env:En) (v:V) (x:PV) (P:En->Prop) (Q:L2.St->Hp->Prop),Sok (md ob X) Z F σ H env->Rep X.K F v x->f x env P ->
  (∀ env' σ' F' H',P env'->Same F F'->Sok (md ob X) Z F' σ' H' env'->Q σ' H')->t v σ H Q
noncomputable abbrev WGs:=List PV->En->(En->Prop)->Prop
structure EvGs (ob:ObK) (X:Cx) (tgs:List Expr) (f:WGs):Prop where
 ex:∃ t:TGs,PGs X tgs t/\∀ (Z:Zn) (F:Hp) (σ:L2.St) (H:Hp) (env:En) (vs:List V) (xs:List PV) (P:En->Prop) (Q:L2.St->Hp->Prop),Sok (md ob X) Z F σ H env->Reps X.K F vs xs->f xs env P ->
  (∀ env' σ' F' H',P env'->Same F F'->Sok (md ob X) Z F' σ' H' env'->Q σ' H')->t vs σ H Q
noncomputable def sSeq (a b:WS):WS:=fun P env=>a { P with nx:=b P } env
noncomputable def sNil:WS:=fun P env=>P.nx env
noncomputable def sRet (a:WE):WS:=fun P env=>a env P.rt
noncomputable def sDrop (a:WE):WS:=fun P env=>a env fun _ e=>P.nx e
noncomputable def sIf (c:WT) (a b:WS):WS:=fun P env=>c env fun k e=>if k=true then a P e else b P e
noncomputable def sSet (i:Nat) (a:WE):WS:=fun P env=>a env fun x e=>P.nx (e.set i (some ⟨0,x⟩))
noncomputable def sSetO (i:Nat) (a:WE):WS:=fun P env=>a env fun x e=>P.nx (e.set i (some ⟨1,x⟩))
noncomputable def gN (i:Nat):WG:=fun x env P=>P (env.set i (some ⟨0,x⟩))
noncomputable def gsNil:WGs:=fun xs env P=>xs=[]/\P env
noncomputable def gsCons (g:WG) (r:WGs):WGs:=fun xs env P=>match xs with
 | []=>False
 | x::xs=>g x env fun e=>r xs e P
noncomputable def gT (r:WGs):WG:=fun x env P=>match x with
 | .tup xs=>r xs env P
 | _=>False
noncomputable def sAsg (a:WE) (g:WG):WS:=fun P env=>a env fun x e=>g x e P.nx
noncomputable def sPar (i j:Nat) (a:WA):WS:=fun P env=>a env fun xs e=>match xs with
 | [x,y]=>P.nx ((e.set i (some ⟨0,x⟩)).set j (some ⟨0,y⟩))
 | _=>False
section
variable {ob:ObK} {X:Cx} {a b c e tg:Expr} {st:Stmt} {sts:List Stmt} {es:List Expr} {f g h:WE} {fa:WA} {pos p:Pos} {u v:WS} {t:WT}
theorem aE:EvXs ob X [] sNil:=⟨_,oG,fun Z F σ H env P D K hf L=>L.nx env σ F H hf am K⟩
theorem ag (h1:EvX ob X st u) (h2:EvXs ob X sts v):EvXs ob X (st::sts) (sSeq u v):=by
 obtain ⟨t1,ht1,k1⟩:=h1.ex
 obtain ⟨t2,ht2,k2⟩:=h2.ex
 refine ⟨_,bQ ht1 ht2,fun Z F σ H env P D K hf L=>k1 Z F σ H env _ _ K hf ⟨fun e σ' F' H' p s K'=>?_,L.rt,L.bk,L.ct,L.rf,L.ro⟩⟩
 exact k2 Z F' σ' H' e P D K' p (L.mono s)
theorem ap (h1:EvX ob X st u):EvXs ob X [st] u:=by
 obtain ⟨t1,ht1,k1⟩:=h1.ex
 exact ⟨t1,da ht1,k1⟩
theorem ay (h:EvS ob X e f):EvX ob X (.Return (some e) pos) (sRet f):=by
 obtain ⟨t,ht,k⟩:=h.ex
 exact ⟨_,gH ht,fun Z F σ H env P D K hf L=>k Z F σ H env _ _ K hf fun x e1 v F1 H1 p s1 K1 r1=>L.rt x e1 v σ F1 H1 p s1 K1 r1⟩
theorem fJ (h:EvW ob X e f) (hs:autoParam (acp e none pos.line X.env=pure false) Z2._auto_1):EvX ob X (.Expr e pos) (sDrop f):=by
 obtain ⟨t,ht,k⟩:=h.ex
 exact ⟨_,oH ht hs,fun Z F σ H env P D K hf L=>k Z F σ H env _ _ K hf fun x e1 v F1 H1 p s1 K1 r1=>L.nx e1 σ F1 H1 p s1 K1⟩
theorem aK {s1 s2:List Stmt} (hc:EvT ob X c t) (ha:EvXs ob X s1 u) (hb:EvXs ob X s2 v):EvX ob X (.If c s1 s2 pos) (sIf t u v):=by
 obtain ⟨w,hw,k⟩:=hc.ex
 obtain ⟨ta,ha,ka⟩:=ha.ex
 obtain ⟨tb,hb,kb⟩:=hb.ex
 refine ⟨_,tJ hw ha hb,fun Z F σ H env P D K hf L=>k Z F σ H env _ _ K hf fun x e1 F1 H1 p s1 K1=>?_⟩
 cases x with
 | true=>exact iteT (ka Z F1 σ H1 e1 P D K1 p (L.mono s1))
 | false=>exact iteF (kb Z F1 σ H1 e1 P D K1 p (L.mono s1))
theorem aC (i:Nat) {x:Str} {pos':Pos} (hN:X.N.Nodup) (hi:X.N[i]?=some x) (hx:Loc X.env.scope x) (he:EvS ob X e f) (hs:autoParam (acp e (some (.Name x pos')) pos.line X.env=pure false) Z2._auto_1) (hf:autoParam (X.fn x=true\/X.env.scope.names.lookup x=some .local) Z0._auto_1) :
  EvX ob X (.Assign [.Name x pos'] e pos) (sSet i f):=by
 obtain ⟨t,ht,k⟩:=he.ex
 exact ⟨_,dZ hN hi hx ht hs hf,fun Z F σ H env P D K hf L=>k Z F σ H env _ _ K hf fun x e1 v F1 H1 p s1 K1 r1=>L.nx _ _ F1 H1 p s1 (K1.put r1)⟩
theorem ij (i:Nat) {x:Str} {pos':Pos} (hN:X.N.Nodup) (hi:X.N[i]?=some x) (hx:Loc X.env.scope x) (he:EvF ob X e f) (hs:autoParam (acp e (some (.Name x pos')) pos.line X.env=pure false) Z2._auto_1) (hf:autoParam (X.fn x=true\/X.env.scope.names.lookup x=some .local) Z0._auto_1) :
  EvX ob X (.Assign [.Name x pos'] e pos) (sSetO i f):=by
 obtain ⟨t,ht,k⟩:=he.ex
 exact ⟨_,dZ hN hi hx ht hs hf,fun Z F σ H env P D K hf L=>k Z F σ H env _ _ K hf fun x e1 v F1 H1 p s1 _ K1=>L.nx _ _ F1 H1 p s1 K1.take⟩
theorem aU (i:Nat) {x:Str} (hN:X.N.Nodup) (hi:X.N[i]?=some x) (hx:Loc X.env.scope x) (hf:autoParam (X.fn x=true\/X.env.scope.names.lookup x=some .local) Z0._auto_1):EvG ob X (.Name x pos) (gN i) :=
 ⟨_,aM hN hi hx hf,fun Z F σ H env v x P Q K r hf k=>k _ _ F H hf am (K.put r)⟩
theorem fR:EvGs ob X [] gsNil:=⟨_,oJ,fun Z F σ H env vs xs P Q K r hf k=>by obtain ⟨rfl,hf⟩:=hf; cases r; exact ⟨rfl,k env σ F H hf am K⟩⟩
theorem bc {g:WG} {r:WGs} (h1:EvG ob X e g) (h2:EvGs ob X es r) (hs:autoParam ((aci (e::es) X.env).map (·.2)=assign e X.env::(aci es X.env).map (·.2)) Z2._auto_1):EvGs ob X (e::es) (gsCons g r):=by
 obtain ⟨t1,ht1,k1⟩:=h1.ex
 obtain ⟨t2,ht2,k2⟩:=h2.ex
 refine ⟨_,i7 ht1 ht2 hs,fun Z F σ H env vs xs P Q K r hf k=>?_⟩
 cases r with
 | nil=>exact hf.elim
 | cons r1 r2 =>
  refine ⟨_,_,rfl,k1 Z F σ H env _ _ _ _ K r1 hf fun e1 σ1 F1 H1 p s1 K1=>?_⟩
  exact k2 Z F1 σ1 H1 e1 _ _ P Q K1 (r2.mono s1) p fun e2 σ2 F2 H2 p2 s2 K2=>k e2 σ2 F2 H2 p2 (ai s1 s2) K2
theorem gU {r:WGs} {k:Nat} {n:Nat} (hc:X.calm=true) (h:EvGs ob X es r) (hl:∀ xs env P,r xs env P->xs.length=n) (hn:autoParam ((aci es X.env).length=n) Z2._auto_1) (hst:autoParam ((aci es X.env).findIdx? (·.1)=none) Z2._auto_1):EvG ob X (.Tuple es k pos) (gT r):=by
 obtain ⟨t,ht,kk⟩:=h.ex
 refine ⟨_,qB hc ht hn hst,fun Z F σ H env v x P Q K r hf k=>?_⟩
 unfold gT at hf
 split at hf
 ·have hl:=hl _ _ _ hf
  cases r with
  | tup h1 h2=>exact ⟨_,_,rfl,aA K.sF h1,by rw [h2.len]; exact hl,kk Z F σ H env _ _ P Q K h2 hf k⟩
 ·exact hf.elim
theorem gM:∀ xs env P,gsNil xs env P->xs.length=0:=fun xs env P h=>by obtain ⟨rfl,_⟩:=h; rfl
theorem br {i:Nat} {r:WGs} {n:Nat} (h:∀ xs env P,r xs env P->xs.length=n):∀ xs env P,gsCons (gN i) r xs env P->xs.length=n+1:=fun xs env P q=>by
 cases xs with
 | nil=>exact q.elim
 | cons x xs=>exact congrArg (·+1) (h _ _ _ q)
theorem jW {g:WG} (he:EvS ob X e f) (hg:EvG ob X tg g) (hs:autoParam (aec [tg] e pos.line X.env=pure false) Z2._auto_1) (hw:autoParam (aed [tg] e X.env=pure none) Z2._auto_1)
  (h1:autoParam ((aci [tg] X.env).map (·.2)=[assign tg X.env]) Z2._auto_1):EvX ob X (.Assign [tg] e pos) (sAsg f g):=by
 obtain ⟨t,ht,k⟩:=he.ex
 obtain ⟨t1,ht1,k1⟩:=hg.ex
 refine ⟨_,mN ht ht1 hs hw h1,fun Z F σ H env P D K hf L=>k Z F σ H env _ _ K hf fun x e1 v F1 H1 p s1 K1 r1=>?_⟩
 exact k1 Z F1 σ H1 e1 v x _ _ K1 r1 p fun e2 σ2 F2 H2 p2 s2 K2=>L.nx e2 σ2 F2 H2 p2 (ai s1 s2) K2
theorem wW (i j:Nat) {x y:Str} {px py pt:Pos} {kt k2 pt2} (hc:X.calm=true) (hN:X.N.Nodup) (hi:X.N[i]?=some x) (hj:X.N[j]?=some y) (hij:i≠j)
  (hx:X.env.scope.names.lookup x=some .local) (hy:X.env.scope.names.lookup y=some .local) (ha:EvA ob X [a,b] fa)
  (hw:aed [.Tuple [.Name x px,.Name y py] kt pt] (.Tuple [a,b] k2 pt2) X.env=pure (some [x,y]))
  (hs:autoParam (aec [.Tuple [.Name x px,.Name y py] kt pt] (.Tuple [a,b] k2 pt2) pos.line X.env=pure false) Z2._auto_1) :
  EvX ob X (.Assign [.Tuple [.Name x px,.Name y py] kt pt] (.Tuple [a,b] k2 pt2) pos) (sPar i j fa):=by
 obtain ⟨t,ht,k⟩:=ha.ex
 refine ⟨_,vU hc hN hi hj hij hx hy ht hw hs,fun Z F σ H env P D K hf L=>k Z F σ H env _ _ K hf fun xs e1 vs F1 H1 p hl s1 K1 r1=>?_⟩
 cases r1 with
 | nil=>cases hl
 | cons r1 r2=>cases r2 with
  | nil=>cases hl
  | cons r2 r3=>cases r3 with
   | nil=>exact ⟨_,_,rfl,L.nx _ _ F1 H1 p s1 ((K1.put r1).put r2)⟩
   | cons=>simp at hl
structure ItOk (M:Md) (J:It) (F:Hp) (xs:List PV):Prop where
 go:∀ (Z:Zn) (i:Nat) (σ:L2.St) (env:En) (F' H:Hp) (x:PV),Same F F'->Sok M Z F' σ H env->xs[i]?=some x->J.go i H/\∀ v H',J.yld i H v H'->∃ F'',Same F' F''/\Sok M Z F'' σ H' env/\Rep M.K F'' v x/\Same H H'/\∀ a,F'' a≠none->F' a≠none\/H a=none
 stop:∀ (Z:Zn) (i:Nat) (σ:L2.St) (env:En) (F' H:Hp),Same F F'->Sok M Z F' σ H env->xs.length<=i->J.stop i H
structure EvI (ob:ObK) (X:Cx) (tg it:Expr) (f:WA):Prop where
 ex:∃ wi:TI,PI X tg it wi/\∀ (Z:Zn) (F:Hp) (σ:L2.St) (H:Hp) (env:En) (P:List PV->En->Prop) (R:It->Hp->Prop),Sok (md ob X) Z F σ H env->f env P ->
  (∀ xs env' J F' H',P xs env'->Same F F'->Sok (md ob X) Z F' σ H' env'->ItOk (md ob X) J F' xs->R J H')->wi σ H R
theorem wQ {M:Md} {F:Hp} {a:Addr} {vs:List V} {xs:List PV} (h:F a=some (.lst vs)) (r:Reps M.K F vs xs):ItOk M (Itl M.K a) F xs:=by
 refine ⟨fun Z i σ env F' H x s K e=>?_,fun Z i σ env F' H s K hl=>⟨vs,.inl (.inl (K.sF _ _ (s _ _ h))),by rw [r.len]; exact hl⟩⟩
 obtain ⟨v,hv,rv⟩:=r.get e
 have hH:SqL M.K H a vs:=.inl (.inl (K.sF _ _ (s _ _ h)))
 refine ⟨⟨vs,v,hH,hv⟩,fun v' H' y=>?_⟩
 obtain ⟨rfl,y⟩:=y
 have:=y vs hH
 rw [hv] at this; cases this
 exact ⟨F',am,K,rv.mono s,am,fun _ h=>.inl h⟩
theorem wN {M:Md} {F:Hp} {a:Addr} {vs:List V} {xs:List PV} (h:SqT M.K F a vs) (r:Reps M.K F vs xs):ItOk M (Itt M.K a) F xs:=by
 refine ⟨fun Z i σ env F' H x s K e=>?_,fun Z i σ env F' H s K hl=>⟨vs,aA K.sF (aA s h),by rw [r.len]; exact hl⟩⟩
 obtain ⟨v,hv,rv⟩:=r.get e
 have hH:SqT M.K H a vs:=aA K.sF (aA s h)
 refine ⟨⟨vs,v,hH,hv⟩,fun v' H' y=>?_⟩
 obtain ⟨rfl,y⟩:=y
 have:=y vs hH
 rw [hv] at this; cases this
 exact ⟨F',am,K,rv.mono s,am,fun _ h=>.inl h⟩
noncomputable def iSeq (K:aad) (tl:TE):TI:=fun σ H R=>tl σ H fun x H1=>∃ a,x=.ref a/\(((∃ xs,SqL K H1 a xs)/\R (Itl K a) H1)\/((∃ xs,SqT K H1 a xs)/\R (Itt K a) H1))
theorem vY {l:Expr} {tl:TE} (hl:PE X l tl):PI X tg l (iSeq X.K tl):=by
 intro pins s σ H R I h
 refine thn (hl pins s σ H _ I h) fun v s1 ⟨x,H1,I1,r1,q1⟩=>?_
 obtain ⟨a,e,q⟩:=q1
 subst e
 cases r1
 rcases q with ⟨⟨xs,hq⟩,q⟩ | ⟨⟨xs,hq⟩,q⟩
 ·obtain ⟨its,rv,p,hz⟩:=I1.list hq
  refine adk p.isList ?_
  refine ⟨s1.heap.objs.size,[s1.heap.objs.size],_,_,H1,rfl,I1.kept (t':=s1.toks) fun b o e=>aac _ e,ll a _,⟨_,aai _ rfl,rfl,rfl⟩,fun b hb=>?_,q⟩
  have e:b=s1.heap.objs.size:=by simpa using hb
  subst e
  exact I1.fpOk (aaj _) (I1.hok.fresh (aaj _))
 ·obtain ⟨its,rv,p,hz⟩:=I1.tuple hq
  refine aea (show s1.heap.IsTuple a its.toArray from p) ?_
  refine ⟨s1.heap.objs.size,[s1.heap.objs.size],_,_,H1,rfl,I1.kept (t':=s1.toks) fun b o e=>aac _ e,pk a _,⟨_,aai _ rfl,rfl,rfl⟩,fun b hb=>?_,q⟩
  have e:b=s1.heap.objs.size:=by simpa using hb
  subst e
  exact I1.fpOk (aaj _) (I1.hok.fresh (aaj _))
noncomputable def iS (a:WE):WA:=fun env P=>a env fun x e=>match x with
 | .lst xs=>P xs e
 | .tup xs=>P xs e
 | _=>False
theorem aY (h:EvS ob X e f):EvI ob X tg e (iS f):=by
 obtain ⟨t,ht,k⟩:=h.ex
 refine ⟨_,vY ht,fun Z F σ H env P R K hf kk=>k Z F σ H env _ _ K hf fun x e1 v F1 H1 p s1 K1 r1=>?_⟩
 cases r1 with
 | tup h1 h2=>exact ⟨_,rfl,.inr ⟨⟨_,aA K1.sF h1⟩,kk _ e1 _ F1 H1 p s1 K1 (wN h1 h2)⟩⟩
 | lst h1 h2=>exact ⟨_,rfl,.inl ⟨⟨_,.inl (.inl (K1.sF _ _ h1))⟩,kk _ e1 _ F1 H1 p s1 K1 (wQ h1 h2)⟩⟩
 | _=>exact p.elim
noncomputable def rngP (lo:Int) (n:Nat):List PV:=(aaM n).map fun (k:Nat)=>.int (lo+(k:Int))
theorem wP {M:Md} {F:Hp} {lo:Int} {n:Nat}:ItOk M (Itr lo n) F (rngP lo n):=by
 refine ⟨fun Z i σ env F' H x s K e=>?_,fun Z i σ env F' H s K hl=>show n<=i by simpa [rngP] using hl⟩
 have hi:i<n:=by
  rcases aaO i n with h | h
  ·exact h
  ·rw [aam (by simpa [rngP] using h)] at e; cases e
 have ex:x=.int (lo+i):=by
  unfold rngP at e
  rw [aal,abM hi] at e
  exact (aar e).symm
 subst ex
 refine ⟨hi,fun v' H' y=>?_⟩
 obtain ⟨rfl,rfl⟩:=y
 exact ⟨F',am,K,.int _,am,fun _ h=>.inl h⟩
noncomputable def iR1 (a:WA):WA:=fun env P=>a env fun xs e=>match xs with
 | [.int j] => -1000000<=j/\j<=1000000/\P (rngP 0 j.toNat) e
 | _=>False
noncomputable def iR2 (a:WA):WA:=fun env P=>a env fun xs e=>match xs with
 | [.int i,.int j]=>(-1000000<=i/\i<=1000000 /\ -1000000<=j/\j<=1000000)/\P (rngP i (j - i).toNat) e
 | _=>False
theorem fe (hg:Gl X "range") (hm:X.mg "range" = none) (ha:EvA ob X [a] fa) (hs:autoParam (aan [a] X.env=[(false,eval a X.env)]) Z2._auto_1):EvI ob X tg (.Call (.Name "range" p) [a] [] pos) (iR1 fa):=by
 obtain ⟨t,ht,k⟩:=ha.ex
 refine ⟨_,qA hg hm ht hs,fun Z F σ H env P R K hf kk=>k Z F σ H env _ _ K hf fun xs e1 vs F1 H1 p _ s1 K1 r1=>?_⟩
 split at p
 ·cases r1 with
  | cons r1 r2 =>
   cases r1
   cases r2
   exact ⟨_,rfl,by omega,by omega,kk _ e1 _ F1 H1 p.2.2 s1 K1 wP⟩
 ·exact p.elim
noncomputable def zipP (xs ys:List PV):List PV:=(xs.zip ys).map fun p=>.tup [p.1,p.2]
noncomputable def signsP (s:Str):List PV:=s.cps.toList.map fun c=>.str ⟨#[c]⟩
theorem wO {M:Md} {F:Hp} {s:Str}:ItOk M (Its s) F (signsP s):=by
 refine ⟨fun Z i σ env F' H x sm K e=>?_,fun Z i σ env F' H sm K hl=>show s.cps.size<=i by simpa [signsP] using hl⟩
 unfold signsP at e
 rw [aal] at e
 cases ez:s.cps.toList[i]? with
 | none=>rw [ez] at e; cases e
 | some c =>
  rw [ez] at e
  have e:x=.str ⟨#[c]⟩:=(aar e).symm
  subst e
  have hi:i<s.cps.size:=by
   rcases aaO i s.cps.size with h | h
   ·exact h
   ·rw [aam (by simpa using h)] at ez; cases ez
  refine ⟨hi,fun v' H' y=>?_⟩
  obtain ⟨rfl,c',hc',rfl⟩:=y
  rw [<- abi,ez] at hc'
  cases hc'
  exact ⟨F',am,K,.str _,am,fun _ h=>.inl h⟩
noncomputable def iStrP (a:WE):WA:=fun env P=>a env fun x e=>match x with
 | .str s=>P (signsP s) e
 | _=>False
theorem xa (h:EvS ob X e f):EvI ob X tg e (iStrP f):=by
 obtain ⟨t,ht,k⟩:=h.ex
 refine ⟨_,vX ht,fun Z F σ H env P R K hf kk=>k Z F σ H env _ _ K hf fun x e1 v F1 H1 p s1 K1 r1=>?_⟩
 cases r1 with
 | str s=>exact ⟨s,rfl,kk _ e1 _ F1 H1 p s1 K1 wO⟩
 | _=>exact p.elim
noncomputable def forGo (g:WG) (b:WS) (P:Wd):List PV->En->Prop
 | [],env=>P.nx env
 | x::xs,env=>g x env fun e=>b { P with nx:=forGo g b P xs,ct:=forGo g b P xs,bk:=P.nx } e
noncomputable def sFor (it:WA) (g:WG) (b:WS):WS:=fun P env=>it env fun xs e=>forGo g b P xs e
theorem fI {it:Expr} {g:WG} (hp:PassesOwn (model X.prog X.w) X.A X.env X.xe) (hc:X.calm=true) (hi:EvI ob X tg it fa) (hg:EvG ob X tg g) (hb:EvXs ob X sts u)
  (hs:autoParam (∀ x,abb it X.env x=pure x) Z3._auto_1):EvX ob X (.For tg it sts [] pos) (sFor fa g u):=by
 obtain ⟨wi,hwi,k⟩:=hi.ex
 obtain ⟨tg',htg,kg⟩:=hg.ex
 obtain ⟨tb,htb,kb⟩:=hb.ex
 refine ⟨_,qx hp hc hwi htg htb hs,fun Z F σ H env P D K hf L=>k Z F σ H env _ _ K hf fun xs e1 J F1 H1 p s1 K1 I1=>?_⟩
 have L1:=L.mono s1
 refine ⟨fun i m σ' H'=>m=xs.length - i/\∃ F' env',Same F1 F'/\Sok (md ob X) Z F' σ' H' env'/\forGo g u P (xs.drop i) env',⟨_,rfl,F1,e1,am,K1,p⟩,?_⟩
 rintro i m σ' H' ⟨rfl,F',env',s,K',hg'⟩
 by_cases hlt:i<xs.length
 ·rw [abQ hlt] at hg'
  obtain ⟨h1,h2⟩:=I1.go Z i σ' env' F' H' xs[i] s K' (by simp [hlt])
  refine .inr ⟨h1,fun σ2 H2=>∃ F2 e2,Same F1 F2/\Sok (md ob X) Z F2 σ2 H2 e2/\forGo g u P (xs.drop (i+1)) e2,fun σ2 H2 q=>⟨xs.length - (i+1),by omega,rfl,q⟩,fun v H2 y=>?_⟩
  obtain ⟨F2,s2,K2,r2,_,_⟩:=h2 v H2 y
  refine kg Z F2 σ' H2 env' v xs[i] _ _ K2 r2 hg' fun e3 σ3 F3 H3 p3 s3 K3=>?_
  have sF:=ai s (ai s2 s3)
  exact kb Z F3 σ3 H3 e3 _ _ K3 p3 ⟨fun e4 σ4 F4 H4 q s4 K4=>⟨F4,e4,ai sF s4,K4,q⟩,(L1.mono sF).rt,(L1.mono sF).nx,fun e4 σ4 F4 H4 q s4 K4=>⟨F4,e4,ai sF s4,K4,q⟩,(L1.mono sF).rf,(L1.mono sF).ro⟩
 ·rw [adE (by omega)] at hg'
  exact .inl ⟨I1.stop Z i σ' env' F' H' s K' (by omega),L1.nx env' σ' F' H' hg' s K'⟩
end
end Q
namespace Q
open PySem L2 PyProof.Rows
noncomputable def lend (s:Sl):Sl:=if s.k=1 then ⟨3,s.v⟩ else s
noncomputable def capE (js:List (Option Nat)) (env:En):En:=js.map fun o=>o.bind fun j=>((env[j]?).getD none).map lend
noncomputable def backS (s s':Sl):Option Sl:=if s'.k=3 then (if s.k=1\/s.k=3 then some ⟨s.k,s'.v⟩ else none) else if s'.k=2 then (if s.k=2 then some s' else none) else some s'
noncomputable def backE (js:List (Option Nat)) (env benv:En):En:=env.mapIdx fun j o=>match js.findIdx? (fun q=>q==some j) with
 | none=>o
 | some i=>match o,benv[i]? with
  | some s,some (some s')=>backS s s'
  | _,_=>none
noncomputable def jsOk (js:List (Option Nat)):Bool:=decide (js.filterMap id).Nodup
theorem jl:∀ {js:List (Option Nat)},(js.filterMap id).Nodup->∀ (i i':Nat) (j:Nat),js[i]?=some (some j)->js[i']?=some (some j)->i=i'
 | [],_,i,i',j,h,_=>by simp at h
 | none::js,hn,i,i',j,h,h'=>by
  cases i with
  | zero=>simp at h
  | succ i =>
   cases i' with
   | zero=>simp at h'
   | succ i' =>
    simp at h h' hn
    exact congrArg (·+1) (jl (js:=js) (by simpa using hn) i i' j h h')
 | some k::js,hn,i,i',j,h,h'=>by
  simp only [aaY,id] at hn
  obtain ⟨hk,hn⟩:=List.nodup_cons.mp hn
  have mem:∀ m,js[m]?=some (some k)->False:=fun m hm=>hk (List.mem_filterMap.mpr ⟨some k,abf hm,rfl⟩)
  cases i with
  | zero =>
   simp at h; subst h
   cases i' with
   | zero=>rfl
   | succ i'=>exact (mem i' (by simpa using h')).elim
  | succ i =>
   cases i' with
   | zero=>simp at h'; subst h'; exact (mem i (by simpa using h)).elim
   | succ i'=>exact congrArg (·+1) (jl hn i i' j (by simpa using h) (by simpa using h'))
section
variable {M:Md} {Z:Zn} {F F' H H':Hp} {σ:L2.St} {env:En}
theorem SlOk.wr {v:V} {s:Sl} {fp:List Addr} (h:SlOk M Z F H v s fp):∀ c∈fp,c∈Z.S\/Z.H₀ c=none:=by
 rcases h with ⟨_,rfl,_⟩ | ⟨_,a,_,rfl,h0,_⟩ | ⟨_,a,_,h,_⟩ | ⟨_,a,_,rfl,h0,_⟩
 ·intro c hc; simp at hc
 ·intro c hc; simp at hc; subst hc; exact .inr h0
 ·exact h
 ·intro c hc; simp at hc; subst hc; exact .inl h0
noncomputable def capFp (js:List (Option Nat)) (env:En) (fp:Nat->List Addr) (i:Nat):List Addr:=match js[i]? with
 | some (some j)=>match env[j]? with
  | some (some _)=>fp j
  | _=>[]
 | _=>[]
noncomputable def capSs (js:List (Option Nat)) (env:En) (fp:Nat->List Addr) (H:Hp):List Addr:=((aaM js.length).flatMap (capFp js env fp)).filter fun b=>(H b).isSome
theorem qN {js:List (Option Nat)} {fp:Nat->List Addr} {i:Nat} {a:Addr} (h:a∈capFp js env fp i) (hH:H a≠none):a∈capSs js env fp H:=by
 refine List.mem_filter.mpr ⟨List.mem_flatMap.mpr ⟨i,List.mem_range.mpr ?_,h⟩,by obtain ⟨o,ho⟩:=cO hH; rw [ho]; rfl⟩
 rcases aaO i js.length with q | q
 ·exact q
 ·unfold capFp at h; rw [aam q] at h; simp at h
theorem eh {js:List (Option Nat)} {fp:Nat->List Addr} {a:Addr} (h:a∈capSs js env fp H):∃ (i j:Nat) (s:Sl),js[i]?=some (some j)/\env[j]?=some (some s)/\a∈fp j:=by
 obtain ⟨i,_,h⟩:=List.mem_flatMap.mp (List.mem_filter.mp h).1
 unfold capFp at h
 split at h
 ·rename_i j ej
  split at h
  ·rename_i s es
   exact ⟨i,j,s,ej,es,h⟩
  ·simp at h
 ·simp at h
theorem tF {js:List (Option Nat)} {i:Nat} {s':Sl} (h:(capE js env)[i]?=some (some s')):∃ j s,js[i]?=some (some j)/\env[j]?=some (some s)/\s'=lend s:=by
 unfold capE at h
 rw [aal] at h
 cases ej:js[i]? with
 | none=>rw [ej] at h; cases h
 | some o =>
  cases o with
  | none=>rw [ej] at h; cases h
  | some j =>
   rw [ej] at h
   have h:((env[j]?).getD none).map lend=some s':=aar h
   cases es:env[j]? with
   | none=>rw [es] at h; cases h
   | some o =>
    cases o with
    | none=>rw [es] at h; cases h
    | some s=>rw [es] at h; exact ⟨j,s,rfl,es,(aar h).symm⟩
theorem nC {js:List (Option Nat)} {i j:Nat} {v:V} (h:js[i]?=some (some j)) (hv:σ[j]?=some (some v)):(capS js σ)[i]?=some (some v):=by
 unfold capS
 rw [aal,h]
 show some ((σ[j]?).getD none)=_
 rw [hv]; rfl
noncomputable def Zb (js:List (Option Nat)) (env:En) (fp:Nat->List Addr) (F H:Hp):Zn:={ H₀:=H,F₀:=F,S:=capSs js env fp H,sS:=fun b hb e=>by have:=(List.mem_filter.mp hb).2; rw [e] at this; cases this }
theorem nJ {js:List (Option Nat)} {fp:Nat->List Addr} (hj:jsOk js=true) (K:Sok M Z F σ H env) (L:Slots M Z F σ H env fp):Sok M (Zb js env fp F H) F (capS js σ) H (capE js env):=by
 have hn:(js.filterMap id).Nodup:=of_decide_eq_true hj
 refine ⟨K.sF,fun b o h _=>h,fun b h=>h,am,fun a h=>.inl h,by simp [capE,capS],capFp js env fp,fun i s' h=>?_,fun i a h=>?_,fun i i' a hii h h'=>?_,fun i a s e=>by cases e⟩
 ·obtain ⟨j,s,ej,es,rfl⟩:=tF h
  obtain ⟨v,hv,ok⟩:=L.at' j s es
  have ef:capFp js env fp i=fp j:=by unfold capFp; rw [ej]; dsimp only; rw [es]
  refine ⟨v,nC ej hv,?_⟩
  have inS:∀ c∈fp j,c∈(Zb js env fp F H).S:=fun c hc=>qN (i:=i) (by rw [ef]; exact hc) (L.al j c hc).1
  rw [ef]
  rcases ok with ⟨k,e,r⟩ | ⟨k,a,e,e2,h0,r⟩ | ⟨k,a,e,h0,r⟩ | ⟨k,a,e,e2,h0,r⟩
  ·have:lend s=s:=by unfold lend; rw [if_neg (by rw [k]; decide)]
   rw [this]; exact .inl ⟨k,e,r⟩
  ·have:lend s=⟨3,s.v⟩:=by unfold lend; rw [if_pos k]
   rw [this]; exact .inr (.inr (.inr ⟨rfl,a,e,e2,inS a (by rw [e2]; simp),r⟩))
  ·have:lend s=s:=by unfold lend; rw [if_neg (by rcases k with k | k <;> (rw [k]; decide))]
   rw [this]; exact .inr (.inr (.inl ⟨k,a,e,fun c hc=>.inl (inS c hc),r⟩))
  ·have:lend s=s:=by unfold lend; rw [if_neg (by rw [k]; decide)]
   rw [this]; exact .inr (.inr (.inr ⟨k,a,e,e2,inS a (by rw [e2]; simp),r⟩))
 ·unfold capFp at h
  split at h
  ·split at h
   ·exact L.al _ a h
   ·simp at h
  ·simp at h
 ·unfold capFp at h h'
  split at h
  ·rename_i j ej
   split at h'
   ·rename_i j' ej'
    split at h
    ·split at h'
     ·have:j≠j':=fun e=>by subst e; exact hii (jl hn i i' j ej ej')
      exact L.dj j j' a this h h'
     ·simp at h'
    ·simp at h
   ·simp at h'
  ·simp at h
theorem lL {js:List (Option Nat)} {fp:Nat->List Addr} {σb:L2.St} {benv:En} (hj:jsOk js=true) (K:Sok M Z F σ H env) (L:Slots M Z F σ H env fp) (Kb:Sok M (Zb js env fp F H) F' σb H' benv)
  (hσ:∀ (k j:Nat),js[k]?=some (some j)->σb[k]?=(capS js σ)[k]?) :
  ∃ fp',Slots M Z F' σ H' (backE js env benv) fp'/\Sok M Z F' σ H' (backE js env benv)/\∀ i a,a∈fp' i->(∃ i',a∈fp i')\/H a=none:=by
 have hn:(js.filterMap id).Nodup:=of_decide_eq_true hj
 obtain ⟨fb,Lb⟩:=Kb.sl
 have inS:∀ c∈capSs js env fp H,(c∈Z.S\/Z.H₀ c=none)/\∃ i',c∈fp i':=fun c hc=>by
  obtain ⟨i,j,s,e1,e2,e3⟩:=eh hc
  obtain ⟨v,_,ok⟩:=L.at' j s e2
  exact ⟨ok.wr c e3,j,e3⟩
 have fidx:∀ j i,js.findIdx? (fun q=>q==some j)=some i->js[i]?=some (some j):=fun j i h=>by
  rw [List.findIdx?_eq_some_iff_getElem] at h
  obtain ⟨hi,he,_⟩:=h
  rw [aab hi,eq_of_beq he]
 have bget:∀ j,(backE js env benv)[j]?=(env[j]?).map fun o=>(match js.findIdx? (fun q=>q==some j) with
   | none=>o
   | some i=>match o,benv[i]? with
    | some s,some (some s')=>backS s s'
    | _,_=>none):=fun j=>by
  unfold backE
  rw [List.getElem?_mapIdx]
 have blk:∀ i s',benv[i]?=some (some s')->∀ c∈fb i,(c∈Z.S\/Z.H₀ c=none)/\((∃ i',c∈fp i')\/H c=none):=fun i s' e c hc=>by
  obtain ⟨v,_,ok⟩:=Lb.at' i s' e
  rcases ok.wr c hc with h | h
  ·exact ⟨(inS c h).1,.inl (inS c h).2⟩
  ·exact ⟨.inr (K.h0 h),.inr h⟩
 let fp':Nat->List Addr:=fun j=>match js.findIdx? (fun q=>q==some j) with
  | none=>fp j
  | some i=>match env[j]?,benv[i]? with
   | some (some s),some (some s')=>if (backS s s').isSome=true then fb i else []
   | _,_=>[]
 have keep:∀ c o,H c=some o->c∉capSs js env fp H->H' c=some o:=fun c o h1 h2=>Kb.sG c o h1 h2
 have S:Slots M Z F' σ H' (backE js env benv) fp':=by
  refine ⟨fun j t e=>?_,fun j a h=>?_,fun j j2 a hjj h h2=>?_,fun j a t e1 e e3=>?_⟩
  case refine_4 =>
   rw [bget] at e
   cases ej:env[j]? with
   | none=>rw [ej] at e; cases e
   | some o =>
    rw [ej] at e
    have e:=aar e
    cases ei:js.findIdx? (fun q=>q==some j) with
    | none =>
     rw [ei] at e
     dsimp only at e
     subst e
     exact L.oa j a t e1 ej e3
    | some i =>
     rw [ei] at e
     dsimp only at e
     cases o with
     | none=>cases e
     | some s =>
      cases eb:benv[i]? with
      | none=>rw [eb] at e; cases e
      | some w =>
       cases w with
       | none=>rw [eb] at e; cases e
       | some s' =>
        rw [eb] at e
        dsimp only at e
        unfold backS at e
        split at e
        ·split at e
         ·rename_i h1 h2
          cases e
          rcases h2 with q | q
          ·rw [q] at e3; cases e3
          ·rw [q] at e3; cases e3
         ·cases e
        ·split at e
         ·split at e
          ·rename_i h1
           exact L.oa j a s e1 ej h1
          ·cases e
         ·rename_i h1
          cases e
          exact absurd e3 h1
  ·rw [bget] at e
   cases ej:env[j]? with
   | none=>rw [ej] at e; cases e
   | some o =>
    rw [ej] at e
    have e:=aar e
    show ∃ v,σ[j]?=some (some v)/\SlOk M Z F' H' v t (match js.findIdx? (fun q=>q==some j) with
     | none=>fp j
     | some i=>match env[j]?,benv[i]? with
      | some (some s),some (some s')=>if (backS s s').isSome=true then fb i else []
      | _,_=>[])
    cases ei:js.findIdx? (fun q=>q==some j) with
    | none =>
     rw [ei] at e
     dsimp only at e
     subst e
     obtain ⟨v,hv,ok⟩:=L.at' j t ej
     refine ⟨v,hv,ok.mono Kb.gr fun c hc=>?_⟩
     have hc0:=L.al j c hc
     obtain ⟨o,ho⟩:=cO hc0.1
     rw [ho]
     refine keep c o ho fun hS=>?_
     obtain ⟨i,j',s,e1,e2,e3⟩:=eh hS
     have:j≠j':=fun z=>by
      subst z
      rw [afi] at ei
      have:=ei (some j) (abf e1)
      simp at this
     exact L.dj j j' c this hc e3
    | some i =>
     rw [ei] at e
     dsimp only at e ⊢
     have eij:=fidx j i ei
     cases o with
     | none=>cases e
     | some s =>
      rw [ej]
      cases eb:benv[i]? with
      | none=>rw [eb] at e; cases e
      | some w =>
       cases w with
       | none=>rw [eb] at e; cases e
       | some s' =>
        rw [eb] at e
        dsimp only at e ⊢
        rw [e,if_pos (Option.isSome_some)]
        obtain ⟨v0,hv0,ok0⟩:=L.at' j s ej
        obtain ⟨v,hv,ok⟩:=Lb.at' i s' eb
        rw [hσ i j eij,nC eij hv0] at hv
        cases hv
        refine ⟨v0,hv0,?_⟩
        unfold backS at e
        rcases ok with ⟨k,e1,r⟩ | ⟨k,a,e1,e2,h0,r⟩ | ⟨k,a,e1,h0,r⟩ | ⟨k,a,e1,e2,h0,r⟩
        ·rw [if_neg (by rw [k]; decide),if_neg (by rw [k]; decide)] at e
         cases e
         exact .inl ⟨k,e1,r⟩
        ·rw [if_neg (by rw [k]; decide),if_neg (by rw [k]; decide)] at e
         cases e
         exact .inr (.inl ⟨k,a,e1,e2,K.h0 h0,r⟩)
        ·rw [if_neg (by rcases k with k | k <;> (rw [k]; decide))] at e
         have e:s'=t:=by
          split at e
          ·split at e
           ·exact aar e
           ·cases e
          ·exact aar e
         subst e
         refine .inr (.inr (.inl ⟨k,a,e1,fun c hc=>(blk i _ eb c hc).1,r⟩))
        ·rw [if_pos k] at e
         split at e
         ·rename_i hk
          cases e
          rcases ok0 with ⟨k0,_⟩ | ⟨k0,a0,f1,f2,f3,_⟩ | ⟨k0,_⟩ | ⟨k0,a0,f1,f2,f3,_⟩
          ·rw [k0] at hk; rcases hk with z | z <;> cases z
          ·rw [e1] at f1; cases f1
           exact .inr (.inl ⟨k0,a,e1,e2,f3,r⟩)
          ·rcases k0 with k0 | k0 <;> (rw [k0] at hk; rcases hk with z | z <;> cases z)
          ·rw [e1] at f1; cases f1
           exact .inr (.inr (.inr ⟨k0,a,e1,e2,f3,r⟩))
         ·cases e
  ·have h:a∈(match js.findIdx? (fun q=>q==some j) with
     | none=>fp j
     | some i=>match env[j]?,benv[i]? with
      | some (some s),some (some s')=>if (backS s s').isSome=true then fb i else []
      | _,_=>[]):=h
   split at h
   ·rename_i ei
    have h0:=L.al j a h
    obtain ⟨o,ho⟩:=cO h0.1
    constructor
    ·intro z
     have:=Kb.pr a (by show H a≠none; exact h0.1)
     exact this z
    ·cases ef:F' a with
     | none=>rfl
     | some o =>
      rcases Kb.nw a (by rw [ef]; simp) with q | q
      ·exact absurd h0.2 q
      ·exact absurd q h0.1
   ·split at h
    ·split at h
     ·exact Lb.al _ a h
     ·simp at h
    ·simp at h
  ·have h:a∈(match js.findIdx? (fun q=>q==some j) with
     | none=>fp j
     | some i=>match env[j]?,benv[i]? with
      | some (some s),some (some s')=>if (backS s s').isSome=true then fb i else []
      | _,_=>[]):=h
   have h2:a∈(match js.findIdx? (fun q=>q==some j2) with
     | none=>fp j2
     | some i=>match env[j2]?,benv[i]? with
      | some (some s),some (some s')=>if (backS s s').isSome=true then fb i else []
      | _,_=>[]):=h2
   have mix:∀ {j1 i:Nat} {s':Sl},js.findIdx? (fun q=>q==some j1)=none->benv[i]?=some (some s')->a∈fp j1->a∈fb i->False:=fun {j1 i s'} e1 e2 m1 m2=>by
    obtain ⟨v,_,ok⟩:=Lb.at' i s' e2
    rcases ok.wr a m2 with q | q
    ·obtain ⟨i',j',s,q1,q2,q3⟩:=eh q
     have:j1≠j':=fun z=>by
      subst z
      rw [afi] at e1
      have:=e1 (some j1) (abf q1)
      simp at this
     exact L.dj j1 j' a this m1 q3
    ·exact (L.al j1 a m1).1 q
   split at h
   ·rename_i ei
    split at h2
    ·exact L.dj j j2 a hjj h h2
    ·split at h2
     ·rename_i eb
      split at h2
      ·exact mix ei eb h h2
      ·simp at h2
     ·simp at h2
   ·rename_i i ei
    split at h
    ·rename_i eb
     split at h
     ·split at h2
      ·rename_i ei2
       exact mix ei2 eb h2 h
      ·rename_i i2 ei2
       split at h2
       ·split at h2
        ·have:i≠i2:=fun z=>by
          subst z
          have q1:=fidx j i ei
          have q2:=fidx j2 i ei2
          rw [q1] at q2
          cases q2
          exact hjj rfl
         exact Lb.dj i i2 a this h h2
        ·simp at h2
       ·simp at h2
     ·simp at h
    ·simp at h
 refine ⟨fp',S,⟨Kb.sF,fun b o h1 h2=>keep b o (K.sG b o h1 h2) fun hS=>?_,fun b h=>Kb.pr b (K.pr b h),ai K.gr Kb.gr,fun a h=>?_,by unfold backE; rw [List.length_mapIdx]; exact K.len,fp',S⟩,fun j a h=>?_⟩
 ·rcases (inS b hS).1 with q | q
  ·exact h2 q
  ·rw [q] at h1; cases h1
 ·rcases Kb.nw a h with q | q
  ·exact K.nw a q
  ·exact .inr (K.h0 q)
 ·have h:a∈(match js.findIdx? (fun q=>q==some j) with
    | none=>fp j
    | some i=>match env[j]?,benv[i]? with
     | some (some s),some (some s')=>if (backS s s').isSome=true then fb i else []
     | _,_=>[]):=h
  split at h
  ·exact .inl ⟨j,h⟩
  ·split at h
   ·rename_i eb
    split at h
    ·exact (blk _ _ eb a h).2
    ·simp at h
   ·simp at h
end
end Q
namespace Q
open PySem L2 PyProof.Rows
noncomputable def rdE (M:Md) (f:WE):TE:=fun σ H Q=>∃ (Z:Zn) (F:Hp) (env:En) (P:PV->En->Prop),Sok M Z F σ H env/\f env P/\∀ x env' v F' H',P x env'->Same F F'->Sok M Z F' σ H' env'->Rep M.K F' v x->Q v H'
noncomputable def rdT (M:Md) (f:WT):TT:=fun σ H Q=>∃ (Z:Zn) (F:Hp) (env:En) (P:Bool->En->Prop),Sok M Z F σ H env/\f env P/\∀ b env' F' H',P b env'->Same F F'->Sok M Z F' σ H' env'->Q b H'
theorem EvS.pe {ob:ObK} {X:Cx} {e:Expr} {f:WE} (h:EvS ob X e f):PE X e (rdE (md ob X) f):=by
 obtain ⟨t,ht,k⟩:=h.ex
 rintro pins s σ H Q I ⟨Z,F,env,P,K,hf,kk⟩
 exact ht pins s σ H Q I (k Z F σ H env P Q K hf kk)
structure EvC (ob:ObK) (X:Cx) (ifs:List Expr) (f:WT):Prop where
 ex:PF X ifs (rdT (md ob X) f)
noncomputable def tYs:WT:=fun env P=>P true env
theorem ci {ob:ObK} {X:Cx}:EvC ob X [] tYs:=⟨by
 rintro pins s σ H Q I ⟨Z,F,env,P,K,hf,kk⟩
 exact vZ pins s σ H Q I (kk true env F H hf am K)⟩
theorem cV {ob:ObK} {X:Cx} {c:Expr} {t:WT} (h:EvT ob X c t):EvC ob X [c] t:=⟨by
 obtain ⟨w,hw,k⟩:=h.ex
 rintro pins s σ H Q I ⟨Z,F,env,P,K,hf,kk⟩
 exact qD hw pins s σ H Q I (k Z F σ H env P Q K hf kk)⟩
inductive Tgt where
 | nm (i:Nat) | tp (l:List Nat)
noncomputable def tgLs:List Nat->TGs
 | []=>gNil
 | i::l=>gCons (gName i) (tgLs l)
noncomputable def tgL (K:aad):Tgt->TG
 | .nm i=>gName i
 | .tp l=>gTup K l.length (tgLs l)
noncomputable def setAll:List Nat->List PV->En->En
 | i::l,x::xs,env=>setAll l xs (env.set i (some ⟨0,x⟩))
 | _,_,env=>env
noncomputable def tgW:Tgt->WG
 | .nm i=>fun x env P=>P (env.set i (some ⟨0,x⟩))
 | .tp l=>fun x env P=>match x with
  | .tup xs=>xs.length=l.length/\P (setAll l xs env)
  | _=>False
noncomputable def tgFree (js:List (Option Nat)):Tgt->Bool
 | .nm i=>decide (js[i]?=some none)
 | .tp l=>l.all fun i=>decide (js[i]?=some none)
theorem rd {js:List (Option Nat)}:∀ {l:List Nat},(l.all fun i=>decide (js[i]?=some none))=true->Gss js (tgLs l)
 | [],_=>wV
 | i::l,h=>by
  rw [List.all_cons,aaK] at h
  refine u5 (kN (of_decide_eq_true h.1)) (rd h.2) ii ?_
  have mono:∀ (l:List Nat),∀ x σ H (Q Q':L2.St->Hp->Prop),(∀ a b,Q a b->Q' a b)->tgLs l x σ H Q->tgLs l x σ H Q':=by
   intro l
   induction l with
   | nil=>exact fun x σ H Q Q' h q=>⟨q.1,h _ _ q.2⟩
   | cons i l ih=>exact kO ii ih
  exact mono l
theorem dg {K:aad} {js:List (Option Nat)} {T:Tgt} (h:tgFree js T=true):Gsets js (tgL K T):=by
 cases T with
 | nm i=>exact kN (of_decide_eq_true h)
 | tp l=>exact wU (rd h)
section
variable {M:Md} {Z:Zn} {F H:Hp}
theorem t5 {l:List Nat}:∀ {σ:L2.St} {env:En} {vs:List V} {xs:List PV} {Q:L2.St->Hp->Prop},Sok M Z F σ H env->Reps M.K F vs xs->xs.length=l.length->(∀ σ',Sok M Z F σ' H (setAll l xs env)->Q σ' H)->tgLs l vs σ H Q:=by
 induction l with
 | nil =>
  intro σ env vs xs Q K r hl k
  cases r with
  | nil=>exact ⟨rfl,k σ K⟩
  | cons _ _=>simp at hl
 | cons i l ih =>
  intro σ env vs xs Q K r hl k
  cases r with
  | nil=>simp at hl
  | cons r1 r2=>exact ⟨_,_,rfl,ih (K.put r1) r2 (by simpa using hl) k⟩
theorem qg {T:Tgt} {σ:L2.St} {env:En} {v:V} {x:PV} {P:En->Prop} {Q:L2.St->Hp->Prop} (K:Sok M Z F σ H env) (r:Rep M.K F v x) (hf:tgW T x env P) (k:∀ env' σ',P env'->Sok M Z F σ' H env'->Q σ' H):tgL M.K T v σ H Q:=by
 cases T with
 | nm i=>exact k _ _ hf (K.put r)
 | tp l =>
  cases r with
  | tup h1 h2 =>
   have hf:_/\_:=hf
   exact ⟨_,_,rfl,aA K.sF h1,by rw [h2.len]; exact hf.1,t5 K h2 hf.1 fun σ' K'=>k _ σ' hf.2 K'⟩
  | _=>exact (show False from hf).elim
end
noncomputable def lcGo (g:WG) (c:WT) (f:WE) (js:List (Option Nat)) (P:PV->En->Prop):List PV->En->List PV->Prop
 | [],env,acc=>P (.lst acc) env
 | x::xs,env,acc=>g x (capE js env) fun b1=>c b1 fun ok b2=>if ok=true then f b2 fun y b3=>acc.length<=100000/\lcGo g c f js P xs (backE js env b3) (acc++[y]) else lcGo g c f js P xs (backE js env b2) acc
noncomputable def eLC (fi:WA) (T:Tgt) (c:WT) (f:WE) (js:List (Option Nat)):WE:=fun env P=>fi env fun xs e=>lcGo (tgW T) c f js P xs e []
section
variable {ob:ObK} {X:Cx} {tg elt iter kx vx:Expr} {ifs:List Expr} {scope:Scope} {pos:Pos} {fi:WA} {T:Tgt} {c:WT} {f fk:WE} {N:List Str} {js:List (Option Nat)}
theorem Sok.touch {M:Md} {Z:Zn} {F H:Hp} {σ:L2.St} {env:En} {fp:Nat->List Addr} {l:Addr} {o:HO} (K:Sok M Z F σ H env) (L:Slots M Z F σ H env fp) (hF:F l=none) (h0:Z.H₀ l=none) (hl:∀ i,l∉fp i):Sok M Z F σ (upd H l o) env/\Slots M Z F σ (upd H l o) env fp:=by
 have S:Slots M Z F σ (upd H l o) env fp:=by
  refine ⟨fun i s e=>?_,fun i a h=>?_,L.dj,L.oa⟩
  ·obtain ⟨v,h1,h2⟩:=L.at' i s e
   exact ⟨v,h1,h2.mono am fun c hc=>ak fun z:c=l=>hl i (by rw [<- z]; exact hc)⟩
  ·have:=L.al i a h
   refine ⟨?_,this.2⟩
   rw [ak (fun z:a=l=>hl i (by rw [<- z]; exact h))]; exact this.1
 refine ⟨⟨fun a u e=>?_,fun b u h1 h2=>?_,fun b h=>?_,K.gr,K.nw,K.len,fp,S⟩,S⟩
 ·rw [ak (ax e hF)]; exact K.sF a u e
 ·rw [ak (ax h1 h0)]; exact K.sG b u h1 h2
 ·by_cases q:b=l
  ·subst q; rw [ao]; simp
  ·rw [ak q]; exact K.pr b h
theorem oO {Z:Zn} {F:Hp} {σ:L2.St} {H:Hp} {env:En} {P:PV->En->Prop} {Q:VK} {xs:List PV} {J:It} (hj:jsOk js=true) (hT:tgFree js T=true) (K:Sok (md ob X) Z F σ H env) (I1:ItOk (md ob X) J F xs) (hf:lcGo (tgW T) c f js P xs env [])
  (kk:∀ x env' v F' H',P x env'->Same F F'->(∀ xs,x≠.set xs)->Sok (md ob X) Z F' (σ++[some v]) H' (env'++[some ⟨1,x⟩])->Q v H') (l:Addr) (hl:H l=none) :
  ∃ W:Nat->Nat->List V->Hp->Prop,(∃ m,W 0 m [] (upd H l (.lst [])))/\∀ i m ys H2,W i m ys H2 ->
  (J.stop i H2/\Q (.ref l) H2)\/(J.go i H2/\∀ x H3,J.yld i H2 x H3->tgL X.K T x (capS js σ) H3 fun σ4 H4=>rdT (md ob X) c σ4 H4 fun b H5 =>
   if b=true then rdE (md ob X) f σ4 H5 fun y H6=>H6 l=some (.lst ys)/\ys.length<sizeLine/\∃ m',m'<m/\W (i+1) m' (ys++[y]) (upd H6 l (.lst (ys++[y]))) else ∃ m',m'<m/\W (i+1) m' ys H5):=by
 refine ⟨fun i m ys H'=>m=xs.length - i/\H' l=some (.lst ys)/\∃ F' env' yps fp,Same F F'/\Sok (md ob X) Z F' σ H' env'/\Slots (md ob X) Z F' σ H' env' fp/\F' l=none/\(∀ i,l∉fp i)/\Reps X.K F' ys yps/\lcGo (tgW T) c f js P (xs.drop i) env' yps,?_,?_⟩
 ·obtain ⟨fp,L⟩:=K.sl
  have hF:F l=none:=Same.none_of K.sF hl
  have hn:∀ i,l∉fp i:=fun i h=>(L.al i l h).1 hl
  obtain ⟨K1,L1⟩:=K.touch (o:=.lst []) L hF (K.h0 hl) hn
  exact ⟨_,rfl,ao,F,env,[],fp,am,K1,L1,hF,hn,.nil,hf⟩
 rintro i m ys H2 ⟨rfl,hl2,F',env',yps,fp,s,K',L',hF',hn,ry,hg⟩
 have h0:Z.H₀ l=none:=K.h0 hl
 by_cases hlt:i<xs.length
 ·rw [abQ hlt] at hg
  obtain ⟨h1,h2⟩:=I1.go Z i σ env' F' H2 xs[i] s K' (by simp [hlt])
  refine .inr ⟨h1,fun v H3 y=>?_⟩
  obtain ⟨F2,s2,K2,r2,sH,nw⟩:=h2 v H3 y
  have L2':Slots (md ob X) Z F2 σ H3 env' fp:=L'.move s2 (fun _ c o _ e=>sH c o e) nw
  have hF2:F2 l=none:=by
   cases e:F2 l with
   | none=>rfl
   | some o =>
    rcases nw l (by rw [e]; simp) with q | q
    ·exact absurd hF' q
    ·rw [hl2] at q; cases q
  have hl3:H3 l=some (.lst ys):=sH _ _ hl2
  have Kb:=nJ hj K2 L2'
  have hσ4:∀ {σ4:L2.St},(∀ (k j:Nat),js[k]?=some (some j)->σ4[k]?=(capS js σ)[k]?)->True:=fun _=>trivial
  have tg':=dg (K:=X.K) hT v (capS js σ) H3 _ (qg (M:=md ob X) (Q:=fun σ4 H4=>H4=H3/\∃ b1,Sok (md ob X) (Zb js env' fp F2 H3) F2 σ4 H3 b1/\c b1 fun ok b2=>if ok=true then f b2 fun y b3=>yps.length<=100000/\lcGo (tgW T) c f js P (xs.drop (i+1)) (backE js env' b3) (yps++[y]) else lcGo (tgW T) c f js P (xs.drop (i+1)) (backE js env' b2) yps) Kb r2 hg fun e4 σ4 p4 K4=>⟨rfl,e4,K4,p4⟩)
  have mono:∀ (Q1 Q2:L2.St->Hp->Prop),(∀ a b,Q1 a b->Q2 a b)->tgL X.K T v (capS js σ) H3 Q1->tgL X.K T v (capS js σ) H3 Q2:=by
   have monoL:∀ (l:List Nat),∀ x σ H (Q Q':L2.St->Hp->Prop),(∀ a b,Q a b->Q' a b)->tgLs l x σ H Q->tgLs l x σ H Q':=by
    intro l
    induction l with
    | nil=>exact fun x σ H Q Q' h q=>⟨q.1,h _ _ q.2⟩
    | cons i l ih=>exact kO ii ih
   intro Q1 Q2 hq q
   cases T with
   | nm i=>exact hq _ _ q
   | tp l =>
    obtain ⟨a,xs,e1,e2,e3,e4⟩:=q
    exact ⟨a,xs,e1,e2,e3,monoL l _ _ _ _ _ hq e4⟩
  refine mono _ _ ?_ tg'
  rintro σ4 H4 ⟨⟨rfl,b1,K4,p4⟩,hlen,hcap⟩
  refine ⟨_,F2,b1,_,K4,p4,fun b b2 F5 H5 p5 s5 K5=>?_⟩
  have again:∀ {F6 H6:Hp} {b3:En} {ys':List V} {yps':List PV},Same F2 F6->Sok (md ob X) (Zb js env' fp F2 H4) F6 σ4 H6 b3->lcGo (tgW T) c f js P (xs.drop (i+1)) (backE js env' b3) yps'->Reps X.K F6 ys' yps' ->
    H6 l=some (.lst ys)/\(∃ m',m'<xs.length - i/\m'=xs.length - (i+1)/\(upd H6 l (.lst ys')) l=some (.lst ys')/\∃ F' env' yps fp,Same F F'/\Sok (md ob X) Z F' σ (upd H6 l (.lst ys')) env'/\Slots (md ob X) Z F' σ (upd H6 l (.lst ys')) env' fp/\F' l=none/\(∀ i,l∉fp i)/\Reps X.K F' ys' yps/\lcGo (tgW T) c f js P (xs.drop (i+1)) env' yps):=fun {F6 H6 b3 ys' yps'} s6 K6 p6 r6=>by
   obtain ⟨fp',L6,K6',hnew⟩:=lL hj K2 L2' K6 hcap
   have hl6:H6 l=some (.lst ys):=K6.sG l _ hl3 fun z=>by
    obtain ⟨_,j,_,_,_,hm⟩:=eh z
    exact hn j hm
   have hF6:F6 l=none:=by
    cases e:F6 l with
    | none=>rfl
    | some o =>
     rcases K6.nw l (by rw [e]; simp) with q | q
     ·exact absurd hF2 q
     ·exact absurd q (by show H4 l≠none; rw [hl3]; simp)
   have hn6:∀ i,l∉fp' i:=fun i h=>by
    rcases hnew i l h with ⟨i',q⟩ | q
    ·exact hn i' q
    ·rw [hl3] at q; cases q
   obtain ⟨K7,L7⟩:=K6'.touch (o:=.lst ys') L6 hF6 h0 hn6
   exact ⟨hl6,_,by omega,rfl,ao,F6,_,_,fp',ai s (ai s2 s6),K7,L7,hF6,hn6,r6,p6⟩
  cases b with
  | false =>
   refine iteF ?_
   obtain ⟨hl5,m',h1,h2,h3,F',env',yps,fp,q1,q2,q3,q4⟩:=again (ys':=ys) s5 K5 p5 ((ry.mono s2).mono s5)
   have e:upd H5 l (.lst ys)=H5:=by
    funext a
    by_cases z:a=l
    ·subst z; rw [ao,hl5]
    ·rw [ak z]
   rw [e] at h3 q2 q3
   exact ⟨m',h1,h2,h3,F',env',yps,fp,q1,q2,q3,q4⟩
  | true =>
   refine iteT ⟨_,F5,b2,_,K5,p5,fun y b3 v6 F6 H6 p6 s6 K6 r6=>?_⟩
   obtain ⟨hl6,q⟩:=again (ys':=ys++[v6]) (ai s5 s6) K6 p6.2 ((((ry.mono s2).mono s5).mono s6).app (.cons r6 .nil))
   refine ⟨hl6,?_,q⟩
   have:=p6.1
   rw [ry.len,aaA]; omega
 ·rw [adE (by omega)] at hg
  refine .inl ⟨I1.stop Z i σ env' F' H2 s K' (by omega),kk _ env' _ F' H2 hg s (fun _=>by simp) ?_⟩
  refine K'.slots (by simp [K'.len]) (L'.push (l:=[l]) (by simp) K'.len (.inr (.inl ⟨rfl,l,rfl,rfl,h0,ys,hl2,ry⟩)) (fun a ha=>?_) fun j a ha=>?_)
  ·simp at ha; subst ha
   exact ⟨by rw [hl2]; simp,hF'⟩
  ·simp at ha; subst ha
   exact hn j
theorem cb (hi:EvI ob X tg iter fi) (hg:∀ C s₀ H₀ ex pn,PG (cxComp X scope N C s₀ H₀ ex pn) tg (tgL X.K T)) (ht:∀ C s₀ H₀ ex pn,EvC ob (cxComp X scope N C s₀ H₀ ex pn) ifs c) (he:∀ C s₀ H₀ ex pn,EvS ob (cxComp X scope N C s₀ H₀ ex pn) elt f)
  (hj:autoParam (jsOk js=true) Z2._auto_1) (hT:autoParam (tgFree js T=true) Z2._auto_1)
  (hc:autoParam (X.calm=true) Z2._auto_1) (hx:autoParam (X.xe=(fun _ _=>False)) Z2._auto_1) (hsc:autoParam (scOk X.env scope=true) Z2._auto_1) (hcap:autoParam (capOk X.N scope N js=true) Z2._auto_1) (hkind:autoParam (scope.kind=.function) Z2._auto_1) (hs:autoParam (∀ x,abb iter X.env x=pure x) Z3._auto_1) :
  EvF ob X (.ListComp elt [⟨tg,iter,ifs,0⟩] scope pos) (eLC fi T c f js):=by
 obtain ⟨wi,hwi,k⟩:=hi.ex
 refine ⟨_,tL (wi:=wi) (g:=tgL X.K T) (tc:=rdT (md ob X) c) (te:=rdE (md ob X) f) (js:=js) hwi hg (fun C s₀ H₀ ex pn=>(ht C s₀ H₀ ex pn).ex) (fun C s₀ H₀ ex pn=>(he C s₀ H₀ ex pn).pe) (dg hT) hc hx hsc hcap hkind hs,fun Z F σ H env P Q K hf kk=>?_⟩
 refine k Z F σ H env _ _ K hf fun xs e1 J F1 H1 p s1 K1 I1 l hl=>?_
 exact oO hj hT K1 I1 p (fun x e2 v F2 H2 p2 s2 hx2 K2=>kk x e2 v F2 H2 p2 (ai s1 s2) hx2 K2) l hl
end
end Q
namespace Q
open PySem L2 PyProof.Rows
noncomputable def dcGo (g:WG) (c:WT) (fk f:WE) (js:List (Option Nat)) (P:PV->En->Prop):List PV->En->List (Key×PV)->Prop
 | [],env,acc=>P (.dic acc) env
 | x::xs,env,acc=>g x (capE js env) fun b1=>c b1 fun ok b2=>if ok=true then fk b2 fun kk b3=>f b3 fun y b4=>acc.length<=100000/\opt (keyP kk) fun key=>dcGo g c fk f js P xs (backE js env b4) (putP acc key y) else dcGo g c fk f js P xs (backE js env b2) acc
noncomputable def eDC (fi:WA) (T:Tgt) (c:WT) (fk f:WE) (js:List (Option Nat)):WE:=fun env P=>fi env fun xs e=>dcGo (tgW T) c fk f js P xs e []
section
variable {ob:ObK} {X:Cx} {tg elt iter kx vx:Expr} {ifs:List Expr} {scope:Scope} {pos:Pos} {fi:WA} {T:Tgt} {c:WT} {f fk:WE} {N:List Str} {js:List (Option Nat)}
theorem o9 {Z:Zn} {F:Hp} {σ:L2.St} {H:Hp} {env:En} {P:PV->En->Prop} {Q:VK} {xs:List PV} {J:It} (hj:jsOk js=true) (hT:tgFree js T=true) (K:Sok (md ob X) Z F σ H env) (I1:ItOk (md ob X) J F xs) (hf:dcGo (tgW T) c fk f js P xs env [])
  (kk:∀ x env' v F' H',P x env'->Same F F'->(∀ xs,x≠.set xs)->Sok (md ob X) Z F' (σ++[some v]) H' (env'++[some ⟨1,x⟩])->Q v H') (l:Addr) (hl:H l=none) :
  ∃ W:Nat->Nat->List (Key×V)->Hp->Prop,(∃ m,W 0 m [] (upd H l (.dK [])))/\∀ i m ys H2,W i m ys H2 ->
  (J.stop i H2/\Q (.ref l) H2)\/(J.go i H2/\∀ x H3,J.yld i H2 x H3->tgL X.K T x (capS js σ) H3 fun σ4 H4=>rdT (md ob X) c σ4 H4 fun b H5 =>
   if b=true then rdE (md ob X) fk σ4 H5 fun kk H6=>rdE (md ob X) f σ4 H6 fun y H7=>∃ key,kk=kV key/\H7 l=some (.dK ys)/\ys.length<sizeLine/\∃ m',m'<m/\W (i+1) m' (putK ys key y) (upd H7 l (.dK (putK ys key y))) else ∃ m',m'<m/\W (i+1) m' ys H5):=by
 refine ⟨fun i m ys H'=>m=xs.length - i/\H' l=some (.dK ys)/\∃ F' env' yps fp,Same F F'/\Sok (md ob X) Z F' σ H' env'/\Slots (md ob X) Z F' σ H' env' fp/\F' l=none/\(∀ i,l∉fp i)/\RepsK X.K F' ys yps/\dcGo (tgW T) c fk f js P (xs.drop i) env' yps,?_,?_⟩
 ·obtain ⟨fp,L⟩:=K.sl
  have hF:F l=none:=Same.none_of K.sF hl
  have hn:∀ i,l∉fp i:=fun i h=>(L.al i l h).1 hl
  obtain ⟨K1,L1⟩:=K.touch (o:=.dK []) L hF (K.h0 hl) hn
  exact ⟨_,rfl,ao,F,env,[],fp,am,K1,L1,hF,hn,.nil,hf⟩
 rintro i m ys H2 ⟨rfl,hl2,F',env',yps,fp,s,K',L',hF',hn,ry,hg⟩
 have h0:Z.H₀ l=none:=K.h0 hl
 by_cases hlt:i<xs.length
 ·rw [abQ hlt] at hg
  obtain ⟨h1,h2⟩:=I1.go Z i σ env' F' H2 xs[i] s K' (by simp [hlt])
  refine .inr ⟨h1,fun v H3 y=>?_⟩
  obtain ⟨F2,s2,K2,r2,sH,nw⟩:=h2 v H3 y
  have L2':Slots (md ob X) Z F2 σ H3 env' fp:=L'.move s2 (fun _ c o _ e=>sH c o e) nw
  have hF2:F2 l=none:=by
   cases e:F2 l with
   | none=>rfl
   | some o =>
    rcases nw l (by rw [e]; simp) with q | q
    ·exact absurd hF' q
    ·rw [hl2] at q; cases q
  have hl3:H3 l=some (.dK ys):=sH _ _ hl2
  have Kb:=nJ hj K2 L2'
  have hσ4:∀ {σ4:L2.St},(∀ (k j:Nat),js[k]?=some (some j)->σ4[k]?=(capS js σ)[k]?)->True:=fun _=>trivial
  have tg':=dg (K:=X.K) hT v (capS js σ) H3 _ (qg (M:=md ob X) (Q:=fun σ4 H4=>H4=H3/\∃ b1,Sok (md ob X) (Zb js env' fp F2 H3) F2 σ4 H3 b1/\c b1 fun ok b2=>if ok=true then fk b2 fun kk b3=>f b3 fun y b4=>yps.length<=100000/\opt (keyP kk) fun key=>dcGo (tgW T) c fk f js P (xs.drop (i+1)) (backE js env' b4) (putP yps key y) else dcGo (tgW T) c fk f js P (xs.drop (i+1)) (backE js env' b2) yps) Kb r2 hg fun e4 σ4 p4 K4=>⟨rfl,e4,K4,p4⟩)
  have mono:∀ (Q1 Q2:L2.St->Hp->Prop),(∀ a b,Q1 a b->Q2 a b)->tgL X.K T v (capS js σ) H3 Q1->tgL X.K T v (capS js σ) H3 Q2:=by
   have monoL:∀ (l:List Nat),∀ x σ H (Q Q':L2.St->Hp->Prop),(∀ a b,Q a b->Q' a b)->tgLs l x σ H Q->tgLs l x σ H Q':=by
    intro l
    induction l with
    | nil=>exact fun x σ H Q Q' h q=>⟨q.1,h _ _ q.2⟩
    | cons i l ih=>exact kO ii ih
   intro Q1 Q2 hq q
   cases T with
   | nm i=>exact hq _ _ q
   | tp l =>
    obtain ⟨a,xs,e1,e2,e3,e4⟩:=q
    exact ⟨a,xs,e1,e2,e3,monoL l _ _ _ _ _ hq e4⟩
  refine mono _ _ ?_ tg'
  rintro σ4 H4 ⟨⟨rfl,b1,K4,p4⟩,hlen,hcap⟩
  refine ⟨_,F2,b1,_,K4,p4,fun b b2 F5 H5 p5 s5 K5=>?_⟩
  have again:∀ {F6 H6:Hp} {b3:En} {ys':List (Key×V)} {yps':List (Key×PV)},Same F2 F6->Sok (md ob X) (Zb js env' fp F2 H4) F6 σ4 H6 b3->dcGo (tgW T) c fk f js P (xs.drop (i+1)) (backE js env' b3) yps'->RepsK X.K F6 ys' yps' ->
    H6 l=some (.dK ys)/\(∃ m',m'<xs.length - i/\m'=xs.length - (i+1)/\(upd H6 l (.dK ys')) l=some (.dK ys')/\∃ F' env' yps fp,Same F F'/\Sok (md ob X) Z F' σ (upd H6 l (.dK ys')) env'/\Slots (md ob X) Z F' σ (upd H6 l (.dK ys')) env' fp/\F' l=none/\(∀ i,l∉fp i)/\RepsK X.K F' ys' yps/\dcGo (tgW T) c fk f js P (xs.drop (i+1)) env' yps):=fun {F6 H6 b3 ys' yps'} s6 K6 p6 r6=>by
   obtain ⟨fp',L6,K6',hnew⟩:=lL hj K2 L2' K6 hcap
   have hl6:H6 l=some (.dK ys):=K6.sG l _ hl3 fun z=>by
    obtain ⟨_,j,_,_,_,hm⟩:=eh z
    exact hn j hm
   have hF6:F6 l=none:=by
    cases e:F6 l with
    | none=>rfl
    | some o =>
     rcases K6.nw l (by rw [e]; simp) with q | q
     ·exact absurd hF2 q
     ·exact absurd q (by show H4 l≠none; rw [hl3]; simp)
   have hn6:∀ i,l∉fp' i:=fun i h=>by
    rcases hnew i l h with ⟨i',q⟩ | q
    ·exact hn i' q
    ·rw [hl3] at q; cases q
   obtain ⟨K7,L7⟩:=K6'.touch (o:=.dK ys') L6 hF6 h0 hn6
   exact ⟨hl6,_,by omega,rfl,ao,F6,_,_,fp',ai s (ai s2 s6),K7,L7,hF6,hn6,r6,p6⟩
  cases b with
  | false =>
   refine iteF ?_
   obtain ⟨hl5,m',h1,h2,h3,F',env',yps,fp,q1,q2,q3,q4⟩:=again (ys':=ys) s5 K5 p5 ((ry.mono s2).mono s5)
   have e:upd H5 l (.dK ys)=H5:=by
    funext a
    by_cases z:a=l
    ·subst z; rw [ao,hl5]
    ·rw [ak z]
   rw [e] at h3 q2 q3
   exact ⟨m',h1,h2,h3,F',env',yps,fp,q1,q2,q3,q4⟩
  | true =>
   refine iteT ⟨_,F5,b2,_,K5,p5,fun kx b3 v6 F6 H6 p6 s6 K6 r6=>⟨_,F6,b3,_,K6,p6,fun y b4 v7 F7 H7 p7 s7 K7 r7=>?_⟩⟩
   obtain ⟨p7,key,hkey,p8⟩:=p7
   have s67:=ai s5 (ai s6 s7)
   obtain ⟨hl6,q⟩:=again (ys':=putK ys key v7) s67 K7 p8 (((ry.mono s2).mono s67).put r7)
   refine ⟨key,oU hkey r6,hl6,?_,q⟩
   rw [ry.len,aaA]; omega
 ·rw [adE (by omega)] at hg
  refine .inl ⟨I1.stop Z i σ env' F' H2 s K' (by omega),kk _ env' _ F' H2 hg s (fun _=>by simp) ?_⟩
  refine K'.slots (by simp [K'.len]) (L'.push (l:=[l]) (by simp) K'.len (.inr (.inl ⟨rfl,l,rfl,rfl,h0,ys,hl2,ry⟩)) (fun a ha=>?_) fun j a ha=>?_)
  ·simp at ha; subst ha
   exact ⟨by rw [hl2]; simp,hF'⟩
  ·simp at ha; subst ha
   exact hn j
theorem tR (hi:EvI ob X tg iter fi) (hg:∀ C s₀ H₀ ex pn,PG (cxComp X scope N C s₀ H₀ ex pn) tg (tgL X.K T)) (ht:∀ C s₀ H₀ ex pn,EvC ob (cxComp X scope N C s₀ H₀ ex pn) ifs c) (hk:∀ C s₀ H₀ ex pn,EvS ob (cxComp X scope N C s₀ H₀ ex pn) kx fk) (he:∀ C s₀ H₀ ex pn,EvS ob (cxComp X scope N C s₀ H₀ ex pn) vx f)
  (hj:autoParam (jsOk js=true) Z2._auto_1) (hT:autoParam (tgFree js T=true) Z2._auto_1)
  (hc:autoParam (X.calm=true) Z2._auto_1) (hx:autoParam (X.xe=(fun _ _=>False)) Z2._auto_1) (hsc:autoParam (scOk X.env scope=true) Z2._auto_1) (hcap:autoParam (capOk X.N scope N js=true) Z2._auto_1) (hkind:autoParam (scope.kind=.function) Z2._auto_1) (hs:autoParam (∀ x,abb iter X.env x=pure x) Z3._auto_1) :
  EvF ob X (.DictComp kx vx [⟨tg,iter,ifs,0⟩] scope pos) (eDC fi T c fk f js):=by
 obtain ⟨wi,hwi,k⟩:=hi.ex
 refine ⟨_,xt (wi:=wi) (g:=tgL X.K T) (tc:=rdT (md ob X) c) (tk:=rdE (md ob X) fk) (te:=rdE (md ob X) f) (js:=js) hwi hg (fun C s₀ H₀ ex pn=>(ht C s₀ H₀ ex pn).ex) (fun C s₀ H₀ ex pn=>(hk C s₀ H₀ ex pn).pe) (fun C s₀ H₀ ex pn=>(he C s₀ H₀ ex pn).pe) (dg hT) hc hx hsc hcap hkind hs,fun Z F σ H env P Q K hf kk=>?_⟩
 refine k Z F σ H env _ _ K hf fun xs e1 J F1 H1 p s1 K1 I1 l hl=>?_
 exact o9 hj hT K1 I1 p (fun x e2 v F2 H2 p2 s2 hx2 K2=>kk x e2 v F2 H2 p2 (ai s1 s2) hx2 K2) l hl
theorem tQ (i:Nat) {y:Str} {py spos:Pos} (hN:X.N.Nodup) (hy:X.N[i]?=some y) (hl:X.env.scope.names.lookup y=some .local) (hi:EvI ob X tg iter fi) (hg:∀ C s₀ H₀ ex pn,PG (cxComp X scope N C s₀ H₀ ex pn) tg (tgL X.K T)) (ht:∀ C s₀ H₀ ex pn,EvC ob (cxComp X scope N C s₀ H₀ ex pn) ifs c) (hk:∀ C s₀ H₀ ex pn,EvS ob (cxComp X scope N C s₀ H₀ ex pn) kx fk) (he:∀ C s₀ H₀ ex pn,EvS ob (cxComp X scope N C s₀ H₀ ex pn) vx f)
  (hj:autoParam (jsOk js=true) Z2._auto_1) (hT:autoParam (tgFree js T=true) Z2._auto_1)
  (hsw:autoParam (acp (.DictComp kx vx [⟨tg,iter,ifs,0⟩] scope pos) (some (.Name y py)) spos.line X.env=pure true) Z2._auto_1)
  (hc:autoParam (X.calm=true) Z2._auto_1) (hx:autoParam (X.xe=(fun _ _=>False)) Z2._auto_1) (hsc:autoParam (scOk X.env scope=true) Z2._auto_1) (hcap:autoParam (capOk X.N scope N js=true) Z2._auto_1) (hkind:autoParam (scope.kind=.function) Z2._auto_1) (hs:autoParam (∀ x,abb iter X.env x=pure x) Z3._auto_1) :
  EvX ob X (.Assign [.Name y py] (.DictComp kx vx [⟨tg,iter,ifs,0⟩] scope pos) spos) (sSetO i (eDC fi T c fk f js)):=by
 obtain ⟨wi,hwi,k⟩:=hi.ex
 refine ⟨_,xq (i:=i) (wi:=wi) (g:=tgL X.K T) (tc:=rdT (md ob X) c) (tk:=rdE (md ob X) fk) (te:=rdE (md ob X) f) (js:=js) hN hy hl hwi hg (fun C s₀ H₀ ex pn=>(ht C s₀ H₀ ex pn).ex) (fun C s₀ H₀ ex pn=>(hk C s₀ H₀ ex pn).pe) (fun C s₀ H₀ ex pn=>(he C s₀ H₀ ex pn).pe) (dg hT) hsw hc hx hsc hcap hkind hs,fun Z F σ H env P D K hf L=>?_⟩
 refine k Z F σ H env _ _ K hf fun xs e1 J F1 H1 p s1 K1 I1 l hl=>?_
 exact o9 (P:=fun x e=>P.nx (e.set i (some ⟨1,x⟩))) (Q:=fun v H'=>D.nx (σ.set i (some v)) H') hj hT K1 I1 p (fun x e2 v F2 H2 p2 s2 hx2 K2=>L.nx _ _ F2 H2 p2 (ai s1 s2) K2.take) l hl
end
end Q
namespace Q
open PySem L2 PyProof.Rows
noncomputable abbrev LM:=List PV->List PV->Option (PV×List PV)
noncomputable def eLM (m:LM) (i:Nat) (fa:WA):WE:=fun env P=>(match env[i]? with | some (some ⟨1,.lst _⟩)=>True | some (some ⟨3,.lst _⟩)=>True | _=>False)/\fa env fun xs e=>match e[i]? with
 | some (some ⟨1,.lst ys⟩)=>opt (m ys xs) fun r=>P r.1 (e.set i (some ⟨1,.lst r.2⟩))
 | some (some ⟨3,.lst ys⟩)=>opt (m ys xs) fun r=>P r.1 (e.set i (some ⟨3,.lst r.2⟩))
 | _=>False
noncomputable def MtQ (K:aad) (r:V->List V->Hp->VK->Prop) (m:LM):Prop :=
 ∀ (F H:Hp) (l:Addr) (ys vs:List V) (ps xs:List PV) (z:PV) (ps':List PV) (Q:VK),Same F H->H l=some (.lst ys)->Reps K F ys ps->Reps K F vs xs->m ps xs=some (z,ps') ->
  (∀ v ys',Rep K F v z->Reps K F ys' ps'->Q v (upd H l (.lst ys')))->r (.ref l) vs H Q
section
variable {ob:ObK} {X:Cx} {a b c e:Expr} {es:List Expr} {f g h:WE} {fa:WA} {pos p apos cpos:Pos} {x name:Str} {idn:String} {r:V->List V->Hp->VK->Prop} {m:LM}
theorem wC {t:TA} {i:Nat} (hq:MtQ X.K r m) (k:∀ (Z:Zn) (F:Hp) (σ:L2.St) (H:Hp) (env:En) (P:List PV->En->Prop) (Q:List V->Hp->Prop),Sok (md ob X) Z F σ H env->fa env P->(∀ xs env' vs F' H',P xs env'->xs.length=es.length->Same F F'->Sok (md ob X) Z F' σ H' env'->Reps X.K F' vs xs->Q vs H')->t σ H Q) :
  ∀ (Z:Zn) (F:Hp) (σ:L2.St) (H:Hp) (env:En) (P:PV->En->Prop) (Q:VK),Sok (md ob X) Z F σ H env->eLM m i fa env P->(∀ x env' v F' H',P x env'->Same F F'->Sok (md ob X) Z F' σ H' env'->Rep X.K F' v x->Q v H')->tBM X.K "list" r (tVar i) t σ H Q:=by
 intro Z F σ H env P Q K hf kk
 obtain ⟨h0,hf⟩:=hf
 obtain ⟨a,hσ,vs0,ha⟩:∃ a,σ[i]?=some (some (.ref a))/\∃ vs,H a=some (.lst vs):=by
  split at h0
  ·rename_i e
   obtain ⟨a,h1,vs,h2,_⟩:=K.ownAt (.inl rfl) e
   exact ⟨a,h1,vs,h2⟩
  ·rename_i e
   obtain ⟨a,h1,vs,h2,_⟩:=K.ownAt (.inr rfl) e
   exact ⟨a,h1,vs,h2⟩
  ·exact h0.elim
 refine ⟨_,hσ,.inl ⟨rfl,vs0,.inl (.inl ha)⟩,?_⟩
 refine k Z F σ H env _ _ K hf fun xs e1 vs F1 H1 p _ s1 K1 r1=>?_
 have fin:∀ (kd:Nat) (ys:List PV),kd=1\/kd=3->e1[i]?=some (some ⟨kd,.lst ys⟩)->opt (m ys xs) (fun r=>P r.1 (e1.set i (some ⟨kd,.lst r.2⟩)))->r (.ref a) vs H1 Q:=fun kd ys hk ei ⟨⟨z,ys'⟩,hm,p⟩=>by
  obtain ⟨a',h1,ws,h2,h3⟩:=K1.ownAt hk ei
  rw [hσ] at h1; cases h1
  refine hq F1 H1 a ws vs ys xs z ys' Q K1.sF h2 h3 r1 hm fun v us rv ru=>?_
  exact kk z _ v F1 _ p s1 (K1.write (o:=.lst us) hk ei hσ ⟨us,ao,ru⟩) rv
 split at p
 ·rename_i ei; exact fin _ _ (.inl rfl) ei p
 ·rename_i ei; exact fin _ _ (.inr rfl) ei p
 ·exact p.elim
theorem jX (i:Nat) (slot:Slot "list" name idn) (hty:typeOf (.builtin idn)=pure (.type "method_descriptor")) (hm:MtR X idn r) (hq:MtQ X.K r m) (ho:PE X (.Name x p) (tVar i)) (ha:EvA ob X (e::es) fa)
  (hbase:autoParam (aeg (.Name x p) name X.env (eval (.Name x p) X.env)=eval (.Name x p) X.env) Z2._auto_1)
  (hfew:autoParam (((backTo cpos (aan (e::es) X.env)).all (fun x=>!x.1) && (backToKw cpos (aeY [] X.env)).all (fun x=>x.1.isSome)
   && decide ((e::es).length+([]:List Keyword).length+(if ([]:List Keyword).isEmpty then 0 else 1)<30))=true) Z2._auto_1)
  (hline:autoParam ((apos.endLine==cpos.line)=true) Z2._auto_1) (hs:autoParam (aan (e::es) X.env=(false,eval e X.env)::aan es X.env) Z2._auto_1) (hplain:autoParam ((backTo cpos (aan es X.env)).any (·.1)=false) Z2._auto_1) :
  EvS ob X (.Call (.Attribute (.Name x p) name apos) (e::es) [] cpos) (eLM m i fa):=by
 obtain ⟨t,ht,k⟩:=ha.ex
 exact ⟨_,tM PySem.F.plainAttrs_list slot hty hm ho ht hbase hfew hline hs hplain,wC hq k⟩
noncomputable def ca:LM:=fun ys xs=>match xs with
 | [x]=>if ys.length<=100000 then some (.non,ys++[x]) else none
 | _=>none
theorem dv:MtQ X.K oE ca:=by
 intro F H l ys vs ps xs z ps' Q sF hl ry rx hm k
 unfold ca at hm
 split at hm
 ·split at hm
  ·cases hm
   cases rx with
   | cons r1 r2 =>
    cases r2
    refine ⟨l,ys,_,rfl,rfl,hl,?_,k _ _ .non (ry.app (.cons r1 .nil))⟩
    rw [ry.len,aaA]; omega
  ·cases hm
 ·cases hm
end
end Q
namespace Q
open PySem L2 PyProof.Rows
section
variable {ob:ObK} {X:Cx} {a b c e ke:Expr} {es:List Expr} {f g h fk:WE} {fa:WA} {pos p apos cpos:Pos} {x name:Str}
end
noncomputable abbrev Fd:=List PV->(PV->Prop)->Prop
noncomputable def spQ (M:Md) (n:Nat) (D:Fd):Sp:=fun vs H Q _=>∃ (F:Hp) (xs:List PV) (P:PV->Prop),Same F H/\Reps M.K F vs xs/\xs.length=n/\D xs P /\
 ∀ r v F' H',P r->Same H H'->Same F F'->Same F' H'->(∀ a,F' a≠none->F a≠none\/H a=none)->Rep M.K F' v r->Q v H'
noncomputable def startE (n:Nat) (xs:List PV):En:=xs.map (fun x=>some ⟨0,x⟩)++aaC (n - xs.length) none
noncomputable def endD (P:PV->Prop):Wd:={ nx:=fun _=>P .non,rt:=fun x _=>P x }
noncomputable def run (n:Nat) (u:WS):Fd:=fun xs P=>u (endD P) (startE n xs)
noncomputable abbrev FdO:=PV->List PV->(PV->PV->Prop)->Prop
noncomputable def spO (M:Md) (n:Nat) (D:FdO):Sp:=fun vs H Q _=>∃ (F:Hp) (a:Addr) (l:List Addr) (c:PV) (ws:List V) (xs:List PV) (P:PV->PV->Prop),vs=.ref a::ws/\Same F H/\Reps M.K F ws xs/\xs.length+1=n /\
 M.ob.P F H a l c/\(∀ b∈l,H b≠none/\F b=none)/\D c xs P /\
 ∀ r c' v F' H' l',P r c'->(∀ b o,H b=some o->b∉l->H' b=some o)->(∀ b,H b≠none->H' b≠none)->Same F F'->Same F' H'->(∀ a,F' a≠none->F a≠none\/H a=none)->M.ob.P F' H' a l' c'->(∀ b∈l',H' b≠none/\F' b=none)->(∀ b∈l',b∈l\/H b=none)->Rep M.K F' v r->Q v H'
noncomputable def ob0 (P:PV->Prop) (e:En):Prop:=match e[(0:Nat)]? with
 | some (some ⟨2,c⟩)=>P c
 | _=>False
noncomputable def endO (P:PV->PV->Prop):Wd:={ nx:=fun e=>ob0 (P .non) e,rt:=fun x e=>ob0 (P x) e }
noncomputable def runO (n:Nat) (u:WS):FdO:=fun c xs P=>u (endO P) (some ⟨2,c⟩::startE (n - 1) xs)
section
variable {M:Md} {F H:Hp}
theorem eO {N:List Str} {vs:List V} (h:vs.length<=N.length):(start N vs).length=N.length:=by
 unfold L2.start
 rw [aau,aae,abO]; omega
theorem dH {n:Nat} {xs:List PV} (h:xs.length<=n):(startE n xs).length=n:=by
 unfold startE
 rw [aau,aae,abO]; omega
theorem dI {n:Nat} {xs:List PV} {i:Nat} {s:Sl} (h:(startE n xs)[i]?=some (some s)):∃ x,xs[i]?=some x/\s=⟨0,x⟩:=by
 unfold startE at h
 rcases aaO i xs.length with q | q
 ·rw [aaw (by simpa using q),aal,aab q] at h
  exact ⟨xs[i],by simp [q],(aar (aar h)).symm⟩
 ·rw [acm (by simpa using q),List.getElem?_replicate] at h
  split at h <;> cases h
theorem bJ {N:List Str} {vs:List V} {i:Nat} {v:V} (h:vs[i]?=some v):(start N vs)[i]?=some (some v):=by
 unfold L2.start
 have q:i<vs.length:=by
  rcases aaO i vs.length with q | q
  ·exact q
  ·rw [aam q] at h; cases h
 rw [aaw (by simpa using q),aal,h]; rfl
theorem qi {N:List Str} {vs:List V} {xs:List PV} (sF:Same F H) (r:Reps M.K F vs xs) (hl:xs.length<=N.length):Sok M ⟨H,F,[],fun _=>none,fun _ h=>by simp at h⟩ F (start N vs) H (startE N.length xs):=by
 have hl':vs.length<=N.length:=by rw [r.len]; exact hl
 refine ⟨sF,fun b o h _=>h,fun b h=>h,am,fun a h=>.inl h,by rw [dH hl,eO hl'],fun _=>[],fun i s h=>?_,fun i a h=>by simp at h,fun i j a _ h=>by simp at h,fun i a s h=>by cases h⟩
 obtain ⟨x,hx,rfl⟩:=dI h
 obtain ⟨v,hv,rv⟩:=r.get hx
 exact ⟨v,bJ hv,.inl ⟨rfl,rfl,rv⟩⟩
theorem pD {N:List Str} {ws:List V} {xs:List PV} {a:Addr} {l:List Addr} {c:PV} (sF:Same F H) (r:Reps M.K F ws xs) (hl:xs.length+1<=N.length) (ho:M.ob.P F H a l c) (hb:∀ b∈l,H b≠none/\F b=none) :
  Sok M ⟨H,F,l,fun i=>if i=0 then some a else none,fun b h=>(hb b h).1⟩ F (start N (.ref a::ws)) H (some ⟨2,c⟩::startE (N.length - 1) xs):=by
 have hl':ws.length+1<=N.length:=by rw [r.len]; exact hl
 refine ⟨sF,fun b o h _=>h,fun b h=>h,am,fun a h=>.inl h,?_,fun i=>if i=0 then l else [],fun i s h=>?_,fun i b h=>?_,fun i j b hij h z=>?_,fun i b s h _ _=>?_⟩
 ·rw [abj,dH (by omega),eO (by simpa using hl')]; omega
 ·cases i with
  | zero =>
   have h:s=⟨2,c⟩:=by simpa using h.symm
   subst h
   exact ⟨.ref a,bJ rfl,.inr (.inr (.inl ⟨.inl rfl,a,rfl,fun c hc=>.inl hc,ho⟩))⟩
  | succ i =>
   have h:(startE (N.length - 1) xs)[i]?=some (some s):=by simpa using h
   obtain ⟨x,hx,rfl⟩:=dI h
   obtain ⟨v,hv,rv⟩:=r.get hx
   exact ⟨v,bJ (by simpa using hv),.inl ⟨rfl,rfl,rv⟩⟩
 ·split at h
  ·exact hb b h
  ·simp at h
 ·split at h
  ·split at z
   ·rename_i h1 h2; exact hij (h1.trans h2.symm)
   ·simp at z
  ·simp at h
 ·dsimp only at h
  split at h
  ·rename_i e; subst e; cases h; exact bJ rfl
  ·cases h
end
section
variable {P:aaq} {w:World} {K:aad} {mg:Str->Option Value} {base:Heap} {ob:ObK}
theorem bB {x qual:Str} {st:Stmt} {f:Addr} {fd:aaT} {N ps:List Str} {k:Nat} {u:WS} (F:Fun K x qual st f fd) (S:aB N ps (ar st)) (hn:ps.length<=N.length)
  (hb:∀ (cdv:Value) (A:Around) (outer:List Env) (s:Shared) (H:Hp) (E:XK),Room k (A.deeper (envOfC qual (ar st) s.heap.objs.size f cdv))->EvXs ob (cxOf CX0 P w K mg base N qual (ar st) f cdv A outer s H E).nox (bz st) u) :
  FnOk P w K mg base CX0 (k+1) f fd ps (spQ ⟨P,w,K,ob⟩ ps.length (run N.length u)):=by
 refine F.ok S (fun vs H Q E h=>?_) (fun cdv A outer s H vs Q E hr h=>?_)
 ·obtain ⟨F,xs,P,_,r,hl,_⟩:=h
  rw [r.len]; exact hl
 ·obtain ⟨F,xs,P',sF,r,hl,hD,kk⟩:=h
  obtain ⟨t,ht,kt⟩:=(hb cdv A outer s H E hr).ex
  refine ⟨t,ht,kt ⟨H,F,[],fun _=>none,fun _ h=>by simp at h⟩ F (start N vs) H (startE N.length xs) (endD P') _ (qi (M:=⟨P,w,K,ob⟩) sF r (by omega)) hD ⟨fun env σ F' H' p s1 K1=>?_,fun x env v σ F' H' p s1 K1 rv=>?_,fun _ _ _ _ p=>p.elim,fun _ _ _ _ p=>p.elim,fun _ _ _ _ _ _ p=>p.elim,fun _ _ _ _ _ _ _ p=>p.elim⟩⟩
  ·exact kk .non .non F' H' p (fun b o h=>K1.sG b o h (by simp)) s1 K1.sF K1.nw .non
  ·exact kk x v F' H' p (fun b o h=>K1.sG b o h (by simp)) s1 K1.sF K1.nw rv
theorem dz {x qual:Str} {st:Stmt} {f:Addr} {fd:aaT} {N ps:List Str} {k:Nat} {u:WS} (F:Fun K x qual st f fd) (S:aB N ps (ar st)) (hn:ps.length<=N.length)
  (hb:∀ (cdv:Value) (A:Around) (outer:List Env) (s:Shared) (H:Hp) (E:XK),Room k (A.deeper (envOfC qual (ar st) s.heap.objs.size f cdv))->EvXs ob (cxOf CX0 P w K mg base N qual (ar st) f cdv A outer s H E).nox (bz st) u) :
  FnOk P w K mg base CX0 (k+1) f fd ps (spO ⟨P,w,K,ob⟩ ps.length (runO N.length u)):=by
 refine F.ok S (fun vs H Q E h=>?_) (fun cdv A outer s H vs Q E hr h=>?_)
 ·obtain ⟨F,a,l,c,ws,xs,P,rfl,_,r,hl,_⟩:=h
  rw [abj,r.len]; exact hl
 ·obtain ⟨F,a,l,c,ws,xs,P',rfl,sF,r,hl,ho,hbl,hD,kk⟩:=h
  obtain ⟨t,ht,kt⟩:=(hb cdv A outer s H E hr).ex
  have fin:∀ (x:PV) (env:En) (v:V) (σ:L2.St) (F' H':Hp),ob0 (P' x) env->Same F F'->Sok ⟨P,w,K,ob⟩ ⟨H,F,l,fun i=>if i=0 then some a else none,fun b h=>(hbl b h).1⟩ F' σ H' env->Rep K F' v x->Q v H':=fun x env v σ F' H' p s1 K1 rv=>by
   unfold ob0 at p
   split at p
   ·rename_i c' e
    obtain ⟨fp,L⟩:=K1.sl
    obtain ⟨v0,hv0,ok⟩:=L.at' 0 _ e
    have hσ:=L.oa 0 a _ rfl e rfl
    rw [hσ] at hv0; cases hv0
    rcases ok with ⟨k0,_⟩ | ⟨k0,_⟩ | ⟨_,a',e',h1,h2⟩ | ⟨k0,_⟩
    ·cases k0
    ·cases k0
    ·cases e'
     exact kk x _ v F' H' (fp 0) p (fun b o h1 h2=>K1.sG b o h1 h2) (fun b h=>K1.pr b h) s1 K1.sF K1.nw h2 (fun b hb=>L.al 0 b hb) (fun b hb=>h1 b hb) rv
    ·cases k0
   ·exact p.elim
  refine ⟨t,ht,kt ⟨H,F,l,fun i=>if i=0 then some a else none,fun b h=>(hbl b h).1⟩ F (start N (.ref a::ws)) H (some ⟨2,c⟩::startE (N.length - 1) xs) (endO P') _ (pD (M:=⟨P,w,K,ob⟩) sF r (by omega) ho hbl) hD ⟨fun env σ F' H' p s1 K1=>?_,fun x env v σ F' H' p s1 K1 rv=>?_,fun _ _ _ _ p=>p.elim,fun _ _ _ _ p=>p.elim,fun _ _ _ _ _ _ p=>p.elim,fun _ _ _ _ _ _ _ p=>p.elim⟩⟩
  ·exact fin .non env .non σ F' H' p s1 K1 .non
  ·exact fin x env v σ F' H' p s1 K1 rv
end
noncomputable def eCall (D:Fd) (fa:WA):WE:=fun env P=>fa env fun xs e=>D xs fun r=>P r e
noncomputable def eCallO (D:FdO) (i:Nat) (fa:WA):WE:=fun env P=>(env[i]?).join.isSome=true/\fa env fun xs e=>match e[i]? with
 | some (some ⟨2,c⟩)=>D c xs fun r c'=>P r (e.set i (some ⟨2,c'⟩))
 | some (some ⟨4,c⟩)=>D c xs fun r c'=>P r (e.set i (some ⟨4,c'⟩))
 | _=>False
section
variable {ob:ObK} {X:Cx} {k:Nat} {fad:Addr} {fd:aaT} {ps:List Str} {D:Fd} {DO:FdO} {x:Str} {p p1 pos:Pos} {e:Expr} {es:List Expr} {fa:WA}
theorem aJ {n:Nat} (F:FnOk X.prog X.w X.K X.mg X.base CX0 k fad fd ps (spQ (md ob X) n D)) (hr:Room k X.A) (hm:X.mg x=some (.ref fad)) (hk:abv X.K (.ref fad)=true) (hb:Binds X.K fd ps []) (ha:EvA ob X (e::es) fa) (hn:autoParam (es.length+1=n) Z2._auto_1) (hg:autoParam (Gl X x) Z2._auto_1)
  (hdb:autoParam ((x==("__debug__" : Str))=false) Z1._auto_1) (he:autoParam (aan (e::es) X.env=(false,eval e X.env)::aan es X.env) Z2._auto_1) (hpl:autoParam ((backTo pos (aan es X.env)).any (·.1)=false) Z2._auto_1) :
  EvS ob X (.Call (.Name x p) (e::es) [] pos) (eCall D fa):=by
 obtain ⟨t,ht,kt⟩:=ha.ex
 refine ⟨_,fB (E:=E0) F hr hg hm hk hb .nil pass0 ht hdb he hpl,fun Z F σ H env P Q K hf kk=>kt Z F σ H env _ _ K hf fun xs e1 vs F1 H1 p hl s1 K1 r1=>?_⟩
 rw [aby]
 refine ⟨F1,xs,fun r=>P r e1,K1.sF,r1,by rw [hl]; exact hn,p,fun r v F' H' pr sH sF sFH nw rv=>?_⟩
 exact kk r e1 v F' H' pr (ai s1 sF) (K1.move sF sFH sH nw) rv
theorem Sok.objS {M:Md} {Z:Zn} {F F' H H':Hp} {σ:L2.St} {env:En} {fp:Nat->List Addr} {i kd:Nat} {a:Addr} {c c':PV} {l':List Addr} (hk:kd=2\/kd=4) (K:Sok M Z F σ H env) (L:Slots M Z F σ H env fp) (hi:env[i]?=some (some ⟨kd,c⟩)) (hv:σ[i]?=some (some (.ref a)))
  (kp:∀ b o,H b=some o->b∉fp i->H' b=some o) (pr:∀ b,H b≠none->H' b≠none) (sF:Same F F') (sFH:Same F' H') (nw:∀ a,F' a≠none->F a≠none\/H a=none) (ho:M.ob.P F' H' a l' c') (hl:∀ b∈l',H' b≠none/\F' b=none) (hn:∀ b∈l',b∈fp i\/H b=none) :
  Sok M Z F' σ H' (env.set i (some ⟨kd,c'⟩))/\Slots M Z F' σ H' (env.set i (some ⟨kd,c'⟩)) (fun j=>if j=i then l' else fp j):=by
 obtain ⟨v0,hv0,ok0⟩:=L.at' i _ hi
 have wr:=ok0.wr
 have wr':∀ b∈l',b∈Z.S\/Z.H₀ b=none:=fun b hb=>by
  rcases hn b hb with q | q
  ·exact wr b q
  ·exact .inr (K.h0 q)
 have hlt:i<env.length:=by
  rcases aaO i env.length with q | q
  ·exact q
  ·rw [aam q] at hi; cases hi
 suffices S:Slots M Z F' σ H' (env.set i (some ⟨kd,c'⟩)) (fun j=>if j=i then l' else fp j) from ⟨⟨sFH,fun b o h1 h2=>kp b o (K.sG b o h1 h2) fun z=>(wr b z).elim h2 fun q=>(by rw [q] at h1; cases h1),fun b h=>pr b (K.pr b h),ai K.gr sF,fun a h=>(nw a h).elim (K.nw a) fun q=>.inr (K.h0 q),by simp [K.len],_,S⟩,S⟩
 refine ⟨fun j s e=>?_,fun j b h=>?_,fun j j2 b hjj h z=>?_,fun j b s e1 e2 e3=>?_⟩
 ·by_cases q:j=i
  ·subst q
   rw [abB] at e
   simp only [if_true,hlt] at e
   cases e
   exact ⟨_,hv,by rw [if_pos rfl]; exact .inr (.inr (.inl ⟨hk,a,rfl,wr',ho⟩))⟩
  ·rw [aap (abr q)] at e
   obtain ⟨v,h1,h2⟩:=L.at' j s e
   have h3:=h2.mono (H':=H') sF fun c hc=>by
    obtain ⟨o,ho⟩:=cO (L.al j c hc).1
    rw [ho]
    exact kp c o ho (L.dj j i c q hc)
   exact ⟨v,h1,by rw [if_neg q]; exact h3⟩
 ·by_cases q:j=i
  ·rw [if_pos q] at h; exact hl b h
  ·rw [if_neg q] at h
   have:=L.al j b h
   refine ⟨pr b this.1,?_⟩
   cases e:F' b with
   | none=>rfl
   | some o =>
    rcases nw b (by rw [e]; simp) with y | y
    ·exact absurd this.2 y
    ·exact absurd y this.1
 ·have mix:∀ j,j≠i->b∈l'->b∈fp j->False:=fun j hj m1 m2=>by
   rcases hn b m1 with y | y
   ·exact L.dj j i b hj m2 y
   ·exact (L.al j b m2).1 y
  by_cases q:j=i
  ·rw [if_pos q] at h
   rw [if_neg (fun y=>hjj (q.trans y.symm))] at z
   exact mix j2 (fun y=>hjj (q.trans y.symm)) h z
  ·rw [if_neg q] at h
   by_cases q2:j2=i
   ·rw [if_pos q2] at z; exact mix j q z h
   ·rw [if_neg q2] at z; exact L.dj j j2 b hjj h z
 ·by_cases q:j=i
  ·subst q
   rw [abB] at e2
   simp only [if_true,hlt] at e2
   cases e2
   exact L.oa j b _ e1 hi e3
  ·rw [aap (abr q)] at e2
   exact L.oa j b s e1 e2 e3
theorem au (i:Nat) {y:Str} {n:Nat} (F:FnOk X.prog X.w X.K X.mg X.base CX0 k fad fd ps (spO (md ob X) n DO)) (hr:Room k X.A) (hm:X.mg x=some (.ref fad)) (hk:abv X.K (.ref fad)=true) (hb:Binds X.K fd ps []) (ho:PE X (.Name y p1) (tVar i)) (ha:EvA ob X es fa) (hn:autoParam (es.length+1=n) Z2._auto_1) (hg:autoParam (Gl X x) Z2._auto_1)
  (hdb:autoParam ((x==("__debug__" : Str))=false) Z1._auto_1) (he:autoParam (aan (.Name y p1::es) X.env=(false,eval (.Name y p1) X.env)::aan es X.env) Z2._auto_1) (hpl:autoParam ((backTo pos (aan es X.env)).any (·.1)=false) Z2._auto_1) :
  EvS ob X (.Call (.Name x p) (.Name y p1::es) [] pos) (eCallO DO i fa):=by
 obtain ⟨t,ht,kt⟩:=ha.ex
 refine ⟨_,fB (E:=E0) F hr hg hm hk hb .nil pass0 (bb ho ht he) hdb he hpl,fun Z F σ H env P Q K hf kk=>?_⟩
 obtain ⟨h0,hf⟩:=hf
 obtain ⟨w,hw⟩:∃ v,σ[i]?=some (some v):=by
  cases e:env[i]? with
  | none=>rw [e] at h0; cases h0
  | some w =>
   cases w with
   | none=>rw [e] at h0; cases h0
   | some s =>
    obtain ⟨fp,L⟩:=K.sl
    obtain ⟨v,hv,_⟩:=L.at' i s e
    exact ⟨v,hv⟩
 refine ⟨w,hw,kt Z F σ H env _ _ K hf fun xs e1 vs F1 H1 p hl s1 K1 r1=>?_⟩
 show spO (md ob X) n DO ((w::vs)++[]) H1 Q E0
 rw [aby]
 have fin:∀ (kd:Nat) (c:PV),kd=2\/kd=4->e1[i]?=some (some ⟨kd,c⟩)->DO c xs (fun r c'=>P r (e1.set i (some ⟨kd,c'⟩)))->spO (md ob X) n DO (w::vs) H1 Q E0:=fun kd c hkd ei p=>by
  obtain ⟨fp,L⟩:=K1.sl
  obtain ⟨v0,hv0,ok⟩:=L.at' i _ ei
  rw [hw] at hv0; cases hv0
  rcases ok with ⟨k0,_⟩ | ⟨k0,_⟩ | ⟨_,a,rfl,_,ho⟩ | ⟨k0,_⟩
  ·rcases hkd with rfl | rfl <;> cases k0
  ·rcases hkd with rfl | rfl <;> cases k0
  ·refine ⟨F1,a,fp i,c,vs,xs,_,rfl,K1.sF,r1,by rw [hl]; exact hn,ho,fun b hb=>L.al i b hb,p,fun r c' v F' H' l' pr kp pre sF sFH nw ho' hl' hn' rv=>?_⟩
   exact kk r _ v F' H' pr (ai s1 sF) (K1.objS hkd L ei hw kp pre sF sFH nw ho' hl' hn').1 rv
  ·rcases hkd with rfl | rfl <;> cases k0
 split at p
 ·rename_i ei; exact fin _ _ (.inl rfl) ei p
 ·rename_i ei; exact fin _ _ (.inr rfl) ei p
 ·exact p.elim
theorem bg {P:aaq} {w:World} {K:aad} {mg:Str->Option Value} {base:Heap} {n:Nat} {D D':Fd} (F:FnOk P w K mg base CX0 k fad fd ps (spQ ⟨P,w,K,ob⟩ n D)) (h:∀ xs P,D' xs P->D xs P):FnOk P w K mg base CX0 k fad fd ps (spQ ⟨P,w,K,ob⟩ n D') :=
 F.imp fun vs H Q E ⟨F,xs,P,a,b,c,d,e⟩=>⟨F,xs,P,a,b,c,h _ _ d,e⟩
theorem cA {P:aaq} {w:World} {K:aad} {mg:Str->Option Value} {base:Heap} {n:Nat} {D D':FdO} (F:FnOk P w K mg base CX0 k fad fd ps (spO ⟨P,w,K,ob⟩ n D)) (h:∀ c xs P,D' c xs P->D c xs P):FnOk P w K mg base CX0 k fad fd ps (spO ⟨P,w,K,ob⟩ n D') :=
 F.imp fun vs H Q E q=>by
  obtain ⟨F,a,l,c,ws,xs,P,a1,a2,a3,a4,a5,a6,a7,a8⟩:=q
  exact ⟨F,a,l,c,ws,xs,P,a1,a2,a3,a4,a5,a6,h _ _ _ a7,a8⟩
end
end Q
namespace Q
open PySem L2 PyProof.Rows
theorem hu1 {k:Nat} {A:Around} (r:Room k A):A.units+1<cLine:=by have:=r.un; omega
theorem hu0 {k:Nat} {A:Around} (r:Room k A):A.units<cLine:=by have:=r.un; omega
theorem hu60 {k:Nat} {A:Around} (r:Room k A):A.units+60<cLine:=by have:=r.un; omega
theorem hu62 {k:Nat} {A:Around} (r:Room k A):A.units+62<cLine:=by have:=r.un; omega
noncomputable def tyPV:PV->Option String
 | .non=>some "NoneType"
 | .bl _=>some "bool"
 | .int _=>some "int"
 | .str _=>some "str"
 | .tup _=>some "tuple"
 | .lst _=>some "list"
 | .dic _=>some "dict"
 | _=>none
noncomputable def isaP (T c:String):Bool:=T==c || (T == "bool" && c == "int")
noncomputable def isiPV (c:String) (x:PV):Option PV:=(tyPV x).map fun T=>.bl (isaP T c)
noncomputable def eIsi (c:String) (a:WE):WE:=eUn (isiPV c) a
theorem wF {K:aad} {x:PV} {T:String} (h:tyPV x=some T) (c:String) (hc:c = "str" \/ c = "tuple" \/ c = "int" \/ c = "bool" \/ c = "list" \/ c = "dict"):ad0 K (.type T) (.type c)=some (isaP T c):=by
 cases x <;> cases h <;> rcases hc with rfl | rfl | rfl | rfl | rfl | rfl <;> rfl
section
variable {ob:ObK} {X:Cx} {a b c e:Expr} {es:List Expr} {f g h:WE} {fa:WA} {pos p p1:Pos} {x:Str}
noncomputable def rIsiT (K:aad) (cl:String):List V->Hp->VK->Prop:=fun xs H Q=>rIsi K xs H Q\/∃ p vs,xs=[.ref p,.ty cl]/\SqT K H p vs/\ad0 K (.type "tuple") (.type cl)=some (isaP "tuple" cl)/\Q (.bl (isaP "tuple" cl)) H
theorem xf {cl:String}:CallR X (.builtin "isinstance") (rIsiT X.K cl):=by
 refine CallR.or tG ?_
 intro pins s σ H xs us Q I r h
 obtain ⟨p,vs,rfl,hp,hk,q⟩:=h
 cases r with
 | cons r1 r2 =>
  cases r2 with
  | cons r2 r3 =>
   cases r3
   cases r2
   cases r1
   obtain ⟨its,_,⟨o,h1,h2,_⟩,_⟩:=I.tuple hp
   exact abo PySem.W.kitx_tuple I.kIn ⟨o,h1,h2⟩ hk (fun z=>nomatch z) fun tk=>⟨.bl _,H,I.tok tk,rfl,q⟩
theorem jY (cl:String) {T:Str} (hc:cl = "str" \/ cl = "tuple" \/ cl = "int" \/ cl = "bool" \/ cl = "list" \/ cl = "dict") (hm:X.mg "isinstance" = none) (hT:X.mg T=none) (hb:abZ T=some (.type cl)) (ha:EvW ob X a f) (hg:autoParam (Gl X "isinstance") Z2._auto_1) (hgT:autoParam (Gl X T) Z2._auto_1) (hn:autoParam (T ≠ "__name__") Z1._auto_1) (hdb:autoParam ((T==("__debug__" : Str))=false) Z1._auto_1)
  (he:autoParam (aan [a,.Name T p1] X.env=(false,eval a X.env)::aan [.Name T p1] X.env) Z2._auto_1) (he2:autoParam (aan [.Name T p1] X.env=(false,eval (.Name T p1) X.env)::aan [] X.env) Z2._auto_1) (hpl:autoParam ((backTo pos (aan [.Name T p1] X.env)).any (·.1)=false) Z2._auto_1) :
  EvS ob X (.Call (.Name "isinstance" p) [a,.Name T p1] [] pos) (eIsi cl f):=by
 obtain ⟨t,ht,k⟩:=ha.ex
 refine ⟨_,bC (xf (cl:=cl)) hg hm boot_isinstance (bb ht (bb (uo (v:=.ty cl) hgT hT hb rfl hn hdb) bG he2) he) (by decide) (by decide) he hpl,fun Z F σ H env P Q K hf kk=>k Z F σ H env _ _ K hf fun x e1 v F1 H1 p s1 K1 r1=>?_⟩
 obtain ⟨z,hz,p⟩:=p
 unfold isiPV at hz
 rw [aaF] at hz
 obtain ⟨T',hT',rfl⟩:=hz
 have fin:∀ w,Rep X.K F1 w (.bl (isaP T' cl))->Q w H1:=fun w r=>kk _ e1 _ F1 H1 p s1 K1 r
 have q:=fin _ (.bl _)
 have kt:=wF (K:=X.K) hT' cl hc
 show rIsiT X.K cl [v,.ty cl] H1 Q
 cases x <;> cases hT'
 ·rw [r1.non]; exact .inl ⟨_,_,_,_,rfl,.non,kt,q⟩
 ·rw [r1.bl]; exact .inl ⟨_,_,_,_,rfl,.bl _,kt,q⟩
 ·rw [r1.int]; exact .inl ⟨_,_,_,_,rfl,.int _,kt,q⟩
 ·rw [r1.str]; exact .inl ⟨_,_,_,_,rfl,.str _,kt,q⟩
 ·obtain ⟨q',vs,rfl,h1,h2⟩:=r1.tup K1.sF
  exact .inr ⟨q',vs,rfl,h1,kt,q⟩
 ·obtain ⟨q',vs,rfl,h1,h2⟩:=r1.lst K1.sF
  exact .inl ⟨_,_,_,_,rfl,.lst h1,kt,q⟩
 ·obtain ⟨q',vs,rfl,h1,h2⟩:=r1.dic K1.sF
  exact .inl ⟨_,_,_,_,rfl,.dK h1,kt,q⟩
noncomputable def eChain (o o':PV->PV->Option PV) (fa fb fc:WE):WE:=fun env P=>fa env fun x e1=>fb e1 fun y e2=>opt (o x y) fun z=>opt (blPV z) fun k=>if k=true then fc e2 fun w e3=>opt (o' y w) fun z'=>P z' e3 else P (.bl false) e2
end
end Q
namespace Q
open PySem L2 PyProof.Rows
section
variable {ob:ObK} {X:Cx} {a b c e:Expr} {es:List Expr} {f g h:WE} {fa:WA} {pos p p1:Pos} {x:Str}
theorem vd {i:Int} (hm:∃ t,X.mg x=some (.int i t)) (hg:autoParam (Gl X x) Z2._auto_1) (hd:autoParam ((x==("__debug__" : Str))=false) Z1._auto_1):EvS ob X (.Name x pos) (eC (.int i)):=by
 obtain ⟨t,hm⟩:=hm
 exact ga (um (v:=.int i) hg hm ⟨t,rfl⟩ hd) fun _=>.int i
theorem lK {o o':PV->PV->Option PV} {r r':R2} {ta tb tc:TE} (hq:OpQ ob X r o) (hq':OpQ ob X r' o')
  (ka:∀ (Z:Zn) (F:Hp) (σ:L2.St) (H:Hp) (env:En) (P:PV->En->Prop) (Q:VK),Sok (md ob X) Z F σ H env->f env P->(∀ x env' v F' H',P x env'->Same F F'->Sok (md ob X) Z F' σ H' env'->Rep X.K F' v x->Q v H')->ta σ H Q)
  (kb:∀ (Z:Zn) (F:Hp) (σ:L2.St) (H:Hp) (env:En) (P:PV->En->Prop) (Q:VK),Sok (md ob X) Z F σ H env->g env P->(∀ x env' v F' H',P x env'->Same F F'->Sok (md ob X) Z F' σ H' env'->Rep X.K F' v x->Q v H')->tb σ H Q)
  (kc:∀ (Z:Zn) (F:Hp) (σ:L2.St) (H:Hp) (env:En) (P:PV->En->Prop) (Q:VK),Sok (md ob X) Z F σ H env->h env P->(∀ x env' v F' H',P x env'->Same F F'->Sok (md ob X) Z F' σ H' env'->Rep X.K F' v x->Q v H')->tc σ H Q) :
  ∀ (Z:Zn) (F:Hp) (σ:L2.St) (H:Hp) (env:En) (P:PV->En->Prop) (Q:VK),Sok (md ob X) Z F σ H env->eChain o o' f g h env P->(∀ x env' v F' H',P x env'->Same F F'->Sok (md ob X) Z F' σ H' env'->Rep X.K F' v x->Q v H')->tChain r r' ta tb tc σ H Q:=by
 intro Z F σ H env P Q K hf kk
 refine ka Z F σ H env _ _ K hf fun x e1 v F1 H1 p s1 K1 r1=>kb Z F1 σ H1 e1 _ _ K1 p fun y e2 u F2 H2 p2 s2 K2 r2=>?_
 obtain ⟨z,hz,k,hk,p2⟩:=p2
 refine hq Z F2 σ H2 e2 v u x y z _ K2 (.inl (r1.mono s2)) (.inl r2) hz fun v' F3 H3 s3 K3 r3=>?_
 obtain ⟨rfl,rfl⟩:=kZ r3 hk
 refine ⟨k,rfl,?_⟩
 cases k with
 | true =>
  refine iteT (kc Z F3 σ H3 e2 _ _ K3 p2 fun w e4 w' F4 H4 p4 s4 K4 r4=>?_)
  obtain ⟨z',hz',p4⟩:=p4
  exact hq' Z F4 σ H4 e4 u w' y w z' Q K4 (.inl ((r2.mono s3).mono s4)) (.inl r4) hz' fun v5 F5 H5 s5 K5 r5=>kk z' e4 v5 F5 H5 p4 (ai s1 (ai s2 (ai s3 (ai s4 s5)))) K5 r5
 | false=>exact iteF (kk _ e2 _ F3 H3 p2 (ai s1 (ai s2 s3)) K3 (.bl _))
theorem tm {op op':CmpOp} {o o':PV->PV->Option PV} {r r':R2} (ho:OpR X (aaS op) r) (hq:OpQ ob X r o) (ho':OpR X (aaS op') r') (hq':OpQ ob X r' o') (ha:EvS ob X a f) (hb:EvS ob X b g) (hc:EvS ob X c h)
  (hm:autoParam (lastMarks [op,op'] [b,c]=false) Z4._auto_1):EvS ob X (.Compare a [op,op'] [b,c] pos) (eChain o o' f g h):=by
 obtain ⟨ta,ha,ka⟩:=ha.ex
 obtain ⟨tb,hb,kb⟩:=hb.ex
 obtain ⟨tc,hc,kc⟩:=hc.ex
 exact ⟨_,sx ho ho' ha hb hc hm,lK hq hq' ka kb kc⟩
theorem tu {op op':CmpOp} {o o':PV->PV->Option PV} {r r':R2} (ho:OpR X (aaS op) r) (hq:OpQ ob X r o) (ho':OpR X (aaS op') r') (hq':OpQ ob X r' o') (ha:EvS ob X a f) (hb:EvS ob X b g) (hc:EvS ob X c h)
  (hm:autoParam (lastMarks [op,op'] [b,c]=false) Z4._auto_1):EvT ob X (.Compare a [op,op'] [b,c] pos) (tBool (eChain o o' f g h)):=by
 obtain ⟨ta,ha,ka⟩:=ha.ex
 obtain ⟨tb,hb,kb⟩:=hb.ex
 obtain ⟨tc,hc,kc⟩:=hc.ex
 refine ⟨_,si ho ho' ha hb hc hm,fun Z F σ H env P Q K hf k=>lK hq hq' ka kb kc Z F σ H env _ _ K hf fun x e1 v F1 H1 p s1 K1 r1=>?_⟩
 obtain ⟨z,hz,p⟩:=p
 cases x <;> try (cases hz)
 cases r1
 exact ⟨_,rfl,k _ e1 F1 H1 p s1 K1⟩
end
section
variable {ob:ObK} {X:Cx} {tg elt iter kx vx:Expr} {ifs:List Expr} {scope:Scope} {pos:Pos} {fi:WA} {T:Tgt} {c:WT} {f fk:WE} {N:List Str} {js:List (Option Nat)}
theorem Sok.takeV {M:Md} {Z:Zn} {F H:Hp} {σ:L2.St} {env:En} {v:V} {x:PV} {i:Nat} (K:Sok M Z F (σ++[some v]) H (env++[some ⟨1,x⟩])) (hx:∀ xs,x≠.set xs):∃ F',Same F F'/\Sok M Z F' (σ.set i (some v)) H (env.set i (some ⟨0,x⟩)):=by
 obtain ⟨F',s,K',r⟩:=K.freezeL hx
 exact ⟨F',s,K'.put r⟩
theorem rj (i:Nat) {y:Str} {py spos:Pos} (hN:X.N.Nodup) (hy:X.N[i]?=some y) (hk:X.env.scope.names.lookup y=some .local) (hi:EvI ob X tg iter fi) (hg:∀ C s₀ H₀ ex pn,PG (cxComp X scope N C s₀ H₀ ex pn) tg (tgL X.K T)) (ht:∀ C s₀ H₀ ex pn,EvC ob (cxComp X scope N C s₀ H₀ ex pn) ifs c) (he:∀ C s₀ H₀ ex pn,EvS ob (cxComp X scope N C s₀ H₀ ex pn) elt f)
  (hj:autoParam (jsOk js=true) Z2._auto_1) (hT:autoParam (tgFree js T=true) Z2._auto_1)
  (hsw:autoParam (acp (.ListComp elt [⟨tg,iter,ifs,0⟩] scope pos) (some (.Name y py)) spos.line X.env=pure true) Z2._auto_1)
  (hc:autoParam (X.calm=true) Z2._auto_1) (hx:autoParam (X.xe=(fun _ _=>False)) Z2._auto_1) (hsc:autoParam (scOk X.env scope=true) Z2._auto_1) (hcap:autoParam (capOk X.N scope N js=true) Z2._auto_1) (hkind:autoParam (scope.kind=.function) Z2._auto_1) (hs:autoParam (∀ x,abb iter X.env x=pure x) Z3._auto_1) :
  EvX ob X (.Assign [.Name y py] (.ListComp elt [⟨tg,iter,ifs,0⟩] scope pos) spos) (sSet i (eLC fi T c f js)):=by
 obtain ⟨wi,hwi,k⟩:=hi.ex
 refine ⟨_,xp (i:=i) (wi:=wi) (g:=tgL X.K T) (tc:=rdT (md ob X) c) (te:=rdE (md ob X) f) (js:=js) hN hy hk hwi hg (fun C s₀ H₀ ex pn=>(ht C s₀ H₀ ex pn).ex) (fun C s₀ H₀ ex pn=>(he C s₀ H₀ ex pn).pe) (dg hT) hsw hc hx hsc hcap hkind hs,fun Z F σ H env P D K hf L=>?_⟩
 refine k Z F σ H env _ _ K hf fun xs e1 J F1 H1 p s1 K1 I1 l hl=>?_
 refine oO (P:=fun x e=>P.nx (e.set i (some ⟨0,x⟩))) (Q:=fun v H'=>D.nx (σ.set i (some v)) H') hj hT K1 I1 p (fun x e2 v F2 H2 p2 s2 hx2 K2=>?_) l hl
 obtain ⟨F3,s3,K3⟩:=K2.takeV (i:=i) hx2
 exact L.nx _ _ F3 H2 p2 (ai s1 (ai s2 s3)) K3
end
section
variable {ob:ObK} {X:Cx} {a b c e:Expr} {es:List Expr} {f g h:WE} {fa:WA} {pos p p1:Pos} {x:Str}
end
section
variable {P:aaq} {w:World} {K:aad} {mg:Str->Option Value} {base:Heap} {ob:ObK}
end
section
variable {ob:ObK} {X:Cx} {k:Nat} {fad:Addr} {fd:aaT} {ps:List Str} {D:Fd} {DO:FdO} {x:Str} {p p1 pos:Pos} {e:Expr} {es:List Expr} {fa:WA}
end
end Q
namespace L2
open PySem PySem.Spec PyProof.Rows PySem.W
noncomputable def tabE (P:Addr) (ps:Array Value):HO:=.ext fun h=>h.get? P=some (tabObj ps)
noncomputable def codeE (c:Addr) (lq:Str):HO:=.ext fun h=>h.CodeRec (.ref c) lq
theorem mx {P:aaq} {w:World} {H:Hp} {h:Heap} {a:Addr} {ps:Array Value} (e:h.get? a=some (tabObj ps)):ObjOk P w H h a (tabE a ps):=⟨e,⟨_,e⟩,fun h1 h2 x k=>k _ x⟩
end L2
namespace Pre
open PySem L2
structure Sta (H:Hp) (a b:Addr):Prop where
 st:∃ (ns:List Int) (z:Int),H a=some (.lst [.ref b,.int z])/\H b=some (.lst (ns.map V.int))/\(∀ n∈ns,0<=n)/\0<=z/\z<2305843009213693951
noncomputable def But (a b:Addr) (H H':Hp):Prop:=∀ c o,H c=some o->c≠a->c≠b->H' c=some o
theorem But.refl (a b:Addr) (H:Hp):But a b H H:=fun _ _ h _ _=>h
theorem Sta.ne {H:Hp} {a b:Addr} (s:Sta H a b):a≠b:=by
 obtain ⟨ns,z,h1,h2,_⟩:=s.st
 refine xB h1 h2 fun e=>?_
 injection e with e
 cases ns with
 | nil=>cases e
 | cons n r=>injection e with e _; cases e
theorem Sta.grow {H:Hp} {a b p:Addr} {o:HO} (s:Sta H a b) (hp:H p=none):Sta (upd H p o) a b:=by
 obtain ⟨ns,z,h1,h2,h3⟩:=s.st
 exact ⟨ns,z,by rw [ak (ax h1 hp)]; exact h1,by rw [ak (ax h2 hp)]; exact h2,h3⟩
theorem But.grow {a b p:Addr} {H H':Hp} {o:HO} (x:But a b H H') (hp:H' p=none):But a b H (upd H' p o):=fun c u h h1 h2=>by
 have q:=x c u h h1 h2
 rw [ak (ax q hp)]; exact q
theorem But.seta {a b:Addr} {H H':Hp} {o:HO} (x:But a b H H'):But a b H (upd H' a o):=fun c u h h1 h2=>by rw [ak h1]; exact x c u h h1 h2
theorem But.setb {a b:Addr} {H H':Hp} {o:HO} (x:But a b H H'):But a b H (upd H' b o):=fun c u h h1 h2=>by rw [ak h2]; exact x c u h h1 h2
theorem Sta.setb {H:Hp} {a b:Addr} {ns:List Int} (s:Sta H a b) (hn:∀ n∈ns,0<=n):Sta (upd H b (.lst (ns.map V.int))) a b:=by
 have hne:=s.ne
 obtain ⟨_,z,h1,h2,_,h3⟩:=s.st
 exact ⟨ns,z,by rw [ak hne]; exact h1,ao,hn,h3⟩
theorem Sta.seta {H:Hp} {a b:Addr} {z:Int} (s:Sta H a b) (h0:0<=z) (h1:z<2305843009213693951):Sta (upd H a (.lst [.ref b,.int z])) a b:=by
 have hne:=s.ne
 obtain ⟨ns,_,_,h2,h3,_⟩:=s.st
 exact ⟨ns,z,ao,by rw [ak hne.symm]; exact h2,h3,h0,h1⟩
noncomputable def stK (b:Addr) (left seed many:Int):List (Key×V):=[(.inr (aaN "cells"),.ref b),(.inr (aaN "left"),.int left),(.inr (aaN "seed"),.int seed),(.inr (aaN "many"),.int many)]
structure StD (H:Hp) (a b:Addr) (f:Nat):Prop where
 st:∃ (ns:List Int) (left seed many:Int),H a=some (.dK (stK b left seed many))/\H b=some (.lst (ns.map V.int))/\0<=left/\0<=seed/\seed<2305843009213693951/\0<=many/\many+f<=1152921504606846976
noncomputable def hU (K:aad):Sp:=fun vs H Q _=>∃ (s:Addr) (ns:List Int),vs=[.ref s]/\SqL K H s (ns.map V.int)/\ns.length<=63/\∀ (a b:Addr) (H':Hp),H a=none->H b=none->Sta H' a b->Same H H'->Q (.ref a) H'
noncomputable def spNext:Sp:=fun vs H Q _=>∃ (a b:Addr) (m:Int),vs=[.ref a,.int m]/\Sta H a b/\0<m/\m<1073741824/\∀ (r:Int) (H':Hp),0<=r->r<m->Sta H' a b->But a b H H'->Q (.int r) H'
end Pre
namespace Q
open PySem L2 PyProof.Rows
noncomputable def DolAt (K:aad) (F H:Hp) (a:Addr) (l:List Addr) (x:PV):Prop:=∃ ks:List (Key×Addr×List PV),x=.dic (ks.map fun t=>(t.1,.lst t.2.2))/\l=a::ks.map (·.2.1)/\H a=some (.dK (ks.map fun t=>(t.1,.ref t.2.1))) /\
 (ks.map (·.2.1)).Nodup/\∀ t∈ks,∃ vs,H t.2.1=some (.lst vs)/\Reps K F vs t.2.2
noncomputable def tabPV (lq:Str) (ln co:Nat) (P:Addr):PV:=.tup [.str lq,.int ln,.int co,.int (P:Nat)]
noncomputable def TabAt (H:Hp) (a:Addr) (l:List Addr) (x:PV):Prop:=∃ (lq:Str) (ln co:Nat) (ps:Array Value),x=tabPV lq ln co a/\H a=some (tabE a ps)/\PySem.TriplesOk ps.toList /\
 ((l=[a]/\ab8 ⟨ln,co,0,0⟩ ps.toList=none)\/∃ c',c'≠a/\l=[a,c']/\ab8 ⟨ln,co,0,0⟩ ps.toList=some (.ref c')/\H c'=some (codeE c' lq))
noncomputable def StaAt (H:Hp) (a:Addr) (l:List Addr) (x:PV):Prop:=(x=.non/\∃ b,l=[a,b]/\Pre.Sta H a b)\/∃ (f:Nat) (b:Addr),x=.int f/\l=[a,b]/\Pre.StD H a b f
noncomputable def obG (K:aad):ObK where
 P:=fun F H a l x=>StaAt H a l x\/DolAt K F H a l x\/TabAt H a l x
 mono:=fun F F' H H' a l x h s e=>by
  rcases h with (⟨h0,b,rfl,ns,z,h1,h2,h3⟩ | ⟨f,b,h0,rfl,ns,q1,q2,q3,h1,h2,h3⟩) | ⟨ks,rfl,rfl,h1,h2,h3⟩ | ⟨lq,ln,co,ps,rfl,h1,h2,h3⟩
  ·exact .inl (.inl ⟨h0,b,rfl,ns,z,(e a (by simp)).trans h1,(e b (by simp)).trans h2,h3⟩)
  ·exact .inl (.inr ⟨f,b,h0,rfl,ns,q1,q2,q3,(e a (by simp)).trans h1,(e b (by simp)).trans h2,h3⟩)
  ·refine .inr (.inl ⟨ks,rfl,rfl,(e a (by simp)).trans h1,h2,fun t ht=>?_⟩)
   obtain ⟨vs,q1,q2⟩:=h3 t ht
   exact ⟨vs,(e _ (aav _ (abt (f:=fun t=>t.2.1) ht))).trans q1,q2.mono s⟩
  ·refine .inr (.inr ⟨lq,ln,co,ps,rfl,?_,h2,?_⟩)
   ·rcases h3 with ⟨rfl,_⟩ | ⟨c',_,rfl,_⟩
    ·exact (e a (by simp)).trans h1
    ·exact (e a (by simp)).trans h1
   ·rcases h3 with ⟨rfl,h4⟩ | ⟨c',h4,rfl,h5,h6⟩
    ·exact .inl ⟨rfl,h4⟩
    ·exact .inr ⟨c',h4,rfl,h5,(e c' (by simp)).trans h6⟩
noncomputable def aD:FdO:=fun c xs P=>c=.non/\∃ m:Int,xs=[.int m]/\0<m/\m<1073741824/\∀ r:Int,0<=r->r<m->P (.int r) .non
theorem oA {H:Hp} {a b:Addr} (s:Pre.Sta H a b):H a≠none/\H b≠none:=by
 obtain ⟨ns,z,h1,h2,_⟩:=s.st
 exact ⟨by rw [h1]; simp,by rw [h2]; simp⟩
theorem sL {P:aaq} {w:World} {K:aad} {mg:Str->Option Value} {base:Heap} {k:Nat} {fad:Addr} {fd:aaT} {ps:List Str} (F:FnOk P w K mg base CX0 k fad fd ps Pre.spNext):FnOk P w K mg base CX0 k fad fd ps (spO ⟨P,w,K,obG K⟩ 2 aD):=by
 refine F.imp fun vs H Q E h=>?_
 obtain ⟨F,a,l,c,ws,xs,P',rfl,sF,r,hl,ho,hb,⟨rfl,m,rfl,m0,m1,hP⟩,kk⟩:=h
 obtain ⟨b,rfl,S⟩:∃ b,l=[a,b]/\Pre.Sta H a b:=by
  rcases ho with (⟨_,h⟩ | ⟨_,_,h,_⟩) | ⟨ks,h,_⟩ | ⟨_,_,_,_,h,_⟩
  ·exact h
  ·cases h
  ·cases h
  ·cases h
 cases r with
 | cons r1 r2 =>
  cases r2
  cases r1
  refine ⟨a,b,m,rfl,S,m0,m1,fun r H' r0 r1 S' hB=>?_⟩
  have two:=oA S'
  have keep:∀ c o,H c=some o->c∉[a,b]->H' c=some o:=fun c o h hn=>by
   simp at hn
   exact hB c o h hn.1 hn.2
  refine kk (.int r) .non (.int r) F H' [a,b] (hP r r0 r1) keep (fun c h=>?_) am (fun c o h=>?_) (fun c h=>.inl h) (.inl (.inl ⟨rfl,b,rfl,S'⟩)) (fun c hc=>?_) (fun c hc=>.inl hc) (.int r)
  ·by_cases q:c∈[a,b]
   ·simp at q
    rcases q with rfl | rfl
    ·exact two.1
    ·exact two.2
   ·obtain ⟨o,ho⟩:=cO h
    rw [keep c o ho q]; simp
  ·refine keep c o (sF c o h) fun q=>?_
   have:=(hb c q).2
   rw [h] at this; cases this
  ·refine ⟨?_,(hb c hc).2⟩
   simp at hc
   rcases hc with rfl | rfl
   ·exact two.1
   ·exact two.2
noncomputable def sBegin (i j:Nat):WS:=fun P env=>match env[j]? with
 | some (some ⟨0,x⟩)=>(∃ ns:List Int,(x=.scr ns\/x=.lst (ns.map .int))/\ns.length<=63)/\P.nx (env.set i (some ⟨4,.non⟩))
 | _=>False
theorem mH {K:aad} {F:Hp} {ns:List Int} {vs:List V} (h:Reps K F vs (ns.map PV.int)):vs=ns.map V.int:=by
 induction ns generalizing vs with
 | nil=>cases h; rfl
 | cons n ns ih=>cases h with
  | cons a r=>cases a; exact congrArg (List.cons _) (ih r)
section
variable {X:Cx} {k:Nat} {fad:Addr} {fd:aaT} {ps:List Str} {x y:Str} {p p1 pos pos':Pos}
theorem sZ (i j:Nat) (hN:X.N.Nodup) (hi:X.N[i]?=some y) (hx:Loc X.env.scope y) (F:FnOk X.prog X.w X.K X.mg X.base CX0 k fad fd ps (Pre.hU X.K)) (hr:Room k X.A) (hm:X.mg "_law_begin" = some (.ref fad)) (hk:abv X.K (.ref fad)=true) (hb:Binds X.K fd ps []) (ho:PE X (.Name x p1) (tVar j))
  (hg:autoParam (Gl X "_law_begin") Z2._auto_1) (he:autoParam (aan [.Name x p1] X.env=(false,eval (.Name x p1) X.env)::aan [] X.env) Z2._auto_1) (hpl:autoParam ((backTo pos (aan [] X.env)).any (·.1)=false) Z2._auto_1)
  {spos:Pos} (hs:autoParam (acp (.Call (.Name "_law_begin" p) [.Name x p1] [] pos) (some (.Name y pos')) spos.line X.env=pure false) Z2._auto_1) (hf:autoParam (X.fn y=true\/X.env.scope.names.lookup y=some .local) Z0._auto_1) :
  EvX (obG X.K) X (.Assign [.Name y pos'] (.Call (.Name "_law_begin" p) [.Name x p1] [] pos) spos) (sBegin i j):=by
 refine ⟨_,dZ hN hi hx (fB (E:=E0) F hr hg hm hk hb .nil pass0 (bb ho bG he) (by decide) he hpl) hs hf,fun Z F σ H env P D K hf L=>?_⟩
 unfold sBegin at hf
 split at hf
 ·rename_i v ej
  obtain ⟨⟨ns,hv,hn⟩,hp⟩:=hf
  obtain ⟨w,hw,r⟩:=K.val ej
  obtain ⟨s,rfl,hs⟩:∃ s,w=.ref s/\SqL X.K H s (ns.map V.int):=by
   rcases hv with rfl | rfl
   ·cases r with
    | scr h=>exact ⟨_,rfl,dL K.sF h.sq⟩
   ·cases r with
    | lst h1 h2 =>
     have:=mH h2
     subst this
     exact ⟨_,rfl,.inl (.inl (K.sF _ _ h1))⟩
  refine ⟨_,hw,s,ns,rfl,hs,hn,fun a b H' ha hb S sH=>?_⟩
  have hFa:F a=none:=Same.none_of K.sF ha
  have hFb:F b=none:=Same.none_of K.sF hb
  have K1:Sok (md (obG X.K) X) Z F σ H' env:=K.move am (ai K.sF sH) sH fun _ h=>.inl h
  obtain ⟨fp,L0⟩:=K.sl
  have L1:Slots (md (obG X.K) X) Z F σ H' env fp:=L0.move am (fun _ c o _ e=>sH c o e) fun _ h=>.inl h
  have two:=oA S
  refine L.nx _ _ F H' hp am ?_
  rcases aaO i env.length with hlt | hge
  case inr =>
   rw [abD hge,abD (by have:=K.len; omega)]
   exact K1
  refine K1.slots (by simp [K.len]) (L1.put (l:=[a,b]) (by simp) (by have:=K.len; omega) (.inr (.inr (.inl ⟨.inr rfl,a,rfl,fun c hc=>.inr ?_,   .inl (.inl ⟨rfl,b,rfl,S⟩)⟩))) (fun c hc=>?_) fun j c _ hc hj=>?_)
  ·simp at hc
   rcases hc with rfl | rfl
   ·exact K.h0 ha
   ·exact K.h0 hb
  ·simp at hc
   rcases hc with rfl | rfl
   ·exact ⟨two.1,hFa⟩
   ·exact ⟨two.2,hFb⟩
  ·have:=(L0.al j c hj).1
   simp at hc
   rcases hc with rfl | rfl
   ·exact this ha
   ·exact this hb
 ·exact hf.elim
end
end Q
namespace Q
open PySem L2 PyProof.Rows
section
variable {M:Md} {Z:Zn} {F H:Hp} {σ:L2.St} {env:En} {p:Addr} {o:HO}
end
noncomputable def dispP:List (Key×PV)->List (Key×PV):=fun kvs=>kvs.foldl (fun acc kv=>putP acc kv.1 kv.2) []
noncomputable def eDs:List (WE×WE)->List (Key×PV)->WE
 | [],acc=>fun env P=>P (.dic (dispP acc)) env
 | (fk,fv)::r,acc=>fun env P=>fk env fun y e1=>fv e1 fun v e2=>opt (keyP y) fun k=>eDs r (acc++[(k,v)]) e2 P
inductive EvDs (ob:ObK) (X:Cx):List (Option Expr)->List Expr->List (WE×WE)->Prop where
 | nil:EvDs ob X [] [] []
 | cons {k v:Expr} {ks:List (Option Expr)} {vs:List Expr} {fk fv:WE} {l:List (WE×WE)}:EvS ob X k fk->EvS ob X v fv->EvDs ob X ks vs l->EvDs ob X (some k::ks) (v::vs) ((fk,fv)::l)
section
variable {ob:ObK} {X:Cx} {pos:Pos}
theorem EvDs.run {keys:List (Option Expr)} {values:List Expr} {l:List (WE×WE)} (h:EvDs ob X keys values l):∃ trs,PPs X pos keys values trs/\∀ (Z:Zn) (F:Hp) (σ:L2.St) (H:Hp) (env:En) (P:PV->En->Prop) (acc:List (Key×PV)) (va:List (Key×V)) (Q:List (V×V)->Hp->Prop),Sok (md ob X) Z F σ H env->RepsK X.K F va acc->eDs l acc env P ->
  (∀ kvs vs env' F' H',P (.dic (dispP kvs)) env'->Same F F'->Sok (md ob X) Z F' σ H' env'->RepsK X.K F' (va++vs) kvs->vs.length=keys.length->Q (vs.map fun kv=>(kV kv.1,kv.2)) H')->tPairs trs σ H Q:=by
 induction h with
 | nil=>exact ⟨[],uj,fun Z F σ H env P acc va Q K ra hf kk=>kk acc [] env F H hf am K (by rw [aby]; exact ra) rfl⟩
 | cons hk hv _ ih =>
  obtain ⟨tk,htk,kk⟩:=hk.ex
  obtain ⟨tv,htv,kv⟩:=hv.ex
  obtain ⟨trs,htr,kr⟩:=ih
  refine ⟨_,sk htk htv htr,fun Z F σ H env P acc va Q K ra hf fin=>?_⟩
  refine kk Z F σ H env _ _ K hf fun y e1 y' F1 H1 p1 s1 K1 r1=>kv Z F1 σ H1 e1 _ _ K1 p1 fun v e2 v' F2 H2 p2 s2 K2 r2=>?_
  obtain ⟨k,hk,p2⟩:=p2
  have hy:=oU hk (r1.mono s2)
  subst hy
  refine kr Z F2 σ H2 e2 P _ (va++[(k,v')]) _ K2 ((ra.mono (ai s1 s2)).app (.cons r2 .nil)) p2 fun kvs vs e3 F3 H3 p3 s3 K3 r3 hl=>?_
  exact fin kvs ((k,v')::vs) e3 F3 H3 p3 (ai s1 (ai s2 s3)) K3 (by simpa using r3) (by simp [hl])
variable {e:Expr} {f:WE} {x:Str} {p apos cpos spos pos':Pos}
end
end Q
namespace Q
open PySem L2 PyProof.Rows
section
variable {M:Md} {Z:Zn} {F F' H H':Hp} {σ:L2.St} {env env':En}
end
theorem ng {α β:Type} {f:α->Option β} {l:List α} {m:List β} (h:l.mapM f=some m) (i:Nat) (b:β) (hb:m[i]?=some b):∃ a,l[i]?=some a/\f a=some b:=by
 obtain ⟨hl,h2⟩:=bA h
 have hi:i<l.length:=by
  rw [<- hl]
  rcases aaO i m.length with q | q
  ·exact q
  ·rw [aam q] at hb; cases hb
 obtain ⟨b',e1,e2⟩:=h2 i l[i] (by simp [hi])
 rw [hb] at e1; cases e1
 exact ⟨l[i],by simp [hi],e2⟩
section
variable {X:Cx} {iter:Expr} {scope:Scope} {pos p1 p2 p3:Pos} {fi:WA} {x t:Str}
end
section
variable {P:aaq} {w:World} {K:aad} {mg:Str->Option Value} {base:Heap}
end
end Q
namespace Q
open PySem L2 PyProof.Rows
noncomputable def StrsUp (ss ts:List Str):Prop:=ts.Perm ss/\ts.Pairwise fun a b=>¬ ltS b a
noncomputable def keyStr:Key->Option Str
 | .inr s=>some s
 | .inl _=>none
noncomputable def eSortS (fa:WA):WE:=fun env P=>fa env fun xs e=>match xs with
 | [.lst ys]=>∃ ss,ys.mapM strPV=some ss/\ss.length<64/\∀ ts,StrsUp ss ts->P (.lst (ts.map .str)) e
 | [.dic kvs]=>∃ ss,(kvs.map (·.1)).mapM keyStr=some ss/\ss.length<64/\∀ ts,StrsUp ss ts->P (.lst (ts.map .str)) e
 | _=>False
theorem du {K:aad} {F:Hp}:∀ (ss:List Str),Reps K F (ss.map V.str) (ss.map PV.str)
 | []=>.nil
 | s::ss=>.cons (.str s) (du ss)
theorem jR:∀ {ks:List Key} {ss:List Str},ks.mapM keyStr=some ss->ks=ss.map aaG
 | [],ss,h=>by simp at h; subst h; rfl
 | k::ks,ss,h=>by
  rw [abw] at h
  cases ea:keyStr k with
  | none=>rw [ea] at h; cases h
  | some a =>
   rw [ea] at h
   cases el:ks.mapM keyStr with
   | none=>rw [el] at h; cases h
   | some bs =>
    rw [el] at h
    have h:some (a::bs)=some ss:=h
    cases h
    rw [jR el,aao]
    cases k <;> cases ea
    rfl
section
variable {ob:ObK} {X:Cx} {a b c e:Expr} {es:List Expr} {f g h:WE} {fa:WA} {pos p p1:Pos} {x:Str}
theorem jr (hc:X.calm=true) (hg:Gl X "sorted") (hm:X.mg "sorted" = none) (ha:EvAW ob X (e::es) fa)
  (he:autoParam (aan (e::es) X.env=(false,eval e X.env)::aan es X.env) Z2._auto_1) (hpl:autoParam ((backTo pos (aan es X.env)).any (·.1)=false) Z2._auto_1):EvF ob X (.Call (.Name "sorted" p) (e::es) [] pos) (eSortS fa):=by
 obtain ⟨t,ht,k⟩:=ha.ex
 refine ⟨_,bC (CallR.or pT (pV hc)) hg hm adx ht (by decide) (by decide) he hpl,fun Z F σ H env P Q K hf kk=>k Z F σ H env _ _ K hf fun xs e1 vs F1 H1 p s1 K1 r1=>?_⟩
 split at p
 ·obtain ⟨ss,hs,hl,p⟩:=p
  obtain ⟨v,rfl,r⟩:=r1.one
  obtain ⟨q,vs,rfl,h1,h2⟩:=r.lst K1.sF
  have:=cZ hJ hs h2
  subst this
  exact .inl ⟨q,ss,rfl,.inl (.inl h1),hl,fun l ts hn hp hw=>kk _ e1 _ F1 _ (p ts ⟨hp,hw⟩) s1 (fun _=>by simp) (K1.own hn ⟨_,ao,du ts⟩)⟩
 ·obtain ⟨ss,hs,hl,p⟩:=p
  obtain ⟨v,rfl,r⟩:=r1.one
  obtain ⟨q,vs,rfl,h1,h2⟩:=r.dic K1.sF
  refine .inr ⟨q,vs,ss,rfl,h1,by rw [h2.keys]; exact jR hs,hl,fun l ts hn hp hw=>kk _ e1 _ F1 _ (p ts ⟨hp,hw⟩) s1 (fun _=>by simp) (K1.own hn ⟨_,ao,du ts⟩)⟩
 ·exact p.elim
noncomputable def revPV:PV->Option PV
 | .tup xs=>some (.tup xs.reverse)
 | _=>none
theorem wX {st:Expr} {p2:Pos} (he:EvS ob X e f) (hst:PE X st (tUn (rU fun i=>.int (-i)) (tC (.int 1)))):EvS ob X (.Subscript e (.Slice none none (some st) p2) pos) (eUn revPV f):=by
 obtain ⟨t,ht,k⟩:=he.ex
 refine ⟨_,wf ht hst,fun Z F σ H env P Q K hf kk=>k Z F σ H env _ _ K hf fun x e1 v F1 H1 p s1 K1 r1=>?_⟩
 obtain ⟨z,hz,p⟩:=p
 refine ⟨1,rfl,rfl,?_⟩
 unfold revPV at hz
 split at hz
 ·cases hz
  obtain ⟨q,vs,rfl,h1,h2⟩:=(r1.vw (M:=md ob X) (H:=H1)).tup K1.sF
  refine ⟨q,vs,rfl,h1,fun l hl=>?_⟩
  have hF:F1 l=none:=Same.none_of K1.sF hl
  exact kk _ e1 _ _ _ p (ai s1 (az hF)) (K1.lay hl) (.tup (.inl (.inl ao)) (h2.rev.mono (az hF)))
 ·cases hz
theorem tK {p1 p2:Pos} {j}:PE X (.UnaryOp .USub (.Constant (.int 1) j p1) p2) (tUn (rU fun i=>.int (-i)) (tC (.int 1))):=xr vI aG
end
end Q
namespace Q
open PySem L2 PyProof.Rows
section
variable {ob:ObK} {X:Cx} {a b:Expr} {f g:WE} {pos:Pos}
end
end Q
namespace L2
open PySem PySem.Spec PyProof.Rows
section
variable {prog:aaq} {w:World} {A:Around} {E:Value->Shared->Prop} {s:Shared}
structure ZipL (h:Heap) (z u o i1 i2 t1 t2:Addr) (n:Nat):Prop where
 zz:IsZip h z u o .none
 uu:IsPair h u (.ref i1) (.ref i2)
 oo:∃ a b,IsPair h o a b
 a1:h.IsListIter i1 t1 n
 a2:h.IsListIter i2 t2 n
end
end L2
namespace L2
open PySem PySem.Spec PyProof.Rows
section
variable {prog:aaq} {w:World} {A:Around} {E:Value->Shared->Prop} {s:Shared}
end
section
variable {X:Cx}
end
end L2
namespace L2
open PySem PySem.Spec PyProof.Rows
section
variable {X:Cx}
end
end L2
namespace Q
open PySem L2
section
variable {ob:ObK} {X:Cx} {a b:Expr} {fa:WA} {pos p:Pos}
noncomputable def iZE (a:WA):WA:=fun env P=>a env fun xs e=>match xs with
 | [.tup xs,.tup ys]=>P (zipP xs ys) e
 | [.lst xs,.lst ys]=>P (zipP xs ys) e
 | _=>False
end
end Q
namespace Q
open PySem L2
theorem dN {α:Type} {z:α} {P:α->Prop}:opt (some z) P=P z:=propext opt_some
theorem sD {α:Type} {P:α->Prop}:opt none P=False:=propext ⟨fun ⟨_,e,_⟩=>(nomatch e),fun h=>h.elim⟩
theorem aa {α:Type} {o:Option α} {z:α} {P:α->Prop} (h:o=some z) (k:P z):opt o P:=⟨z,h,k⟩
theorem dR {α:Type} (xs:List α) (n:Nat):cutP xs none (some (n:Int))=xs.take n:=by
 unfold cutP
 rw [HT.sIx_none,HT.sIx_nat,afj,Nat.sub_zero]
 by_cases h:n<=xs.length
 ·rw [Nat.min_eq_left h]
 ·rw [Nat.min_eq_right (by omega),acQ,adD (by omega)]
theorem gX {α:Type} (xs:List α) (n:Nat):cutP xs (some (n:Int)) none=xs.drop n:=by
 unfold cutP
 rw [HT.sIx_none,HT.sIx_nat]
 by_cases h:n<=xs.length
 ·rw [Nat.min_eq_left h,adD (by simp)]
 ·rw [Nat.min_eq_right (by omega),List.drop_length,List.drop_of_length_le (by omega)]
  simp
theorem bw {g:WG} {c:WT} {f:WE} {js:List (Option Nat)} {P:PV->En->Prop} {env:En} (G:PV->Option PV):∀ {xs acc:List PV},(∀ x∈xs,∀ R:Option PV->En->Prop,R (G x) env ->
   g x (capE js env) fun b1=>c b1 fun ok b2=>if ok=true then f b2 fun y b3=>R (some y) (backE js env b3) else R none (backE js env b2))->acc.length+xs.length<=100000->P (.lst (acc++xs.filterMap G)) env->lcGo g c f js P xs env acc
 | [],acc,_,_,k=>by simpa [lcGo] using k
 | x::xs,acc,h,hl,k=>by
  have hl':acc.length+xs.length+1<=100000:=by simpa [acW] using hl
  have hm:∀ {a b:Prop},(a->b)->a->b:=fun h=>h
  have:=h x (by simp) (fun o e=>(match o with | some y=>acc.length<=100000/\lcGo g c f js P xs e (acc++[y]) | none=>lcGo g c f js P xs e acc)) (by
   cases e:G x with
   | none =>
    refine bw G (fun y hy=>h y (by simp [hy])) (by omega) ?_
    simpa [aaY,e] using k
   | some y =>
    refine ⟨by omega,bw G (fun y hy=>h y (by simp [hy])) (by simp; omega) ?_⟩
    simpa [aaY,e] using k)
  exact this
theorem cr {g:WG} {f:WE} {js:List (Option Nat)} {P:PV->En->Prop} {env:En} (G:PV->PV):∀ {xs acc:List PV},(∀ x∈xs,∀ R:PV->En->Prop,R (G x) env->g x (capE js env) fun b1=>f b1 fun y b3=>R y (backE js env b3))->acc.length+xs.length<=100000->P (.lst (acc++xs.map G)) env->lcGo g tYs f js P xs env acc
 | [],acc,_,_,k=>by simpa [lcGo] using k
 | x::xs,acc,h,hl,k=>by
  have hl':acc.length+xs.length+1<=100000:=by simpa [acW] using hl
  simp only [lcGo,tYs,if_true]
  exact h x (by simp) (fun y e=>acc.length<=100000/\lcGo g tYs f js P xs e (acc++[y])) ⟨by omega,cr G (fun y hy=>h y (by simp [hy])) (by simp; omega) (by simpa using k)⟩
theorem b7 {g:WG} {b:WS} {P:Wd} (I:Nat->En->Prop):∀ {xs:List PV} {i:Nat} {env:En},I i env->(∀ (j:Nat) (x:PV) (e:En) (N:En->Prop),xs[j]?=some x->I (i+j) e->(∀ e',I (i+j+1) e'->N e')->g x e fun e1=>b { P with nx:=N,ct:=N,bk:=P.nx } e1)->(∀ e,I (i+xs.length) e->P.nx e)->forGo g b P xs env
 | [],i,env,h0,_,hd=>hd env (by simpa using h0)
 | x::xs,i,env,h0,hs,hd=>hs 0 x env (forGo g b P xs) rfl h0 fun e' h'=>b7 I (i:=i+1) h' (fun j y e N hj hI k=>hs (j+1) y e N (by simpa using hj) (by rwa [acW,aeI 1 j] at hI) fun e' h=>k e' (by rwa [acW i 1 j,aeI 1 j])) fun e h=>hd e (by rwa [abj,aeI xs.length 1,<- acW])
theorem pj:∀ (bs:List Bool),(bs.map PV.bl).mapM blPV=some bs
 | []=>rfl
 | b::bs=>by
  rw [aao,abw,pj bs]; rfl
theorem rO (bs:List Bool):allPV [.lst (bs.map .bl)]=some (.bl (bs.all id)):=by
 show ((bs.map PV.bl).mapM blPV).map _=_
 rw [pj]; rfl
theorem ah {a b:WS} {P:Wd} {env:En} (h:∀ N:En->Prop,N=b P->a { P with nx:=N } env):sSeq a b P env:=h _ rfl
theorem dP {it:WA} {g:WG} {b:WS} {P:Wd} {env:En} (h:∀ (G:WG) (B:WS),G=g->B=b->it env fun xs e=>forGo G B P xs e):sFor it g b P env:=h _ _ rfl rfl
theorem wL {s:Sl}:(some (some s):Option (Option Sl)).join.isSome=true:=rfl
theorem mApp {zs:List PV} {x:PV} (h:zs.length<=100000):ca zs [x]=some (.non,zs++[x]):=if_pos h
section
variable {ob:ObK} {X:Cx} {k:Nat} {fad:Addr} {fd:aaT} {ps:List Str} {x y:Str} {p p1 pos pos':Pos}
theorem rl (i j:Nat) (hN:X.N.Nodup) (hi:X.N[i]?=some y) (hx:Loc X.env.scope y) (F:FnOk X.prog X.w X.K X.mg X.base CX0 k fad fd ps (Pre.hU X.K)) (hr:Room k X.A) (hm:X.mg "_law_begin" = some (.ref fad)) (hk:abv X.K (.ref fad)=true) (hb:Binds X.K fd ps []) (ho:PE X (.Name x p1) (tVar j))
  (hob:autoParam (ob=obG X.K) Z2._auto_1) (hg:autoParam (Gl X "_law_begin") Z2._auto_1) (he:autoParam (aan [.Name x p1] X.env=(false,eval (.Name x p1) X.env)::aan [] X.env) Z2._auto_1) (hpl:autoParam ((backTo pos (aan [] X.env)).any (·.1)=false) Z2._auto_1)
  {spos:Pos} (hs:autoParam (acp (.Call (.Name "_law_begin" p) [.Name x p1] [] pos) (some (.Name y pos')) spos.line X.env=pure false) Z2._auto_1) (hf:autoParam (X.fn y=true\/X.env.scope.names.lookup y=some .local) Z0._auto_1) :
  EvX ob X (.Assign [.Name y pos'] (.Call (.Name "_law_begin" p) [.Name x p1] [] pos) spos) (sBegin i j):=by
 subst hob
 exact sZ i j hN hi hx F hr hm hk hb ho hg he hpl hs hf
end
end Q
set_option hygiene false in
local macro_rules | `(tactic| lia)=>`(tactic| simp only [Q.run,Q.runO,Q.startE,Q.endD,Q.endO,Q.ob0,Q.sSeq,Q.sIf,Q.sRet,Q.sNil,Q.sSet,Q.sSetO,Q.sDrop,Q.sAsg,Q.tOr,Q.tAnd,Q.tNot,Q.tTru,Q.tBool,Q.eIsi,Q.eUn,Q.eOp,Q.eCB,Q.eC,Q.eV,Q.eVW,Q.a1,Q.aNil,Q.aCons,Q.eChain,Q.eAnd,Q.eOr,Q.eNot,Q.eTup,Q.eLst,Q.eLC,Q.iStrP,Q.iS,Q.iZE,Q.eSl,Q.oNone,Q.oSome,Q.eCall,Q.isiPV,Q.tyPV,Q.isaP,Q.lenPV,Q.lePV,Q.ltPV,Q.gtPV,Q.truPV,Q.blPV,Q.dN,Q.sD,aao,aeK,aaC,List.cons_append,aaV,abj,ae8,ab5,acG,List.set_cons_zero,List.set_cons_succ,adK,if_true,ab7,acr,aaR,if_false,decide_true,decide_false,ite_true,ite_false,Q.tgW,Q.gT,Q.gN,Q.gsCons,Q.gsNil,Q.intPV,Q.slPV,String.reduceBEq,afl,Bool.or_false,Bool.false_or,Bool.true_or,Bool.and_true,Bool.true_and,Nat.reduceAdd,Nat.reduceSub,Q.eCallO,Q.wL,true_and,Q.eLM,Q.negPV,Q.iR1,Q.iR2])
namespace Q
open PySem L2 PyProof.Rows
section
variable {ob:ObK} {X:Cx} {iter:Expr} {scope:Scope} {pos p1 p2 p3:Pos} {fi:WA} {x t:Str}
end
section
variable {P:aaq} {w:World} {K:aad} {mg:Str->Option Value} {base:Heap} {ob:ObK} {k:Nat} {fad:Addr} {fd:aaT} {ps:List Str}
end
end Q
namespace Q
open PySem L2
theorem aP {c:WT} {a b:WS} {P:Wd} {env:En} (h:∀ (A B:WS),A=a->B=b->c env fun k e=>if k=true then A P e else B P e):sIf c a b P env:=h _ _ rfl rfl
theorem fS {α:Type} {f:α->Str} {g:α->PV}:∀ {l:List α} {a:α},(l.map f).Nodup->a∈l->valP (l.map fun x=>((aaG (f x):Key),g x)) (aaG (f a))=some (g a)
 | b::l,a,nd,h=>by
  unfold valP
  rw [aao,abx]
  rw [aao,List.nodup_cons] at nd
  rcases List.mem_cons.mp h with rfl | h
  ·simp
  ·have hne:f b≠f a:=fun e=>nd.1 (by rw [e]; exact abt h)
   have:decide ((aaG (f b):Key)=aaG (f a))=false:=by simp [hne]
   simp only [this]
   exact fS nd.2 h
theorem sg {α:Type} {f:α->Str} {g:α->PV} {l:List α} {y:Str} {v:PV} (h:y∉l.map f):putP (l.map fun x=>((aaG (f x):Key),g x)) (aaG y) v=(l.map fun x=>((aaG (f x):Key),g x))++[(aaG y,v)]:=by
 unfold putP
 rw [if_neg]
 rw [List.any_map]
 intro z
 rw [aeQ] at z
 obtain ⟨x,hx,e⟩:=z
 simp at e
 exact h (by rw [<- e]; exact abt hx)
theorem uP {ys:List Str} {x:Str}:(ys.map PV.str).mapM (fun y=>eqPV 60 y (.str x))=some (ys.map fun y=>y==x):=by
 induction ys with
 | nil=>rfl
 | cons y ys ih =>
  rw [aao,abw,ih]
  rfl
theorem ig {ys:List Str} {x:Str}:inB (.str x) (.tup (ys.map .str))=some (decide (x∈ys)):=by
 show ((ys.map PV.str).mapM (fun y=>eqPV 60 y (.str x))).map (fun ks=>ks.any id)=_
 rw [uP]
 show some ((ys.map fun y=>y==x).any id)=_
 congr 1
 rw [List.any_map,abz,aeQ]
 simp
theorem sQ {ys:List Str} {x:Str}:inB (.str x) (.lst (ys.map .str))=some (decide (x∈ys)):=ig
theorem eY {ys:List Str} {x:Str}:inPV (.str x) (.tup (ys.map .str))=some (.bl (decide (x∈ys))):=by
 show (inB _ _).map _=_
 rw [ig]; rfl
end Q
namespace L2
open PySem PySem.Spec PyProof.Rows
section
variable {X:Cx}
noncomputable def rSortT (K:aad):List V->Hp->VK->Prop:=fun xs H Q=>∃ (p:Addr) (ss:List Str),xs=[.ref p]/\SqT K H p (ss.map V.str)/\ss.length<64 /\
 ∀ (l:Addr) (ss':List Str),H l=none->ss'.Perm ss->ss'.Pairwise (fun a b=>¬ ltS b a)->Q (.ref l) (upd H l (.lst (ss'.map V.str)))
theorem pS:CallR X (.builtin "sorted") (rSortT X.K):=by
 intro pins s σ H xs us Q I r h
 obtain ⟨p,ss,rfl,hq,h64,k⟩:=h
 obtain ⟨u,rfl,ru⟩:=r.one
 cases ru
 obtain ⟨its,rv,⟨o,g1,g2,n0,g3⟩,hz⟩:=I.tuple hq
 have hS:=fW rv
 have hl:=rv.length
 rw [aae] at hl
 refine jD (aep p (.inr rfl) g1 g2 g3 (fun h1 kk=>?_) (by rw [aaf,aaA]; omega))
 refine ⟨ss,h1,s.toks,rfl,by simpa using hS,by simp; omega,fun h2 out ss' n k2 e2 o1 o2 o3=>?_⟩
 have I1:Inv X pins σ H { s with heap:=h1,toks:=s.toks }:=I.kept kk
 refine ⟨.ref h1.objs.size,_,I1.laid (t':=s.toks) (a:=h1.objs.size) (o:=.lst (ss'.map V.str)) (fun b o q=>k2 b o q) (aaj _) ?_,rfl,k _ ss' (I1.hok.fresh (aaj _)) o2 (dq o3)⟩
 exact ⟨by rw [aae,o2.length_eq,aaA]; omega,out,n,dt o1,e2⟩
end
end L2
namespace Q
open PySem L2 PyProof.Rows
noncomputable def eSortT (fa:WA):WE:=fun env P=>fa env fun xs e=>match xs with
 | [.tup ys]=>∃ ss,ys.mapM strPV=some ss/\ss.length<64/\∀ ts,StrsUp ss ts->P (.lst (ts.map .str)) e
 | _=>False
section
variable {ob:ObK} {X:Cx} {a b c e:Expr} {es:List Expr} {f g h:WE} {fa:WA} {pos p p1:Pos} {x:Str}
theorem s0 (hc:X.calm=true) (hg:Gl X "sorted") (hm:X.mg "sorted" = none) (ha:EvAW ob X (e::es) fa)
  (he:autoParam (aan (e::es) X.env=(false,eval e X.env)::aan es X.env) Z2._auto_1) (hpl:autoParam ((backTo pos (aan es X.env)).any (·.1)=false) Z2._auto_1):EvF ob X (.Call (.Name "sorted" p) (e::es) [] pos) (eSortT fa):=by
 obtain ⟨t,ht,k⟩:=ha.ex
 refine ⟨_,bC pS hg hm adx ht (by decide) (by decide) he hpl,fun Z F σ H env P Q K hf kk=>k Z F σ H env _ _ K hf fun xs e1 vs F1 H1 p s1 K1 r1=>?_⟩
 split at p
 ·obtain ⟨ss,hs,hl,p⟩:=p
  obtain ⟨v,rfl,r⟩:=r1.one
  obtain ⟨q,vs,rfl,h1,h2⟩:=r.tup K1.sF
  have:=cZ hJ hs h2
  subst this
  exact ⟨q,ss,rfl,h1,hl,fun l ts hn hp hw=>kk _ e1 _ F1 _ (p ts ⟨hp,hw⟩) s1 (fun _=>by simp) (K1.own hn ⟨_,ao,du ts⟩)⟩
 ·exact p.elim
end
theorem ve {d:Nat}:∀ (a b:List Str),eqPV (d+2) (.tup (a.map .str)) (.tup (b.map .str))=some (decide (a=b)):=by
 intro a b
 have e:((a.map PV.str).zip (b.map PV.str)).mapM (fun p=>eqPV (d+1) p.1 p.2)=some ((a.zip b).map fun p=>p.1==p.2):=by
  rw [List.zip_map]
  generalize a.zip b=l
  induction l with
  | nil=>rfl
  | cons p l ih=>rw [aao,abw,ih]; rfl
 show (((a.map PV.str).zip (b.map PV.str)).mapM (fun p=>eqPV (d+1) p.1 p.2)).map (fun bs=>bs.all id && (a.map PV.str).length==(b.map PV.str).length)=_
 rw [e,aae,aae]
 show some (((a.zip b).map fun p=>p.1==p.2).all id && a.length==b.length)=_
 congr 1
 rw [List.all_map,abz,aaK,decide_eq_true_eq,beq_iff_eq]
 clear e
 constructor
 ·rintro ⟨h1,h2⟩
  induction a generalizing b with
  | nil=>cases b with | nil=>rfl | cons _ _=>cases h2
  | cons x a ih =>
   cases b with
   | nil=>cases h2
   | cons y b =>
    rw [ada,List.all_cons,aaK] at h1
    have exy:x=y:=by simpa using h1.1
    rw [exy,ih b h1.2 (by simpa using h2)]
 ·rintro rfl
  refine ⟨?_,rfl⟩
  rw [acT]
  rintro ⟨x,y⟩ hm
  have:x=y:=by
   obtain ⟨i,hi⟩:=List.getElem?_of_mem hm
   rw [aaX] at hi
   have:=hi.1.symm.trans hi.2
   simpa using this
  simp [this]
end Q
namespace Q
open PySem L2 PyProof.Rows
noncomputable def fstS:PV->Option Str
 | .tup (.str s::_)=>some s
 | _=>none
noncomputable def eSortR (fa:WA):WE:=fun env P=>fa env fun xs e=>match xs with
 | [.lst ys]=>∃ nm:List Str,ys.mapM fstS=some nm/\nm.Nodup/\ys.length<64/\∀ ix:List Nat,ix.length=ys.length->(∀ i∈ix,i<ys.length)->(ix.map fun i=>nm.getD i ⟨#[]⟩).Pairwise ltS->P (.lst (ix.map fun i=>ys.getD i .non)) e
 | _=>False
theorem oX {K:aad} {F H:Hp} (sF:Same F H) {v:V} {y:PV} {x:Str} (r:Rep K F v y) (h:fstS y=some x):∃ a t,v=.ref a/\SqT K H a (.str x::t):=by
 unfold fstS at h
 split at h
 ·cases h
  cases r with
  | tup h1 h2=>cases h2 with
   | cons r1 r2=>cases r1; exact ⟨_,_,rfl,aA sF h1⟩
 ·cases h
theorem gD {K:aad} {F:Hp} {vs:List V} {ys:List PV} (r:Reps K F vs ys):∀ ix:List Nat,(∀ i∈ix,i<ys.length)->Reps K F (ix.map fun i=>vs.getD i .non) (ix.map fun i=>ys.getD i .non)
 | [],_=>.nil
 | i::ix,h=>by
  refine .cons ?_ (gD r ix fun j hj=>h j (aav _ hj))
  have hi:=h i aat
  obtain ⟨v,hv,rv⟩:=r.get (aab hi)
  show Rep K F (vs.getD i .non) (ys.getD i .non)
  rw [aah,aah,hv,aab hi]
  exact rv
section
variable {ob:ObK} {X:Cx} {e:Expr} {es:List Expr} {fa:WA} {pos p:Pos}
theorem tf (hg:Gl X "sorted") (hm:X.mg "sorted" = none) (ha:EvAW ob X (e::es) fa)
  (he:autoParam (aan (e::es) X.env=(false,eval e X.env)::aan es X.env) Z2._auto_1) (hpl:autoParam ((backTo pos (aan es X.env)).any (·.1)=false) Z2._auto_1):EvF ob X (.Call (.Name "sorted" p) (e::es) [] pos) (eSortR fa):=by
 obtain ⟨t,ht,k⟩:=ha.ex
 refine ⟨_,bC pU hg hm adx ht (by decide) (by decide) he hpl,fun Z F σ H env P Q K hf kk=>k Z F σ H env _ _ K hf fun xs e1 vs F1 H1 p s1 K1 r1=>?_⟩
 split at p
 ·obtain ⟨nm,hs,nd,hl,p⟩:=p
  obtain ⟨v,rfl,r⟩:=r1.one
  obtain ⟨q,vs,rfl,h1,h2⟩:=r.lst K1.sF
  have g1:=(bA hs).1
  have hlen:=h2.len
  refine ⟨q,vs,nm,rfl,.inl (.inl h1),by omega,⟨by omega,fun i v x hv hx=>?_,nd⟩,fun l ix hn i1 i2 i3 i4=>?_⟩
  ·obtain ⟨y,hy,ry⟩:=h2.getV hv
   obtain ⟨y',e1,e2⟩:=ng hs i x hx
   rw [hy] at e1; cases e1
   exact oX K1.sF ry e2
  ·exact kk _ e1 _ F1 _ (p ix (by omega) (fun i hi=>by have:=i3 i hi; omega) i4) s1 (fun _=>by simp) (K1.own hn ⟨_,ao,gD h2 ix fun i hi=>by have:=i3 i hi; omega⟩)
 ·exact p.elim
end
end Q
namespace L2
open PySem PySem.Spec PyProof.Rows
section
variable {prog:aaq} {w:World} {A:Around} {E:Value->Shared->Prop} {s:Shared}
end
end L2
namespace L2
open PySem PySem.Spec PyProof.Rows
section
variable {X:Cx}
end
end L2
namespace Q
open PySem L2 PyProof.Rows
noncomputable def neT:PV->PV->Option PV
 | .tup xs,.tup ys=>(eqPV 60 (.tup xs) (.tup ys)).map fun b=>.bl (!b)
 | _,_=>none
noncomputable def rNeT (K:aad):R2:=fun v u H Q=>∃ F xs ys k,Same F H/\Rep K F v (.tup xs)/\Rep K F u (.tup ys)/\eqPV 60 (.tup xs) (.tup ys)=some k/\Q (.bl (!k)) H
section
variable {ob:ObK} {X:Cx} {a b c e:Expr} {es:List Expr} {f g h:WE} {fa:WA} {pos pos2 p p1 p2:Pos} {x:Str}
theorem mV (hu:X.A.units+60<cLine):OpR X (aaS .NotEq) (rNeT X.K):=by
 intro pins s σ H x y v u Q I rx ry h
 obtain ⟨F,xs,ys,k,sF,r1,r2,e,hq⟩:=h
 cases r1 with
 | tup h1 r1 =>
 cases r2 with
 | tup h2 r2 =>
 cases rx
 cases ry
 obtain ⟨its,rv,p,_⟩:=I.tuple (aA sF h1)
 obtain ⟨its2,rw',p2,_⟩:=I.tuple (aA sF h2)
 have l1:its.length=xs.length:=by rw [<- rv.length,r1.len]
 have l2:its2.length=ys.length:=by rw [<- rw'.length,r2.len]
 have e':((xs.zip ys).mapM fun p=>eqPV 59 p.1 p.2).map (fun bs=>bs.all id && xs.length==ys.length)=some k:=e
 rw [aaF] at e'
 obtain ⟨bs,hb,ek⟩:=e'
 obtain ⟨hbl,hbe⟩:=bA hb
 have t:=SeqAt.RcNeAt.tuples (A:=X.A) (e:=fun j=>bs.getD j false) p p2 (by omega) (fun j j1 j2=>by
  simp only [aaf] at j1 j2
  have jx:j<xs.length:=by omega
  have jy:j<ys.length:=by omega
  have hz:(xs.zip ys)[j]?=some (xs[j],ys[j]):=by rw [aaX]; exact ⟨by simp [jx],by simp [jy]⟩
  obtain ⟨b,e1,e2⟩:=hbe j _ hz
  obtain ⟨v1,q1,q2⟩:=r1.get (aab jx)
  obtain ⟨v2,q3,q4⟩:=r2.get (aab jy)
  obtain ⟨u1,q5,q6⟩:=rv.get q1
  obtain ⟨u2,q7,q8⟩:=rw'.get q3
  have g1:its.toArray[j]=u1:=by simpa [aab j1] using q5
  have g2:its2.toArray[j]=u2:=by simpa [aab j2] using q7
  rw [g1,g2,show bs.getD j false=b by simp [aem,e1]]
  exact (eqAt I sF (A:=X.A.in1) (d:=59) (by show X.A.units+1+59<cLine; omega) q2 q4 q6 q8 e2).2)
 have e3:((aaM (min its.toArray.size its2.toArray.size)).all (fun j=>bs.getD j false) && its.toArray.size==its2.toArray.size)=k:=by
  have e4:min its.toArray.size its2.toArray.size=bs.length:=by rw [hbl,ae7,aaf,aaf,l1,l2]
  rw [e4,eF (fun j hj=>by simp [aem,aab hj]),aaf,aaf,l1,l2]
  exact ek
 rw [e3] at t
 exact t X.prog X.w X.xe _ ⟨.bl (!k),H,I,rfl,hq⟩
theorem ky:OpQ ob X (rNeT X.K) neT:=by
 refine b0 (P:=fun _ _ _ _=>True) fun F H v u x y z sF rx ry hz=>?_
 unfold neT at hz
 split at hz
 ·rw [aaF] at hz
  obtain ⟨k,hk,rfl⟩:=hz
  exact ⟨_,fun _=>.bl _,fun Q q=>⟨F,_,_,k,sF,rx.tupR,ry.tupR,hk,q⟩⟩
 ·cases hz
end
theorem uJ (a b:List Str):neT (.tup (a.map .str)) (.tup (b.map .str))=some (.bl (!decide (a=b))):=by
 show (eqPV 60 (.tup (a.map .str)) (.tup (b.map .str))).map (fun b=>PV.bl (!b))=_
 rw [ve (d:=58)]; rfl
end Q
namespace L2
open PySem PySem.Spec PyProof.Rows PySem.W
noncomputable def PairAt (h:Heap) (a:Addr) (k:Int×Str):Prop:=∃ o n t u,h.get? a=some o/\o.cls=.type "tuple" /\ o.data=.seq #[.int k.1 t,.str k.2 u] n
theorem PairAt.mono {h h':Heap} {a:Addr} {k:Int×Str} (x:PairAt h a k) (g:∀ o,h.get? a=some o->h'.get? a=some o):PairAt h' a k:=by
 obtain ⟨o,n,t,u,e,r⟩:=x
 exact ⟨o,n,t,u,g o e,r⟩
noncomputable def ltK (ks:List (Int×Str)) (i j:Nat):Bool:=decide ((ks.getD i (0,⟨#[]⟩)).1<(ks.getD j (0,⟨#[]⟩)).1\/((ks.getD i (0,⟨#[]⟩)).1=(ks.getD j (0,⟨#[]⟩)).1/\ltS (ks.getD i (0,⟨#[]⟩)).2 (ks.getD j (0,⟨#[]⟩)).2))
theorem uQ {ks:List (Int×Str)} (nd:(ks.map (·.2)).Nodup):Srt.Ord (ltK ks) ks.length:=by
 have inj:∀ i j,i<ks.length->j<ks.length->(ks.getD i (0,⟨#[]⟩)).2=(ks.getD j (0,⟨#[]⟩)).2->i=j:=fun i j hi hj e=>by
  have a:(ks.map (·.2))[i]'(by simpa using hi)=(ks.map (·.2))[j]'(by simpa using hj):=by
   rw [acR,acR]
   rw [aah,aah,aab hi,aab hj] at e
   exact e
  exact (act nd).mp a
 refine ⟨fun i _=>?_,fun i j k _ _ _ a b=>?_,fun i j hi hj ne e=>?_⟩
 ·unfold ltK
  rw [decide_eq_false_iff_not]
  rintro (h | ⟨_,h⟩)
  ·omega
  ·exact ad3 _ h
 ·have a:=of_decide_eq_true a
  have b:=of_decide_eq_true b
  refine decide_eq_true ?_
  rcases a with a | ⟨a1,a2⟩ <;> rcases b with b | ⟨b1,b2⟩
  ·exact .inl (by omega)
  ·exact .inl (by omega)
  ·exact .inl (by omega)
  ·exact .inr ⟨by omega,List.lt_trans a2 b2⟩
 ·have e:=of_decide_eq_false e
  rw [not_or] at e
  refine decide_eq_true ?_
  rcases Int.lt_trichotomy (ks.getD i (0,⟨#[]⟩)).1 (ks.getD j (0,⟨#[]⟩)).1 with z | z | z
  ·exact absurd z e.1
  ·refine .inr ⟨z.symm,?_⟩
   have e2:¬ ltS (ks.getD i (0,⟨#[]⟩)).2 (ks.getD j (0,⟨#[]⟩)).2:=fun h=>e.2 ⟨z,h⟩
   unfold ltS at e2 ⊢
   rcases List.le_iff_lt_or_eq.mp (List.not_lt.mp e2) with q | q
   ·exact q
   ·exfalso
    refine ne (inj i j hi hj ?_)
    generalize (ks.getD i (0,⟨#[]⟩)).2=x at q ⊢
    generalize (ks.getD j (0,⟨#[]⟩)).2=y at q ⊢
    obtain ⟨x⟩:=x
    obtain ⟨y⟩:=y
    exact congrArg Str.mk (Array.toList_inj.mp q.symm)
  ·exact .inl z
section
variable {prog:aaq} {w:World} {A:Around} {E:Value->Shared->Prop} {s:Shared}
theorem uq {x y:Addr} {k l:Int×Str} {Q:Bool->Shared->Prop} (hx:PairAt s.heap x k) (hy:PairAt s.heap y l) (hne:k.2≠l.2) (h:Q (decide (k.1<l.1\/(k.1=l.1/\ltS k.2 l.2))) s):wpAny (model prog w) A (keyLt' (aeU true) (.ref x) (.ref y)) Q E s:=by
 obtain ⟨ox,n,t,u,e1,_,e2⟩:=hx
 obtain ⟨oy,n',t',u',f1,_,f2⟩:=hy
 refine kat_lt e1 e2 f1 f2 ?_
 refine kat_cons (wpAny_eqBool_int ?_)
 by_cases e:k.1=l.1
 ·rw [show (k.1==l.1)=true by simp [e]]
  refine kat_yes (kat_cons (aeM ?_))
  rw [decide_eq_false hne]
  refine kat_no ?_
  show wpAny _ _ (oneLt' false _ _) _ _ _
  refine kat_one _ _ (lt_str ?_)
  have:decide (k.1<l.1\/(k.1=l.1/\ltS k.2 l.2))=decide (k.2.cps.toList<l.2.cps.toList):=by
   rw [abz,decide_eq_true_eq,decide_eq_true_eq]
   constructor
   ·rintro (z | ⟨_,z⟩)
    ·omega
    ·exact z
   ·intro z; exact .inr ⟨e,z⟩
  rw [this] at h
  exact h
 ·rw [show (k.1==l.1)=false by simp [e]]
  refine kat_no ?_
  show wpAny _ _ (oneLt' true _ _) _ _ _
  refine oneLt_int ?_
  have:decide (k.1<l.1\/(k.1=l.1/\ltS k.2 l.2))=decide (k.1<l.1):=by
   rw [abz,decide_eq_true_eq,decide_eq_true_eq]
   exact ⟨fun z=>z.elim id fun q=>absurd q.1 e,.inl⟩
  rw [this] at h
  exact h
theorem oS {a kS:Addr} {e e1 n:Nat} {keys:Array Value} {st:SortSt} {out:List Value} {P:aek->Shared->Prop} (hk:s.heap.get? kS=some (seqObj "list" keys e)) (ha:s.heap.get? a=some (seqObj "list" #[] e1)) (hne:kS≠a) (hkz:keys.size<=100)
  (ho:(arrOf st).map (·.2)=out.toArray) (hf:failedOf st=none) (hz:out.length<=100)
  (h:∀ (h':Heap) (c:Nat),h'.get? a=some (seqObj "list" out.toArray c)->(∀ b o,b≠a->b≠kS->s.heap.get? b=some o->h'.get? b=some o)->P (.done (.ret .none)) { s with heap:=h' }) :
  wpAny (model prog w) A (ksk_tail a false e1 (.ref kS) st) P E s:=by
 have s1:=aaZ s.heap kS (abn fun _=>(#[]:Array Value))
 have ha1:(s.heap.update kS (abn fun _=>(#[]:Array Value))).get? a=some (seqObj "list" #[] e1):=(s1.2 a hne.symm).trans ha
 unfold ksk_tail
 dsimp only
 rw [ho]
 refine aaa (acU hk rfl ?_ (by rw [aaA]; omega) (abl _))
 refine aaa (wpAny_letGo ?_)
 refine aaa (aeW ha1 rfl ?_)
 refine aaa (acU ha1 rfl ?_ (abl _) (by simp only [aaR,if_false,aaf]; rw [aaA]; omega))
 rw [hf]
 simp only [bne_self_eq_false,aaR,if_false]
 have s2:=aaZ (s.heap.update kS (abn fun _=>(#[]:Array Value))) a (abn fun _=>out.toArray)
 exact aag (h _ _ (acY ha1 fun _=>out.toArray) fun b o h1 h2 g=>(s2.2 b h1).trans ((s1.2 b h2).trans g))
theorem lA {h:Heap}:∀ ad:List Addr,(∀ a∈ad,∃ k,PairAt h a k)->∃ fs:List Value,KatTups h (ad.map aaH) fs/\fs.length=ad.length/\∀ v∈fs,∃ c t,v=.int c t
 | [],_=>⟨[],trivial,rfl,fun _ z=>by simp at z⟩
 | a::ad,hp=>by
  obtain ⟨fs,h1,h2,h3⟩:=lA ad fun b hb=>hp b (aav _ hb)
  obtain ⟨k,o,n,t,u,e1,e2,e3⟩:=hp a aat
  refine ⟨.int k.1 t::fs,⟨⟨a,o,_,n,rfl,e1,e2,e3,rfl⟩,h1⟩,by simp [h2],fun v hv=>?_⟩
  rcases List.mem_cons.mp hv with rfl | hv
  ·exact ⟨_,_,rfl⟩
  ·exact h3 v hv
theorem kL {ad:List Addr} {vs:List Value} (hl:ad.length=vs.length) {i:Nat} (hi:i<vs.length):aee ((ad.map aaH).toArray.zip vs.toArray) i=(.ref (ad.getD i 0),vs.getD i aa0):=by
 unfold aee
 have hi':i<ad.length:=by omega
 have hz:i<((ad.map aaH).toArray.zip vs.toArray).size:=by rw [Array.size_zip,aaf,aaf,aae]; omega
 rw [Array.getD,dif_pos hz]
 show ((ad.map aaH).toArray.zip vs.toArray)[i]=_
 rw [Array.getElem_zip,List.getElem_toArray,List.getElem_toArray,acR,aah,aah,aab hi',aab hi]
 rfl
theorem wE {a kS:Addr} {e e1:Nat} {vs:List Value} {ad:List Addr} {ks:List (Int×Str)} {P:aek->Shared->Prop} (hk:s.heap.get? kS=some (seqObj "list" (ad.map aaH).toArray e)) (ha:s.heap.get? a=some (seqObj "list" #[] e1)) (hne:kS≠a)
  (l1:ad.length=vs.length) (l2:ks.length=vs.length) (h64:vs.length<64) (nd:(ks.map (·.2)).Nodup) (hp:∀ i,i<vs.length->PairAt s.heap (ad.getD i 0) (ks.getD i (0,⟨#[]⟩)))
  (h:∀ (h':Heap) (c:Nat) (ix:List Nat),ix.length=vs.length->ix.Nodup->(∀ i∈ix,i<vs.length)->ix.Pairwise (fun i j=>ltK ks i j=true)->h'.get? a=some (seqObj "list" (ix.map fun i=>vs.getD i aa0).toArray c)->(∀ b o,b≠a->b≠kS->s.heap.get? b=some o->h'.get? b=some o)->P (.done (.ret .none)) { s with heap:=h' }) :
  wpAny (model prog w) A (ksk_end a false vs.toArray e1 (.ref kS) (ad.map aaH).toArray) P E s:=by
 have kz:(ad.map aaH).toArray.size<=100:=by rw [aaf,aae]; omega
 unfold ksk_end
 dsimp only
 simp only [aaR,if_false]
 by_cases h2:vs.toArray.size<2
 ·rw [if_pos h2,if_pos h2]
  rw [aaf] at h2
  refine aaa (aag ?_)
  rw [StateT.run_pure]
  refine aaa (aag ?_)
  dsimp only
  have ei:(aaM vs.length).map (fun i=>vs.getD i aa0)=vs:=by
   apply abX
   intro i
   rw [aal]
   by_cases hi:i<vs.length
   ·rw [abM hi]; simp [hi]
   ·rw [aam (by simpa using hi),aam (by omega)]; rfl
  refine oS (st:=SortSt.mk' general' ((ad.map aaH).toArray.zip vs.toArray) #[] 7 none) (out:=vs) (n:=0) hk ha hne kz ?_ rfl (by omega) fun h' c g1 g2=>?_
  ·apply Array.toList_inj.mp
   show (((ad.map aaH).toArray.zip vs.toArray).map (·.2)).toList=vs
   rw [Array.toList_map,Array.toList_zip]
   show ((ad.map aaH).zip vs).map (·.2)=vs
   exact List.map_snd_zip (by rw [aae]; omega)
  ·refine h h' c (aaM vs.length) (by simp) adB (fun i hi=>List.mem_range.mp hi) ?_ (by rw [ei]; exact g1) g2
   match hv:vs.length,h2 with
   | 0,_=>simp
   | 1,_=>simp [adL]
 ·rw [if_neg h2,if_neg h2]
  rw [aaf] at h2
  obtain ⟨fs,f1,f2,f3⟩:=lA ad fun b hb=>by
   obtain ⟨i,hi,rfl⟩:=List.mem_iff_getElem.mp hb
   have:=hp i (by omega)
   rw [aah,aab hi] at this
   exact ⟨_,this⟩
  refine aaa (kat_kind (T:=.type "int") f1 (by omega) (fun v hv=>?_) rfl ?_)
  ·obtain ⟨c,t,rfl⟩:=f3 v hv
   exact Looks.of_pure rfl
  have hT:((acj "int") != (acj "tuple"))=true:=by decide
  rw [hT]
  have isz:((ad.map aaH).toArray.zip vs.toArray).size=vs.length:=by rw [Array.size_zip,aaf,aaf,aae]; omega
  have est:SortSt.mk' (aeU true) ((ad.map aaH).toArray.zip vs.toArray) #[] 7 none=kas_st (aeU true) ((ad.map aaH).toArray.zip vs.toArray) (aeJ (aaM vs.length)):=by
   have q:=kas_range ((ad.map aaH).toArray.zip vs.toArray)
   rw [isz] at q
   show _=SortSt.mk' (aeU true) ((aeJ (aaM vs.length)).map (aee _)) #[] 7 none
   rw [q]
  have o:Srt.Ord (ltK ks) vs.length:=l2 ▸ uQ nd
  have snd_ne:∀ i j,i<vs.length->j<vs.length->i≠j->(ks.getD i (0,⟨#[]⟩)).2≠(ks.getD j (0,⟨#[]⟩)).2:=fun i j hi hj ne q=>by
   have a:(ks.map (·.2))[i]'(by rw [aae]; omega)=(ks.map (·.2))[j]'(by rw [aae]; omega):=by
    rw [acR,acR]
    rw [aah,aah,aab (by omega),aab (by omega)] at q
    exact q
   exact ne ((act nd).mp a)
  have ask:(kas_sort vs.length).kasWp (kas_cmp prog w A (aeU true) ((ad.map aaH).toArray.zip vs.toArray)) (fun p z=>z=s/\Srt.Pm p vs.length/\Srt.Asc (ltK ks) p vs.length) s:=by
   refine Srt.pw_wp (lt:=ltK ks) (n:=vs.length) (Q:=fun p=>Srt.Pm p vs.length/\Srt.Asc (ltK ks) p vs.length) (J:=fun z=>z=s) ?_ (fun p z hz q=>⟨hz,q⟩) (kas_sort vs.length) _ rfl (Srt.oC o (by omega) fun p a b=>⟨a,b⟩)
   rintro i j C z hi hj ne rfl hC
   show wpAny _ _ (keyLt' (aeU true) (aee _ i).1 (aee _ j).1) _ _ _
   rw [kL l1 hi,kL l1 hj]
   exact uq (hp i hi) (hp j hj) (snd_ne i j hi hj ne) (hC _ rfl)
  have run:=kas_runs (E:=E) (Q:=fun _ st' z=>∃ p:Array Nat,p.size=vs.length/\arrOf st'=p.map (aee ((ad.map aaH).toArray.zip vs.toArray))/\failedOf st'=none/\z=s/\Srt.Pm p vs.length/\Srt.Asc (ltK ks) p vs.length)
   (by omega) h64 (fun p' st' z a1 a2 a3 a4=>⟨p',a1,a2,a3,a4⟩) ask
  rw [<- est] at run
  refine aaa (aaI run ?_ fun _ _ q=>q)
  rintro ⟨⟨⟩,st'⟩ z ⟨p,psz,har,hf,rfl,Pm,As⟩
  dsimp only
  have hlt:∀ i∈p.toList,i<vs.length:=fun i hi=>by
   obtain ⟨j,hj,rfl⟩:=Array.mem_iff_getElem.mp (Array.mem_toList_iff.mp hi)
   have:=Pm.lt j (by rw [<- Pm.sz]; exact hj)
   rw [Srt.aZ] at this
   simpa only [abC hj,aeP] using this
  refine oS (st:=st') (out:=p.toList.map fun i=>vs.getD i aa0) (n:=0) hk ha hne kz ?_ hf (by rw [aae,aax,psz]; omega) fun h' c g1 g2=>h h' c p.toList (by rw [aax,psz]) ?_ hlt ?_ g1 g2
  ·apply Array.toList_inj.mp
   rw [har,Array.map_map,Array.toList_map]
   exact aa7 fun i hi=>by show (aee _ i).2=_; rw [kL l1 (hlt i hi)]
  ·rw [ac6,acq]
   intro i j hi hj hij q
   have hi':i<p.size:=by simpa using hi
   have hj':j<p.size:=by simpa using hj
   have:=Pm.nd i j (by rw [<- Pm.sz]; exact hi') (by rw [<- Pm.sz]; exact hj') (by rw [Srt.aZ,Srt.aZ]; simpa [hi',hj'] using q)
   omega
  ·rw [acq]
   intro i j hi hj hij
   have hi':i<p.size:=by simpa using hi
   have hj':j<p.size:=by simpa using hj
   have:=As i j hij (by rw [<- Pm.sz]; exact hj')
   rw [Srt.aZ,Srt.aZ] at this
   simpa [hi',hj'] using this
end
end L2
namespace L2
open PySem PySem.Spec PyProof.Rows PySem.W
section
variable {prog:aaq} {w:World} {A:Around} {E:Value->Shared->Prop} {s:Shared}
noncomputable def lh (prog:aaq) (w:World) (A:Around) (s:Shared) (f:Value) (keep:Addr->Prop) (v:Value) (a:Addr):Prop :=
 ∀ (h:Heap) (tk:Nat),(∀ b o,keep b->s.heap.get? b=some o->h.get? b=some o)->wpAny (model prog w) A (call f [v]) (fun r z=>r=.ref a/\∃ h' tk',z={ s with heap:=h',toks:=tk' }/\∀ b o,h.get? b=some o->h'.get? b=some o) (fun _ _=>False) { s with heap:=h,toks:=tk }
theorem uY {a kS:Addr} {e1:Nat} {f:Value} {vs:List Value} {ad:List Addr} {ks:List (Int×Str)} {P:aek->Shared->Prop} (hk:s.heap.get? kS=some (seqObj "list" #[] 0)) (ha:s.heap.get? a=some (seqObj "list" #[] e1)) (hne:kS≠a)
  (l1:ad.length=vs.length) (l2:ks.length=vs.length) (h64:vs.length<64) (nd:(ks.map (·.2)).Nodup) (hp:∀ i,i<vs.length->PairAt s.heap (ad.getD i 0) (ks.getD i (0,⟨#[]⟩))) (hpk:∀ i,i<vs.length->ad.getD i 0≠kS)
  (turn:∀ i,i<vs.length->lh prog w A s f (fun b=>b≠kS) (vs.getD i .none) (ad.getD i 0))
  (h:∀ (h':Heap) (tk c:Nat) (ix:List Nat),ix.length=vs.length->ix.Nodup->(∀ i∈ix,i<vs.length)->ix.Pairwise (fun i j=>ltK ks i j=true)->h'.get? a=some (seqObj "list" (ix.map fun i=>vs.getD i aa0).toArray c)->(∀ b o,b≠a->b≠kS->s.heap.get? b=some o->h'.get? b=some o)->P (.done (.ret .none)) { s with heap:=h',toks:=tk }) :
  wpAny (model prog w) A (ksk_rest a f false vs.toArray e1 (.ref kS)) P E s:=by
 unfold ksk_rest
 refine aaa (adQ ?_)
 rw [List.forIn_toArray]
 refine aaa (ksk_fold (fun i z=>∃ h' tk e,z={ s with heap:=h',toks:=tk }/\(∀ b o,b≠kS->s.heap.get? b=some o->h'.get? b=some o)/\h'.get? kS=some (seqObj "list" ((ad.take i).map aaH).toArray e)) vs 0 s
  ⟨s.heap,s.toks,0,rfl,fun b o _ g=>g,hk⟩ ?_ ?_)
 ·rintro j x z hx ⟨h',tk,e,rfl,g1,g2⟩
  rw [ab0] at g2 ⊢
  have hj:j<vs.length:=(List.getElem?_eq_some_iff.mp hx).1
  have ev:vs.getD j .none=x:=by rw [aah,hx]; rfl
  have t:=turn j hj h' tk fun b o hb g=>g1 b o hb g
  rw [ev] at t
  refine aaa (wpAny_attempt (aaI t (fun v z hz=>?_) fun _ _ q=>q.elim))
  obtain ⟨rfl,h2,tk2,rfl,g3⟩:=hz
  dsimp only
  have gk:=g3 _ _ g2
  have s1:=aaZ h2 kS (abn (·.push (.ref (ad.getD j 0))))
  refine aaa (acU gk rfl ?_ (by rw [aaf,aae,aba,aaA]; omega) (aa1 (aeH (Array.size_push ..)) (by rw [aaf,aae,aba,aaA]; omega)))
  have ej:(((ad.take j).map aaH).toArray.push (.ref (ad.getD j 0)))=((ad.take (j+1)).map aaH).toArray:=by
   have hja:j<ad.length:=by omega
   apply Array.toList_inj.mp
   rw [aeD]
   show (ad.take j).map aaH++[.ref (ad.getD j 0)]=(ad.take (j+1)).map aaH
   rw [ad2,aab hja,aah,aab hja,aa4]
   rfl
  obtain ⟨c2,hc2⟩:∃ c2,(h2.update kS (abn (·.push (.ref (ad.getD j 0))))).get? kS=some (seqObj "list" (((ad.take j).map aaH).toArray.push (.ref (ad.getD j 0))) c2):=⟨_,acY gk (·.push (.ref (ad.getD j 0)))⟩
  rw [ej] at hc2
  exact aag ⟨rfl,_,tk2,c2,rfl,fun b o hb g=>(s1.2 b hb).trans (g3 b o (g1 b o hb g)),hc2⟩
 ·rintro z ⟨h',tk,e,rfl,g1,g2⟩
  rw [ab0,adD (by omega)] at g2
  refine aaa (listItems_at g2 rfl ?_)
  refine wE (s:={ s with heap:=h',toks:=tk }) g2 (g1 a _ hne.symm ha) hne l1 l2 h64 nd (fun i hi=>(hp i hi).mono fun o q=>g1 _ o (hpk i hi) q) fun h2 c ix i1 i2 i3 i4 i5 i6=>h h2 tk c ix i1 i2 i3 i4 i5 fun b o b1 b2 g=>i6 b o b1 b2 (g1 b o b2 g)
theorem uX {a:Addr} {n:Nat} {f:Value} {vs:List Value} {ad:List Addr} {ks:List (Int×Str)} {P:aek->Shared->Prop} (ha:s.heap.get? a=some (seqObj "list" vs.toArray n))
  (l1:ad.length=vs.length) (l2:ks.length=vs.length) (h64:vs.length<64) (nd:(ks.map (·.2)).Nodup) (hp:∀ i,i<vs.length->PairAt s.heap (ad.getD i 0) (ks.getD i (0,⟨#[]⟩))) (hpa:∀ i,i<vs.length->ad.getD i 0≠a)
  (turn:∀ i,i<vs.length->lh prog w A s f (fun b=>b≠a) (vs.getD i .none) (ad.getD i 0))
  (h:∀ (h':Heap) (tk c:Nat) (ix:List Nat),ix.length=vs.length->ix.Nodup->(∀ i∈ix,i<vs.length)->ix.Pairwise (fun i j=>ltK ks i j=true)->h'.get? a=some (seqObj "list" (ix.map fun i=>vs.getD i aa0).toArray c)->(∀ b o,b≠a->s.heap.get? b=some o->h'.get? b=some o)->P (.done (.ret .none)) { s with heap:=h',toks:=tk }) :
  wpAny (model prog w) A (ksk_tree a f false) P E s:=by
 have haz:a<s.heap.objs.size:=aak ha
 have s1:=aaZ s.heap a (abn fun _=>(#[]:Array Value))
 have ha1:=acY ha fun _=>(#[]:Array Value)
 unfold ksk_tree
 refine aaa (listItems_at ha rfl ?_)
 refine aaa (acU ha rfl ?_ (by rw [aaf,aaA]; omega) (abl _))
 refine aaa (aeW ha1 rfl ?_)
 refine aaa (wpAny_newTuple ?_ (by show vs.length<=_; rw [aaA]; omega))
 refine aaa (acA ?_ (abl _))
 refine aaQ ?_
 generalize hH:((s.heap.update a (abn fun _=>(#[]:Array Value))).push (seqObj "tuple" vs.toArray 0))=H1
 have kz:H1.objs.size=s.heap.objs.size+1:=by rw [<- hH,size_push',Heap.size_update]
 have old:∀ b o,b≠a->s.heap.get? b=some o->(H1.push (seqObj "list" #[] 0)).get? b=some o:=fun b o hb g=>by
  rw [<- hH]
  exact aac _ (aac _ ((s1.2 b hb).trans g))
 have lt:∀ b o,s.heap.get? b=some o->b≠H1.objs.size:=fun b o g=>by
  have:=aak g
  rw [kz]; exact aas (abd this)
 refine uY (s:={ s with heap:=H1.push (seqObj "list" #[] 0) }) (kS:=H1.objs.size) (a:=a) (aai _ rfl) ?_ ?_ l1 l2 h64 nd (fun i hi=>?_) (fun i hi=>?_) (fun i hi=>?_) fun h' tk c ix i1 i2 i3 i4 i5 i6=>h h' tk c ix i1 i2 i3 i4 i5 fun b o hb g=>i6 b o hb (lt b o g) (old b o hb g)
 ·rw [<- hH]
  exact aac _ (aac _ ha1)
 ·exact (lt a _ ha).symm
 ·exact (hp i hi).mono fun o q=>old _ o (hpa i hi) q
 ·obtain ⟨o,_,_,_,g,_⟩:=hp i hi
  exact lt _ o g
 ·intro h2 tk g
  exact turn i hi h2 tk fun b o hb q=>g b o (lt b o q) (old b o hb q)
theorem qR {l q:Addr} {ob:Obj} {n0:Nat} {vs:List Value} {ad:List Addr} {ks:List (Int×Str)} {Q:Value->Shared->Prop} (ho:s.heap.get? l=some ob) (hc:ob.cls=.type "tuple") (hd:ob.data=.seq vs.toArray n0)
  (l1:ad.length=vs.length) (l2:ks.length=vs.length) (h64:vs.length<64) (nd:(ks.map (·.2)).Nodup) (hp:∀ i,i<vs.length->PairAt s.heap (ad.getD i 0) (ks.getD i (0,⟨#[]⟩)))
  (turn:∀ i,i<vs.length->lh prog w A.in1.in1 s (.ref q) (fun _=>True) (vs.getD i .none) (ad.getD i 0))
  (h:∀ (D:Addr) (h1 h':Heap) (tk c:Nat) (ix:List Nat),(∀ b o,s.heap.get? b=some o->h1.get? b=some o)->h1.objs.size<=D->ix.length=vs.length->ix.Nodup->(∀ i∈ix,i<vs.length)->ix.Pairwise (fun i j=>ltK ks i j=true)->h'.get? D=some (seqObj "list" (ix.map fun i=>vs.getD i aa0).toArray c)->(∀ b o,s.heap.get? b=some o->h'.get? b=some o)->Q (.ref D) { s with heap:=h',toks:=tk }) :
  wpAny (model prog w) A (call (.builtin "sorted") [.ref l] [(aaN "key",.ref q)]) Q E s:=by
 refine call_function_entry_kw aeX aeE aeF (ksk_s1 _ _) ?_
 unfold acx.«sorted»
 refine aaa (m:=checkCount "sorted" 1 1 _) (aag ?_)
 refine aaa (aep l (.inr rfl) ho hc hd (fun h1 kk=>?_) (by rw [aaf,aaA]; omega))
 refine aaa (acA ?_ (by show vs.length<=_; rw [aaA]; omega))
 have hoL:(h1.push (seqObj "list" vs.toArray 0)).get? h1.objs.size=some (seqObj "list" vs.toArray 0):=aai _ rfl
 have old:∀ b o,s.heap.get? b=some o->(h1.push (seqObj "list" vs.toArray 0)).get? b=some o:=fun b o g=>aac _ (kk b o g)
 have ne:∀ b o,s.heap.get? b=some o->b≠h1.objs.size:=fun b o g=>aas (aak (kk b o g))
 refine aaa (aaQ (wpAny_call_entry_kw ade ⟨_,hoL,rfl⟩ acZ ?_ (ksk_l1 _ _)))
 show wpAny (model prog w) A.in1.in1 (acx.«list.sort» ⟨[.ref h1.objs.size],[(aaN "key",.ref q)]⟩) _ _ _
 rw [ksk_t1]
 refine uX (s:={ s with heap:=h1.push (seqObj "list" vs.toArray 0) }) hoL l1 l2 h64 nd (fun i hi=>(hp i hi).mono fun o g=>old _ o g) (fun i hi=>?_) (fun i hi h2 tk g=>turn i hi h2 tk fun b o _ z=>g b o (ne b o z) (old b o z)) fun h' tk c ix i1 i2 i3 i4 i5 i6=>⟨_,rfl,?_⟩
 ·obtain ⟨o,_,_,_,g,_⟩:=hp i hi
  exact ne _ o g
 ·exact aag ⟨_,rfl,h h1.objs.size h1 h' tk c ix kk (aaj _) i1 i2 i3 i4 i5 fun b o g=>i6 b o (ne b o g) (old b o g)⟩
end
end L2
namespace L2
open PySem PySem.Spec PyProof.Rows PySem.W
structure LamSc (x d:Str) (params:Arguments) (scope:Scope):Prop where
 kind:scope.kind=.function
 co:scope.isCoroutine=false
 gen:scope.isGenerator=false
 nc:∀ y∈scope.names,y.2≠.cell
 lx:scope.names.lookup x=some .local
 ld:scope.names.lookup d=some .free
 ne:(x==d)=false
 dx:(x==("__debug__" : Str))=false
 dd:(d==("__debug__" : Str))=false
 dc:(d==("__classdict__" : Str))=false
 bd:∀ (qual:Str) (body:Expr) (cl:List (Str×Addr)) (pm cdv ct v:Value),acL (kla_fn "<lambda>" qual params body scope cl pm cdv ct) ⟨[v],[]⟩=pure [(x,v)]
section
variable {X:Cx} {pins:List (Addr×Obj)} {σ:St} {H:Hp} {z:Shared} {B:Around}
theorem sP {q c' cell dd a:Addr} {x d nm:Str} {scope:Scope} {params:Arguments} {p1 p2 p3:Pos} {qual:Str} {pm ctv:Value} {t:Tok} {kvs:List (Key×V)} (S:LamSc x d params scope) (I:Inv X pins σ H z) (hroom:B.depth<recursionLimit)
  (ho:z.heap.get? q=some (kla_obj "<lambda>" qual params (.Subscript (.Name d p1) (.Name x p2) p3) scope [(d,cell)] pm c' ctv)) (hcd:z.heap.CodeRec (.ref c') qual) (hlim:z.heap.NoLimit) (hcell:z.heap.IsCell cell (some (.ref dd)))
  (hD:H dd=some (.dK kvs)) (hv:valV kvs (aaG nm)=some (.ref a)) :
  wpAny (model X.prog X.w) B (call (.ref q) [.str nm t]) (fun v z'=>v=.ref a/\∃ h' tk',z'={ z with heap:=h',toks:=tk' }/\∀ b o,z.heap.get? b=some o->h'.get? b=some o) (fun _ _=>False) z:=by
 refine wpAny_call (kla_callFunE hroom ho rfl S.co S.gen rfl hcd ?_)
 rw [S.bd]
 refine aag (adU S.nc (fun y hy=>by rw [adc] at hy; subst hy; exact S.lx) (fun h1 hns hsb=>?_) S.kind)
 have kk:∀ b o,z.heap.get? b=some o->h1.get? b=some o:=fun b o g=>(hsb.2 b (aas (aak g))).trans (aac _ g)
 refine ⟨hlim.keeps kk,kla_codeExpr ?_⟩
 have I1:Inv X pins σ H { z with heap:=h1,toks:=z.toks+1 }:=I.kept kk
 obtain ⟨z1,z2,vs,rel,dD⟩:=pQ I1.hok hD
 obtain ⟨u,hu,ru⟩:=RelO.some_of (v:=V.ref a) (o:=aes vs (aaG nm)) (by rw [<- hv]; exact rel.val _)
 cases ru
 have hcell1:h1.IsCell cell (some (.ref dd)):=by
  obtain ⟨o,e,r⟩:=hcell
  exact ⟨o,kk _ _ e,r⟩
 refine adT ?_
 refine aer (wpAny_loadName_free S.kind S.ld (c:=cell) (show ac2 d [(d,cell)]=some cell by simp) hcell1 ?_ S.dc) S.dd
 refine aer (wpAny_loadName_local S.kind S.lx hns (show ac2 x [(x,ab9 nm t)]=some (ab9 nm t) by simp) ?_) S.dx
 refine aeS dD.typeIs PySem.F.slot_dict_getitem.lookup (wpAny_getItem_of (ic (k:=aaG nm) (show RelV (.str nm) (.str nm t) from ⟨t,rfl⟩)) dD.mapOf hu ?_) rfl
 exact ⟨rfl,h1,_,rfl,kk⟩
end
end L2
namespace L2
open PySem PySem.Spec PyProof.Rows PySem.W
noncomputable def lamE (f:Addr) (ob:Obj):HO:=.ext fun h=>h.get? f=some ob
theorem qQ {P:aaq} {w:World} {H:Hp} {h:Heap} {a:Addr} {ob:Obj} (e:h.get? a=some ob):ObjOk P w H h a (lamE a ob):=⟨e,⟨_,e⟩,fun h1 h2 x k=>k _ x⟩
theorem vq {P:aaq} {w:World} {H:Hp} {h:Heap} {a:Addr} {lq:Str} (e:h.CodeRec (.ref a) lq):ObjOk P w H h a (codeE a lq):=by
 refine ⟨e,?_,fun h1 h2 x k=>?_⟩
 ·obtain ⟨c,oc,vs,tq,hc,hoc,r⟩:=e
  cases hc
  exact ⟨_,hoc⟩
 ·obtain ⟨c,oc,vs,tq,hc,hoc,r⟩:=x
  cases hc
  exact ⟨_,oc,vs,tq,rfl,k _ hoc,r⟩
structure LamIs (X:Cx) (lq d:Str) (params:Arguments) (body:Expr) (scope:Scope) (c':Addr) (ob:Obj):Prop where
 ex:∃ cell ctv,X.env.cells.lookup d=some cell/\ob=kla_obj "<lambda>" lq params body scope [(d,cell)] ((X.mg "__name__").getD .none) c' ctv
noncomputable def tLam (X:Cx) (lq d:Str) (lpos:Pos) (P:Addr) (params:Arguments) (body:Expr) (scope:Scope):TE:=fun _ H Q=>∃ ps:Array Value,H P=some (tabE P ps)/\TriplesOk ps.toList /\
 ((ab8 lpos ps.toList=none/\∀ c' f ob,H c'=none->H f=none->c'≠f->c'≠P->f≠P->LamIs X lq d params body scope c' ob->Q (.ref f) (upd (upd (upd H P (tabE P (ps++#[rawInt lpos.line,rawInt lpos.col,.ref c']))) c' (codeE c' lq)) f (lamE f ob))) \/
  (∃ c',ab8 lpos ps.toList=some (.ref c')/\H c'=some (codeE c' lq)/\∀ f ob,H f=none->LamIs X lq d params body scope c' ob->Q (.ref f) (upd H f (lamE f ob))))
structure BMain (mg:Str->Option Value) (h:Heap):Prop where
 ex:∃ bm o,mg "__builtins__" = some (.ref bm)/\bm≠aev/\h.get? bm=some o/\o.cls=.type "module" /\ o.dict=some aev/\o.data=.plain
structure LamDf (d:Str) (params:Arguments) (scope:Scope):Prop where
 df:∀ env,defaultsOf params env=([],[])
 cl:∀ (env:Env) (cell:Addr),env.cells.lookup d=some cell->closureFor scope env=pure [(d,cell)]
section
variable {X:Cx} {lq d:Str} {lpos:Pos} {P c:Addr} {params:Arguments} {body:Expr} {scope:Scope}
theorem wk (S:LamDf d params scope) (hq:X.env.qual ++ "<lambda>" = lq) (hcode:X.env.code=.ref c) (hC:abG X.K c P=true) (hB:BMain X.mg X.base) (hd:X.env.kindOf d=some .cell):PE X (.Lambda params body scope lpos) (tLam X lq d lpos P params body scope):=by
 intro pins s σ H Q I h
 obtain ⟨ps,eP,ht,h⟩:=h
 obtain ⟨cell,hcell⟩:=I.ok.has d (.inl hd)
 have hP:s.heap.get? P=some (tabObj ps):=(I.hok P _ eP).1
 have hg:s.heap.Ns aaD X.mg:=I.mod.glob.keeps I.bk
 have C:CodeHd s.heap c P:=PySem.W.codeHd_of_K I.kIn hC
 have hgP:aaD≠P:=fun e=>by
  obtain ⟨o,es,ep,g1,g2,_⟩:=hg
  rw [e,hP] at g1; cases g1; cases g2
 have hb:s.heap.BuiltinsAt X.mg P:=by
  obtain ⟨bm,o,b1,b2,b3,b4,b5,b6⟩:=hB.ex
  refine ⟨bm,o,b1,b2,fun e=>?_,fun e=>?_,I.bk _ _ b3,b4,b5,b6⟩
  ·obtain ⟨o',es,ep,g1,g2,_⟩:=hg
   rw [<- e,I.bk _ _ b3] at g1; cases g1
   rw [b6] at g2; cases g2
  ·have:=I.bk _ _ b3
   rw [e,hP] at this; cases this; cases b4
 refine kla_eval (S.df _) ?_
 rw [hq]
 rcases h with ⟨hnf,h⟩ | ⟨c',hf,hc',h⟩
 ·refine kla_makeFunction (mg:=X.mg) (S.cl _ _ hcell) I.ok.glob hg hcode C hP ht hnf hgP hb fun c' ctv h' tk hx hge hlt hrec htb=>?_
  have hc0:H c'=none:=I.hok.fresh hge
  have nP:∀ b,H b=none->b≠P:=fun b n z=>by rw [z,eP] at n; cases n
  have nc:∀ b o,s.heap.get? b=some o->b≠c':=fun b o g=>aas (aaB (aak g) hge)
  have ncP:c'≠P:=fun z=>by rw [z,eP] at hc0; cases hc0
  have un:Un X.fs [] H (upd (upd H P (tabE P (ps++#[rawInt lpos.line,rawInt lpos.col,.ref c']))) c' (codeE c' lq)) s.heap h':=by
   refine ⟨fun b o q n _ _=>hx b o (nP b n) q,fun b o q n _ _=>⟨o.slots,hx b o (nP b n) q⟩,fun b o q n _=>?_,fun b o q _=>?_,fun b xs q=>?_,fun b o u q=>?_,fun b qs q=>?_⟩
   ·rw [ak (nc b o q),ak (nP b n)]; exact n
   ·by_cases z:b=P
    ·subst z; exact ⟨_,htb⟩
    ·exact ⟨o,hx b o z q⟩
   ·rw [ak (ax q hc0),ak (fun z=>by rw [z,eP] at q; cases q)]; exact q
   ·rw [ak (ax q hc0),ak (fun z=>by rw [z,eP] at q; cases q)]; exact q
   ·refine ⟨#[],?_⟩
    rw [ak (ax q hc0),ak (fun z=>by rw [z,eP] at q; cases q),q]; simp
  have hok:HOk X.prog X.w (upd (upd H P (tabE P (ps++#[rawInt lpos.line,rawInt lpos.col,.ref c']))) c' (codeE c' lq)) h':=fun b u q=>by
   by_cases z:b=c'
   ·subst z
    rw [ao] at q; cases q
    exact vq hrec
   ·rw [ak z] at q
    by_cases z2:b=P
    ·subst z2
     rw [ao] at q; cases q
     exact mx htb
    ·rw [ak z2] at q
     refine (I.hok b u q).stay (fun e o he g=>hx e o (fun y=>?_) g) (fun e he=>?_) fun e xs he=>?_
     ·subst y
      rcases he with y | y
      ·exact z2 y.symm
      ·rw [eP] at y; cases y
     ·rw [ak (ax he hc0),ak (fun y=>by rw [y,eP] at he; cases he)]; exact he
     ·rw [ak (ax he hc0),ak (fun y=>by rw [y,eP] at he; cases he)]; exact he
  have I1:Inv X pins σ _ { s with heap:=h',toks:=tk }:=I.un un hok
  have hf0:=I1.hok.fresh (a:=h'.objs.size) (aaj _)
  have fc:h'.objs.size≠c':=acd hlt
  have fP:h'.objs.size≠P:=acd (aak htb)
  have hf1:H h'.objs.size=none:=by rw [ak fc,ak fP] at hf0; exact hf0
  refine ⟨.ref h'.objs.size,_,I1.laid (t':=tk) (a:=h'.objs.size) (o:=lamE h'.objs.size (kla_obj "<lambda>" lq params body scope [(d,cell)] ((X.mg "__name__").getD .none) c' ctv)) (fun b u g=>aac _ g) (aaj _) (qQ (aai _ rfl)),rfl,h c' _ _ hc0 hf1 (abr fc) ncP fP ⟨cell,ctv,hcell,rfl⟩⟩
 ·refine kla_makeFunctionHit (mg:=X.mg) (S.cl _ _ hcell) I.ok.glob hg hcode C hP ht hf hb fun ctv h' tk kk hsz=>?_
  exact ⟨.ref h'.objs.size,_,I.laid (t':=tk) (a:=h'.objs.size) (o:=lamE h'.objs.size (kla_obj "<lambda>" lq params body scope [(d,cell)] ((X.mg "__name__").getD .none) c' ctv)) (fun b u g=>aac _ (kk b u g)) hsz (qQ (aai _ rfl)),rfl,h _ _ (I.hok.fresh hsz) ⟨cell,ctv,hcell,rfl⟩⟩
end
end L2
namespace L2
open PySem PySem.Spec PyProof.Rows PySem.W
structure IxOk (ks:List (Int×Str)) (n:Nat) (ix:List Nat):Prop where
 len:ix.length=n
 nd:ix.Nodup
 lt:∀ i∈ix,i<n
 up:ix.Pairwise fun i j=>ltK ks i j=true
noncomputable abbrev k0:Int×Str:=(0,⟨#[]⟩)
noncomputable def sortKR (X:Cx) (lq d:Str) (lpos:Pos) (P:Addr) (params:Arguments) (body:Expr) (scope:Scope) (i:Nat) (σ:St) (Q:VK):VK:=fun v H1=>∃ (l:Addr) (ss:List Str) (dd:Addr) (kvs:List (Key×V)) (ad:List Addr) (ks:List (Int×Str)),
 v=.ref l/\SqT X.K H1 l (ss.map V.str)/\ss.length<64/\σ[i]?=some (some (.ref dd))/\H1 dd=some (.dK kvs)/\ad.length=ss.length/\ks.length=ss.length/\(ks.map (·.2)).Nodup /\
 (∀ j,j<ss.length->valV kvs (aaG (ss.getD j ⟨#[]⟩))=some (.ref (ad.getD j 0))/\SqT X.K H1 (ad.getD j 0) [.int (ks.getD j k0).1,.str (ks.getD j k0).2]) /\
 tLam X lq d lpos P params body scope σ H1 fun _ H2=>∀ D ix,H2 D=none->IxOk ks ss.length ix->Q (.ref D) (upd H2 D (.lst (ix.map fun j=>V.str (ss.getD j ⟨#[]⟩))))
noncomputable def tSortK (X:Cx) (lq d:Str) (lpos:Pos) (P:Addr) (params:Arguments) (body:Expr) (scope:Scope) (i:Nat) (te:TE):TE:=fun σ H Q=>te σ H (sortKR X lq d lpos P params body scope i σ Q)
theorem oB {K:aad} {H H2:Hp} {P a:Addr} {xs:List V} {ps:Array Value} (eP:H P=some (tabE P ps)) (k:∀ b o,H b=some o->b≠P->H2 b=some o) (h:SqT K H a xs):SqT K H2 a xs:=by
 rcases h with (h | ⟨o,h⟩) | h
 ·exact .inl (.inl (k a _ h fun z=>by rw [z,eP] at h; cases h))
 ·exact .inl (.inr ⟨o,k a _ h fun z=>by rw [z,eP] at h; cases h⟩)
 ·exact .inr h
section
variable {X:Cx} {lq d x:Str} {lpos p p1 p2 p3 kpos pos:Pos} {P c:Addr} {params:Arguments} {scope:Scope} {e:Expr} {te:TE} {i k:Nat}
theorem ur {h:Heap} {a:Addr} {its:List Value} {m:Int} {s:Str} (rv:Vals [.int m,.str s] its) (t:IsTup h a its.toArray):PairAt h a (m,s):=by
 obtain ⟨o,g1,g2,n,g3⟩:=t
 cases rv with
 | cons r1 r2 =>
  cases r2 with
  | cons r2 r3 =>
   cases r3
   obtain ⟨t,rfl⟩:=r1
   obtain ⟨u,rfl⟩:=r2
   exact ⟨o,n,t,u,g1,g2,g3⟩
theorem su (S:LamSc x d params scope) (S2:LamDf d params scope) (hr:Room k X.A) (hg:Gl X "sorted") (hm:X.mg "sorted" = none) (hq:X.env.qual ++ "<lambda>" = lq) (hcode:X.env.code=.ref c) (hC:abG X.K c P=true) (hB:BMain X.mg X.base)
  (hi:X.N[i]?=some d) (hd:X.env.kindOf d=some .cell) (hv:Vis X.env.scope d) (he:PE X e te)
  (hs:autoParam (aan [e] X.env=(false,eval e X.env)::aan [] X.env) Z2._auto_1)
  (h1:autoParam (backTo pos (aan [e] X.env)=(false,eval e X.env)::backTo pos (aan [] X.env)) Z2._auto_1) (h2:autoParam ((backTo pos (aan [e] X.env)).any (·.1)=false) Z2._auto_1) :
  PE X (.Call (.Name "sorted" p) [e] [⟨some "key",.Lambda params (.Subscript (.Name d p1) (.Name x p2) p3) scope lpos,kpos⟩] pos) (tSortK X lq d lpos P params (.Subscript (.Name d p1) (.Name x p2) p3) scope i te):=by
 intro pins s σ H Q I h
 refine acB (gL I hg hm adx ?_)
 refine callWith_kw (thn ((bb he bG hs) pos pins s σ H (fun vs H1=>match vs with | [v]=>sortKR X lq d lpos P params (.Subscript (.Name d p1) (.Name x p2) p3) scope i σ Q v H1 | _=>False) I h) fun us s1 ⟨vs,H1,I1,r1,q1⟩=>?_) h1 h2
 dsimp only at q1
 split at q1
 case h_2=>exact q1.elim
 obtain ⟨l,ss,dd,kvs,ad,ks,rfl,hl,h64,hσ,hdd,l1,l2,nd,hk,hL⟩:=q1
 obtain ⟨u,rfl,ru⟩:=r1.one
 cases ru
 obtain ⟨ps,eP,hL⟩:=hL
 have ddP:dd≠P:=fun z=>by rw [z,eP] at hdd; cases hdd
 have lam:tLam X lq d lpos P params (.Subscript (.Name d p1) (.Name x p2) p3) scope σ H1 fun fv H2=>∃ f c' ob,fv=.ref f/\H2 f=some (lamE f ob)/\LamIs X lq d params (.Subscript (.Name d p1) (.Name x p2) p3) scope c' ob/\H2 c'=some (codeE c' lq)/\(∀ b o,H1 b=some o->b≠P->H2 b=some o) /\
   ∀ D ix,H2 D=none->IxOk ks ss.length ix->Q (.ref D) (upd H2 D (.lst (ix.map fun j=>V.str (ss.getD j ⟨#[]⟩)))):=by
  refine ⟨ps,eP,hL.1,?_⟩
  rcases hL.2 with ⟨g1,g2⟩ | ⟨c',g1,g2,g3⟩
  ·refine .inl ⟨g1,fun c' f ob a1 a2 a3 a4 a5 a6=>⟨f,c',ob,rfl,ao,a6,?_,fun b o hb hP=>?_,g2 c' f ob a1 a2 a3 a4 a5 a6⟩⟩
   ·rw [ak a3,ao]
   ·rw [ak (ax hb a2),ak (ax hb a1),ak hP]; exact hb
  ·refine .inr ⟨c',g1,g2,fun f ob a1 a2=>⟨f,c',ob,rfl,ao,a2,?_,fun b o hb _=>?_,g3 f ob a1 a2⟩⟩
   ·rw [ak (ax g2 a1)]; exact g2
   ·rw [ak (ax hb a1)]; exact hb
 refine thn ((uk (wk S2 hq hcode hC hB hd) vW) pos pins s1 σ H1 (fun vs H2=>match vs with | [fv]=>∃ f c' ob,fv=.ref f/\H2 f=some (lamE f ob)/\LamIs X lq d params (.Subscript (.Name d p1) (.Name x p2) p3) scope c' ob/\H2 c'=some (codeE c' lq)/\(∀ b o,H1 b=some o->b≠P->H2 b=some o) /\
   (∀ D ix,H2 D=none->IxOk ks ss.length ix->Q (.ref D) (upd H2 D (.lst (ix.map fun j=>V.str (ss.getD j ⟨#[]⟩))))) | _=>False) I1 lam) fun ws s2 ⟨zs,H2,I2,rz,q2⟩=>?_
 dsimp only at q2
 split at q2
 case h_2=>exact q2.elim
 obtain ⟨f,c',ob,rfl,ef,⟨cell,ctv,hcell,rfl⟩,ec,keep,hQ⟩:=q2
 obtain ⟨u,rfl,ru⟩:=rz.one
 cases ru
 show wpAny _ _ (call (.builtin "sorted") [.ref l] [(aaN "key",.ref f)]) _ _ _
 obtain ⟨its,rv,⟨o,g1,g2,n0,g3⟩,hz⟩:=I2.tuple (oB eP keep hl)
 have hlen:its.length=ss.length:=by have:=rv.length; rw [aae] at this; exact this.symm
 have itm:∀ j,j<ss.length->∃ t,its.getD j aa0=.str (ss.getD j ⟨#[]⟩) t:=fun j hj=>by
  obtain ⟨u,hu,ru⟩:=rv.get (i:=j) (show (ss.map V.str)[j]?=some (.str (ss.getD j ⟨#[]⟩)) by rw [aal,aab hj,aah,aab hj]; rfl)
  obtain ⟨t,rfl⟩:=ru
  exact ⟨t,by rw [aah,hu]; rfl⟩
 have cellAt:s2.heap.IsCell cell (some (.ref dd)):=by
  obtain ⟨m,_,hloc⟩:=I2.loc
  obtain ⟨u,ru,lk⟩:=hloc i d _ hi hσ hv
  cases ru
  rcases lk with ⟨y,_⟩ | ⟨_,c2,y1,y2⟩
  ·rw [hd] at y; cases y
  ·rw [hcell] at y1; cases y1; exact y2
 have lim:s2.heap.NoLimit:=I2.mod.nolimit.keeps I2.bk
 refine qR (vs:=its) (ad:=ad) (ks:=ks) g1 g2 g3 (by omega) (by omega) (by omega) nd (fun j hj=>?_) (fun j hj h tk kk=>?_) fun D hh1 h' tk cc ix k1 k2 i1 i2 i3 i4 i5 i6=>?_
 ·obtain ⟨its2,rv2,tp2,_⟩:=I2.tuple (oB eP keep (hk j (by omega)).2)
  exact ur rv2 tp2
 ·obtain ⟨t,et⟩:=itm j (by omega)
  rw [et]
  have kk':∀ b o,s2.heap.get? b=some o->h.get? b=some o:=fun b o g=>kk b o trivial g
  have I3:Inv X pins σ H2 { s2 with heap:=h,toks:=tk }:=I2.kept kk'
  refine sP (z:={ s2 with heap:=h,toks:=tk }) S I3 ?_ (kk' _ _ (I2.hok f _ ef).1) ?_ (lim.keeps kk') ?_ (keep _ _ hdd ddP) (hk j (by omega)).1
  ·have:=hr.dp
   show X.A.depth<recursionLimit
   omega
  ·exact (I2.hok c' _ ec).2.2 _ _ (I2.hok c' _ ec).1 fun o g=>kk' _ _ g
  ·obtain ⟨o,y,r⟩:=cellAt
   exact ⟨o,kk' _ _ y,r⟩
 ·have hD0:s2.heap.get? D=none:=by
   cases y:s2.heap.get? D with
   | none=>rfl
   | some o=>exact absurd (aaB (aak (k1 D o y)) k2) (aa6 _)
  have J:Inv X pins σ H2 { s2 with heap:=s2.heap,toks:=tk }:=I2.kept fun _ _ g=>g
  obtain ⟨m,hm,_⟩:=I2.loc
  have hlt:∀ y∈ix,y<ss.length:=fun y hy=>by have:=i3 y hy; omega
  have pick:=rv.pick ix fun y hy=>by rw [aae]; exact hlt y hy
  have ep:(ix.map fun y=>(ss.map V.str).getD y V.non)=ix.map fun j=>V.str (ss.getD j ⟨#[]⟩):=aa7 fun y hy=>by
   have hy':=hlt y hy
   rw [aah,aal,aab hy',aah,aab hy']; rfl
  rw [ep] at pick
  refine ⟨.ref D,_,J.laidL (xs:=ix.map fun j=>V.str (ss.getD j ⟨#[]⟩)) hm (hm.keeps i6) (fun b o _ g=>i6 b o g) hD0 ⟨?_,ix.map fun y=>its.getD y aa0,cc,pick,i5⟩,rfl,hQ D ix (I2.hok.dead hD0) ⟨by omega,i2,hlt,i4⟩⟩
  rw [aae,i1,aaA]; omega
end
end L2
namespace L2
open PySem PySem.Spec PyProof.Rows
section
variable {P:aaq} {w:World} {K:aad} {mg:Str->Option Value} {base:Heap}
theorem Fun.okC {x qual:Str} {st:Stmt} {f:Addr} {fd:aaT} {N ps:List Str} {k:Nat} {sp:Sp} (F:Fun K x qual st f fd) (S:aB N ps (ar st)) (len:∀ vs H Q E,sp vs H Q E->vs.length=ps.length)
  (hbody:∀ (cdv:Value),fd.code=cdv->∀ (A:Around) (outer:List Env) (s:Shared) (H:Hp) (vs:List V) (Q:VK) (E:XK),Room k (A.deeper (envOfC qual (ar st) s.heap.objs.size f cdv))->sp vs H Q E ->
   ∃ t,PSs (cxOf CX0 P w K mg base N qual (ar st) f cdv A outer s H E).nox (bz st) t/\t { nx:=fun _ H'=>Q .non H',rt:=Q } (start N vs) H):FnOk P w K mg base CX0 (k+1) f fd ps sp:=by
 obtain ⟨oc,od,kV,doc,pm,an,cdv,ct,osl,rfl,lk,hcd⟩:=F.ex
 refine tP lk hcd S len fun A outer s H vs Q E hr hsp=>?_
 obtain ⟨t,h,q⟩:=hbody cdv rfl A outer s H vs Q E hr hsp
 exact ⟨t,h.nox,q⟩
end
theorem Inv.hide {X:Cx} {pins:List (Addr×Obj)} {σ:St} {H:Hp} {s:Shared} (I:Inv X pins σ H s) {n:Nat} {nm:Str} {v:V} (hN:X.N[n]?=some nm) (hv:¬ Vis X.env.scope nm):Inv X pins (σ.set n (some v)) H s:=by
 refine ⟨I.ok,I.os,I.bare,I.base,?_,I.cell,I.free,I.freeC,I.pin,I.hok,by rw [acF]; exact I.len⟩
 obtain ⟨m,hn,hl⟩:=I.loc
 refine ⟨m,hn,fun i x u e1 e2 e3=>?_⟩
 by_cases z:n=i
 ·subst z
  rw [hN] at e1; cases e1
  exact absurd e3 hv
 ·rw [aap z] at e2
  exact hl i x u e1 e2 e3
end L2
namespace Q
open PySem L2 PyProof.Rows
noncomputable def hid (n:Nat) (c:PV) (xs:List PV):En:=startE n xs++[some ⟨2,c⟩]
noncomputable def obN (n:Nat) (P:PV->Prop) (e:En):Prop:=match e[n]? with
 | some (some ⟨2,c⟩)=>P c
 | _=>False
noncomputable def endT (n:Nat) (P:PV->PV->Prop):Wd:={ nx:=fun e=>obN n (P .non) e,rt:=fun x e=>obN n (P x) e }
noncomputable def runT (n:Nat) (u:WS):FdO:=fun c xs P=>u (endT n P) (hid n c xs)
noncomputable def spT (M:Md) (n:Nat) (D:FdO):Sp:=fun vs H Q _=>∃ (F:Hp) (a:Addr) (l:List Addr) (c:PV) (xs:List PV) (P:PV->PV->Prop),Same F H/\Reps M.K F vs xs/\xs.length=n /\
 M.ob.P F H a l c/\(∀ b∈l,H b≠none/\F b=none)/\D c xs P /\
 ∀ r c' v F' H' l',P r c'->(∀ b o,H b=some o->b∉l->H' b=some o)->(∀ b,H b≠none->H' b≠none)->Same F F'->Same F' H'->(∀ a,F' a≠none->F a≠none\/H a=none)->M.ob.P F' H' a l' c'->(∀ b∈l',H' b≠none/\F' b=none)->(∀ b∈l',b∈l\/H b=none)->Rep M.K F' v r->Q v H'
theorem pC {M:Md} {F H:Hp} {N:List Str} {ws:List V} {xs:List PV} {a:Addr} {l:List Addr} {c:PV} {n:Nat} (sF:Same F H) (r:Reps M.K F ws xs) (hN:N.length=n+1) (hl:xs.length<=n) (ho:M.ob.P F H a l c) (hb:∀ b∈l,H b≠none/\F b=none) :
  Sok M ⟨H,F,l,fun i=>if i=n then some a else none,fun b h=>(hb b h).1⟩ F ((start N ws).set n (some (.ref a))) H (hid n c xs):=by
 have hl':ws.length<=n:=by rw [r.len]; exact hl
 have hs:(start N ws).length=n+1:=by rw [eO (by omega),hN]
 have he:(startE n xs).length=n:=dH hl
 refine ⟨sF,fun b o h _=>h,fun b h=>h,am,fun a h=>.inl h,?_,fun i=>if i=n then l else [],fun i s h=>?_,fun i b h=>?_,fun i j b hij h z=>?_,fun i b s h _ _=>?_⟩
 ·unfold hid
  rw [aau,he,acF,hs]; rfl
 ·rcases Nat.lt_trichotomy i n with z | z | z
  ·unfold hid at h
   rw [aaw (by omega)] at h
   obtain ⟨x,hx,rfl⟩:=dI h
   obtain ⟨v,hv,rv⟩:=r.get hx
   refine ⟨v,?_,.inl ⟨rfl,if_neg (by omega),rv⟩⟩
   rw [aap (by omega)]
   exact bJ hv
  ·subst z
   unfold hid at h
   rw [acm (by omega),he,Nat.sub_self] at h
   have h:s=⟨2,c⟩:=by simpa using h.symm
   subst h
   refine ⟨.ref a,?_,.inr (.inr (.inl ⟨.inl rfl,a,rfl,fun c hc=>.inl (by rwa [if_pos rfl] at hc),by rw [if_pos rfl]; exact ho⟩))⟩
   rw [aa2 (by omega)]
  ·unfold hid at h
   rw [aam (by rw [aau,he]; simp; omega)] at h; cases h
 ·split at h
  ·exact hb b h
  ·simp at h
 ·split at h
  ·split at z
   ·rename_i h1 h2; exact hij (h1.trans h2.symm)
   ·simp at z
  ·simp at h
 ·dsimp only at h
  split at h
  ·rename_i e; subst e; cases h
   rw [aa2 (by omega)]
  ·cases h
section
variable {P:aaq} {w:World} {K:aad} {mg:Str->Option Value} {base:Heap} {ob:ObK}
theorem jV {x qual:Str} {st:Stmt} {f:Addr} {fd:aaT} {N ps:List Str} {k n:Nat} {nm:Str} {u:WS} (F:Fun K x qual st f fd) (S:aB N ps (ar st)) (hN:N.length=n+1) (hn:ps.length<=n) (hnm:N[n]?=some nm) (hv:¬ Vis (ar st) nm)
  (hb:∀ (cdv:Value),fd.code=cdv->∀ (A:Around) (outer:List Env) (s:Shared) (H:Hp) (E:XK),Room k (A.deeper (envOfC qual (ar st) s.heap.objs.size f cdv))->EvXs ob (cxOf CX0 P w K mg base N qual (ar st) f cdv A outer s H E).nox (bz st) u) :
  FnOk P w K mg base CX0 (k+1) f fd ps (spT ⟨P,w,K,ob⟩ ps.length (runT n u)):=by
 refine F.okC S (fun vs H Q E h=>?_) (fun cdv hcdv A outer s H vs Q E hr h=>?_)
 ·obtain ⟨F,a,l,c,xs,P,_,r,hl,_⟩:=h
  rw [r.len]; exact hl
 ·obtain ⟨F,a,l,c,xs,P',sF,r,hl,ho,hbl,hD,kk⟩:=h
  obtain ⟨t,ht,kt⟩:=(hb cdv hcdv A outer s H E hr).ex
  have fin:∀ (x:PV) (env:En) (v:V) (σ:L2.St) (F' H':Hp),obN n (P' x) env->Same F F'->Sok ⟨P,w,K,ob⟩ ⟨H,F,l,fun i=>if i=n then some a else none,fun b h=>(hbl b h).1⟩ F' σ H' env->Rep K F' v x->Q v H':=fun x env v σ F' H' p s1 K1 rv=>by
   unfold obN at p
   split at p
   ·rename_i c' e
    obtain ⟨fp,L⟩:=K1.sl
    obtain ⟨v0,hv0,ok⟩:=L.at' n _ e
    have hσ:=L.oa n a _ (if_pos rfl) e rfl
    rw [hσ] at hv0; cases hv0
    rcases ok with ⟨k0,_⟩ | ⟨k0,_⟩ | ⟨_,a',e',h1,h2⟩ | ⟨k0,_⟩
    ·cases k0
    ·cases k0
    ·cases e'
     exact kk x _ v F' H' (fp n) p (fun b o h1 h2=>K1.sG b o h1 h2) (fun b h=>K1.pr b h) s1 K1.sF K1.nw h2 (fun b hb=>L.al n b hb) (fun b hb=>h1 b hb) rv
    ·cases k0
   ·exact p.elim
  refine ⟨fun D σ H=>t D (σ.set n (some (.ref a))) H,fun pins s' σ H' D I q=>ht pins s' _ H' D (I.hide hnm hv) q,kt ⟨H,F,l,fun i=>if i=n then some a else none,fun b h=>(hbl b h).1⟩ F ((start N vs).set n (some (.ref a))) H (hid n c xs) (endT n P') _ (pC (M:=⟨P,w,K,ob⟩) sF r hN (by omega) ho hbl) hD ⟨fun env σ F' H' p s1 K1=>?_,fun x env v σ F' H' p s1 K1 rv=>?_,fun _ _ _ _ p=>p.elim,fun _ _ _ _ p=>p.elim,fun _ _ _ _ _ _ p=>p.elim,fun _ _ _ _ _ _ _ p=>p.elim⟩⟩
  ·exact fin .non env .non σ F' H' p s1 K1 .non
  ·exact fin x env v σ F' H' p s1 K1 rv
theorem kQ {k n:Nat} {fad:Addr} {fd:aaT} {ps:List Str} {D D':FdO} (F:FnOk P w K mg base CX0 k fad fd ps (spT ⟨P,w,K,ob⟩ n D)) (h:∀ c xs P,D' c xs P->D c xs P):FnOk P w K mg base CX0 k fad fd ps (spT ⟨P,w,K,ob⟩ n D') :=
 F.imp fun vs H Q E q=>by
  obtain ⟨F,a,l,c,xs,P,a1,a2,a3,a4,a5,a6,a7⟩:=q
  exact ⟨F,a,l,c,xs,P,a1,a2,a3,a4,a5,h _ _ _ a6,a7⟩
end
noncomputable def eCallT (D:FdO) (j:Nat) (fa:WA):WE:=fun env P=>fa env fun xs e=>match e[j]? with
 | some (some ⟨2,c⟩)=>D c xs fun r c'=>P r (e.set j (some ⟨2,c'⟩))
 | some (some ⟨4,c⟩)=>D c xs fun r c'=>P r (e.set j (some ⟨4,c'⟩))
 | _=>False
section
variable {ob:ObK} {X:Cx} {k:Nat} {fad:Addr} {fd:aaT} {ps:List Str} {DO:FdO} {x:Str} {p pos:Pos} {e:Expr} {es:List Expr} {fa:WA}
theorem cu (j:Nat) {n:Nat} (F:FnOk X.prog X.w X.K X.mg X.base CX0 k fad fd ps (spT (md ob X) n DO)) (hr:Room k X.A) (hm:X.mg x=some (.ref fad)) (hk:abv X.K (.ref fad)=true) (hb:Binds X.K fd ps []) (ha:EvA ob X (e::es) fa) (hn:autoParam (es.length+1=n) Z2._auto_1) (hg:autoParam (Gl X x) Z2._auto_1)
  (hdb:autoParam ((x==("__debug__" : Str))=false) Z1._auto_1) (he:autoParam (aan (e::es) X.env=(false,eval e X.env)::aan es X.env) Z2._auto_1) (hpl:autoParam ((backTo pos (aan es X.env)).any (·.1)=false) Z2._auto_1) :
  EvS ob X (.Call (.Name x p) (e::es) [] pos) (eCallT DO j fa):=by
 obtain ⟨t,ht,kt⟩:=ha.ex
 refine ⟨_,fB (E:=E0) F hr hg hm hk hb .nil pass0 ht hdb he hpl,fun Z F σ H env P Q K hf kk=>?_⟩
 refine kt Z F σ H env _ _ K hf fun xs e1 vs F1 H1 p hl s1 K1 r1=>?_
 show spT (md ob X) n DO (vs++[]) H1 Q E0
 rw [aby]
 have fin:∀ (kd:Nat) (c:PV),kd=2\/kd=4->e1[j]?=some (some ⟨kd,c⟩)->DO c xs (fun r c'=>P r (e1.set j (some ⟨kd,c'⟩)))->spT (md ob X) n DO vs H1 Q E0:=fun kd c hkd ei p=>by
  obtain ⟨fp,L⟩:=K1.sl
  obtain ⟨v0,hv0,ok⟩:=L.at' j _ ei
  rcases ok with ⟨k0,_⟩ | ⟨k0,_⟩ | ⟨_,a,rfl,_,ho⟩ | ⟨k0,_⟩
  ·rcases hkd with rfl | rfl <;> cases k0
  ·rcases hkd with rfl | rfl <;> cases k0
  ·refine ⟨F1,a,fp j,c,xs,_,K1.sF,r1,by rw [hl]; exact hn,ho,fun b hb=>L.al j b hb,p,fun r c' v F' H' l' pr kp pre sF sFH nw ho' hl' hn' rv=>?_⟩
   exact kk r _ v F' H' pr (ai s1 sF) (K1.objS hkd L ei hv0 kp pre sF sFH nw ho' hl' hn').1 rv
  ·rcases hkd with rfl | rfl <;> cases k0
 split at p
 ·rename_i ei; exact fin _ _ (.inl rfl) ei p
 ·rename_i ei; exact fin _ _ (.inr rfl) ei p
 ·exact p.elim
end
end Q
namespace Q
open PySem L2 PyProof.Rows PySem.W
noncomputable def eSortK (j i:Nat) (lq:Str) (ln co:Nat) (T:Addr) (f:WE):WE:=fun env P=>f env fun x e=>match x,e[i]?,e[j]? with
 | .tup ys,some (some ⟨0,.dic kvs⟩),some (some ⟨2,c⟩)=>∃ (ss:List Str) (ks:List (Int×Str)),c=tabPV lq ln co T/\ys.mapM strPV=some ss/\ss.length<64/\ks.length=ss.length/\(ks.map (·.2)).Nodup /\
  (∀ m,m<ss.length->valP kvs (aaG (ss.getD m ⟨#[]⟩))=some (.tup [.int (ks.getD m k0).1,.str (ks.getD m k0).2]))/\∀ ix,IxOk ks ss.length ix->P (.lst (ix.map fun m=>.str (ss.getD m ⟨#[]⟩))) e
 | _,_,_=>False
theorem iJ {p q:Pos} (h1:p.line=q.line) (h2:p.col=q.col) (l:List Value):ab8 p l=ab8 q l:=by
 fun_induction ab8 p l with
 | case1 line t col u c rest h=>rw [ab8,<- h1,<- h2,if_pos h]
 | case2 line t col u c rest h ih=>rw [ab8,<- h1,<- h2,if_neg h]; exact ih
 | case3 l h => 
  unfold ab8
  split
  ·rename_i a b c d e f
   exact absurd rfl (h _ _ _ _ _ _)
  ·rfl
theorem r8 {α:Type} {l:List α} {j:Nat} {y:α} (h:l[j]?=some y):l.set j y=l:=by
 apply abX
 intro i
 by_cases z:j=i
 ·subst z
  rw [aa2 (List.getElem?_eq_some_iff.mp h).1,h]
 ·rw [aap z]
theorem t6 {lq lq':Str} {ln ln' co co':Nat} {a b:Addr} (h:tabPV lq ln co a=tabPV lq' ln' co' b):lq=lq'/\ln=ln'/\co=co'/\a=b:=by
 unfold tabPV at h
 injection h with h
 injection h with h1 h
 injection h with h2 h
 injection h with h3 h
 injection h with h4 _
 injection h1 with h1
 injection h2 with h2
 injection h3 with h3
 injection h4 with h4
 exact ⟨h1,by omega,by omega,by exact Int.ofNat.inj h4⟩
section
variable {X:Cx} {lq d x:Str} {lpos p p1 p2 p3 kpos pos:Pos} {T c:Addr} {params:Arguments} {scope:Scope} {e:Expr} {f:WE} {i j k:Nat} {ob:ObK}
theorem tj (j i:Nat) (S:LamSc x d params scope) (S2:LamDf d params scope) (hr:Room k X.A) (hg:Gl X "sorted") (hm:X.mg "sorted" = none) (hq:X.env.qual ++ "<lambda>" = lq) (hcode:X.env.code=.ref c) (hC:abG X.K c T=true) (hB:BMain X.mg X.base)
  (hi:X.N[i]?=some d) (hd:X.env.kindOf d=some .cell) (hv:Vis X.env.scope d) (ha:EvS ob X e f) (hob:autoParam (ob=obG X.K) Z2._auto_1)
  (hs:autoParam (aan [e] X.env=(false,eval e X.env)::aan [] X.env) Z2._auto_1)
  (h1:autoParam (backTo pos (aan [e] X.env)=(false,eval e X.env)::backTo pos (aan [] X.env)) Z2._auto_1) (h2:autoParam ((backTo pos (aan [e] X.env)).any (·.1)=false) Z2._auto_1) :
  EvF ob X (.Call (.Name "sorted" p) [e] [⟨some "key",.Lambda params (.Subscript (.Name d p1) (.Name x p2) p3) scope lpos,kpos⟩] pos) (eSortK j i lq lpos.line lpos.col T f):=by
 subst hob
 obtain ⟨te,hte,kte⟩:=ha.ex
 refine ⟨_,su (i:=i) S S2 hr hg hm hq hcode hC hB hi hd hv hte hs h1 h2,fun Z F σ H env Pp Q K hf kk=>?_⟩
 refine kte Z F σ H env _ _ K hf fun y e1 v F1 H1 p s1 K1 r1=>?_
 split at p
 case h_2=>exact p.elim
 rename_i ys kvs cc ei ej
 obtain ⟨ss,ks,rfl,hss,h64,l2,nd,hval,p⟩:=p
 cases r1 with
 | tup hl hr1 =>
 have:=cZ hJ hss hr1
 subst this
 obtain ⟨fp,L⟩:=K1.sl
 obtain ⟨vr,hσ,okr⟩:=L.at' i _ ei
 obtain ⟨dd,vs',rfl,hdd,rk⟩:∃ dd vs',vr=.ref dd/\F1 dd=some (.dK vs')/\RepsK X.K F1 vs' kvs:=by
  rcases okr with ⟨_,_,r⟩ | ⟨q,_⟩ | ⟨q,_⟩ | ⟨q,_⟩
  ·cases r with
   | dic a b=>exact ⟨_,_,rfl,a,b⟩
  ·cases q
  ·rcases q with q | q <;> cases q
  ·cases q
 obtain ⟨vt,hσt,okt⟩:=L.at' j _ ej
 obtain ⟨rfl,ps,ht1,ht2,ht3⟩:vt=.ref T/\∃ ps:Array Value,H1 T=some (tabE T ps)/\TriplesOk ps.toList/\((fp j=[T]/\ab8 lpos ps.toList=none)\/∃ c',c'≠T/\fp j=[T,c']/\ab8 lpos ps.toList=some (.ref c')/\H1 c'=some (codeE c' lq)):=by
  rcases okt with ⟨q,_⟩ | ⟨q,_⟩ | ⟨_,a,rfl,_,ho⟩ | ⟨q,_⟩
  ·cases q
  ·cases q
  ·rcases ho with (⟨q,_⟩ | ⟨_,_,q,_⟩) | ⟨_,q,_⟩ | ⟨lq',ln,co,ps,q,t1,t2,t3⟩
   ·cases q
   ·cases q
   ·cases q
   ·obtain ⟨rfl,e2,e3,rfl⟩:=t6 q
    refine ⟨rfl,ps,t1,t2,?_⟩
    have ec:∀ l,ab8 ⟨ln,co,0,0⟩ l=ab8 lpos l:=iJ e2.symm e3.symm
    rcases t3 with ⟨g1,g2⟩ | ⟨c',g1,g2,g3,g4⟩
    ·exact .inl ⟨g1,(ec _).symm.trans g2⟩
    ·exact .inr ⟨c',g1,g2,(ec _).symm.trans g3,g4⟩
  ·cases q
 have hT0:T∈fp j:=by
  rcases ht3 with ⟨q,_⟩ | ⟨_,_,q,_⟩ <;> rw [q] <;> simp
 have hFT:F1 T=none:=(L.al j T hT0).2
 have ex:∀ m:Nat,∃ a:Addr,m<ss.length->valV vs' (aaG (ss.getD m ⟨#[]⟩))=some (.ref a)/\SqT X.K F1 a [.int (ks.getD m k0).1,.str (ks.getD m k0).2]:=fun m=>by
  by_cases hm:m<ss.length
  ·have hv:=hval m hm
   rcases rk.val (k:=aaG (ss.getD m ⟨#[]⟩)) with ⟨_,q⟩ | ⟨v,x,q1,q2,q3⟩
   ·rw [q] at hv; cases hv
   ·rw [hv] at q2; cases q2
    cases q3 with
    | tup g1 g2 =>
     cases g2 with
     | cons g2 g3=>cases g3 with
      | cons g3 g4=>cases g4; cases g2; cases g3; exact ⟨_,fun _=>⟨q1,g1⟩⟩
  ·exact ⟨0,fun h=>absurd h hm⟩
 obtain ⟨g,hgk⟩:=Classical.axiomOfChoice ex
 have adl:∀ m,m<ss.length->((aaM ss.length).map g).getD m 0=g m:=fun m hm=>by
  rw [aah,aal,abM hm]; rfl
 refine ⟨_,ss,dd,vs',(aaM ss.length).map g,ks,rfl,aA K1.sF hl,h64,hσ,K1.sF _ _ hdd,by simp,l2,nd,fun m hm=>?_,ps,ht1,ht2,?_⟩
 ·rw [adl m hm]
  exact ⟨(hgk m hm).1,aA K1.sF (hgk m hm).2⟩
 have reps:∀ ix:List Nat,Reps X.K F1 (ix.map fun m=>V.str (ss.getD m ⟨#[]⟩)) (ix.map fun m=>PV.str (ss.getD m ⟨#[]⟩)):=fun ix=>by
  induction ix with
  | nil=>exact .nil
  | cons a r ih=>exact .cons (.str _) ih
 rcases ht3 with ⟨hfp,hnone⟩ | ⟨c',hne,hfp,hsome,hcode'⟩
 ·refine .inl ⟨hnone,fun c' f' ob a1 a2 a3 a4 a5 _ D ix hD ok=>?_⟩
  have old:∀ b o,H1 b=some o->b≠T->(upd (upd (upd H1 T (tabE T (ps++#[rawInt lpos.line,rawInt lpos.col,.ref c']))) c' (codeE c' lq)) f' (lamE f' ob)) b=some o:=fun b o hb hbT=>by
   rw [ak (ax hb a2),ak (ax hb a1),ak hbT]; exact hb
  have eT:(upd (upd (upd H1 T (tabE T (ps++#[rawInt lpos.line,rawInt lpos.col,.ref c']))) c' (codeE c' lq)) f' (lamE f' ob)) T=some (tabE T (ps++#[rawInt lpos.line,rawInt lpos.col,.ref c'])):=by
   rw [ak (abr a5),ak (abr a4),ao]
  have eC:(upd (upd (upd H1 T (tabE T (ps++#[rawInt lpos.line,rawInt lpos.col,.ref c']))) c' (codeE c' lq)) f' (lamE f' ob)) c'=some (codeE c' lq):=by
   rw [ak a3,ao]
  generalize (upd (upd (upd H1 T (tabE T (ps++#[rawInt lpos.line,rawInt lpos.col,.ref c']))) c' (codeE c' lq)) f' (lamE f' ob))=H2 at hD old eT eC ⊢
  have tl:(ps++#[rawInt lpos.line,rawInt lpos.col,aaH c']).toList=ps.toList++[rawInt lpos.line,rawInt lpos.col,aaH c']:=by simp
  have K2:=(K1.objS (.inl rfl) L ej hσt (l':=[T,c']) (F':=F1) (H':=H2) (c':=tabPV lq lpos.line lpos.col T) (fun b o hb hn=>old b o hb fun z=>hn (z ▸ hT0)) (fun b hb=>?_) am (fun b o hb=>old b o (K1.sF b o hb) fun z=>by rw [z,hFT] at hb; cases hb) (fun b hb=>.inl hb)
   (.inr (.inr ⟨lq,lpos.line,lpos.col,_,rfl,eT,by rw [tl]; exact TriplesOk_snoc _ _ _ _ ht2,.inr ⟨c',a4,rfl,by rw [tl]; exact (iJ (p:=⟨lpos.line,lpos.col,0,0⟩) (q:=lpos) rfl rfl _).trans (codeAmong_snoc _ ht2 hnone),eC⟩⟩)) (fun b hb=>?_) (fun b hb=>?_)).1
  ·rw [r8 ej] at K2
   exact kk _ e1 _ F1 _ (p ix ok) s1 (fun _=>by simp) (K2.own hD ⟨_,ao,reps ix⟩)
  ·by_cases z:b=T
   ·rw [z,eT]; simp
   ·obtain ⟨o,ho⟩:=cO hb
    rw [old b o ho z]; simp
  ·rcases List.mem_cons.mp hb with rfl | hb
   ·exact ⟨by rw [eT]; simp,hFT⟩
   ·rw [List.mem_singleton.mp hb]
    exact ⟨by rw [eC]; simp,Same.none_of K1.sF a1⟩
  ·rcases List.mem_cons.mp hb with rfl | hb
   ·exact .inl hT0
   ·rw [List.mem_singleton.mp hb]; exact .inr a1
 ·refine .inr ⟨c',hsome,hcode',fun f' ob a1 _ D ix hD ok=>?_⟩
  have sH:Same H1 (upd H1 f' (lamE f' ob)):=az a1
  have K2:=K1.move am (ai K1.sF sH) sH fun _ h=>.inl h
  exact kk _ e1 _ F1 _ (p ix ok) s1 (fun _=>by simp) (K2.own hD ⟨_,ao,reps ix⟩)
end
end Q
namespace L2
open PySem PySem.Spec PyProof.Rows
theorem qP {P:aaq} {w:World} {K:aad} {mg mb:Str->Option Value} {k:Nat} {fa a c T:Addr} {fd:aaT} {x:Str} {sp:Sp} {s₁:Shared} {vs:List Value} {ns:List Int}
  (KX:K.In s₁.heap) (hns:s₁.heap.Ns aaD mg) (hb:s₁.heap.Ns aev mb) (hbb:∀ x:Str,x ≠ "__name__" -> mb x=abZ x) (hlim:s₁.heap.NoLimit) (hg:s₁.gens=#[])
  (ha:s₁.heap.get? a=some { cls:=.type "list",data:=.seq vs.toArray }) (hi:IntsAre vs ns) (hl:ns.length<=sizeLine) (hr:Room k ae0) (hC:abG K c T=true) (hT:s₁.heap.get? T=some (adf #[])) (hKT:K.lookup T=none) (hB:BMain mg s₁.heap)
  (F:∀ base:Heap,K.In base->base.Ns aaD mg->BMain mg base->FnOk P w K mg base CX0 k fa fd [x] sp) (hbind:∀ (s:Shared) (u:Value),BindsTo s fd ⟨[u],[]⟩ [(x,u)])
  (hsp:∀ H:Hp,SqL K H a (ns.map V.int)->H T=some (tabE T #[])->sp [.ref a] H (fun v H'=>v=.bl true/\∃ ps,H' T=some (tabE T ps)) fun _ _ _=>False) :
  adJ (model P w) ae0 (.call (.ref fa) ⟨[.ref a],[]⟩) (fun r s'=>r=.ok (.ret (.bool true))/\OldK s₁.heap s'.heap/\s'.os=s₁.os/\ad9 s'.gens) s₁:=by
 have rv:=lj hi
 have lenV:=hi.length
 have haT:a≠T:=fun z=>by rw [z,hT] at ha; cases ha
 have core:∀ H:Hp,(∀ b,H b=none\/(∃ o xs,H b=some (.frz o (.lst xs)))\/b=T)->SqL K H a (ns.map V.int)->H T=some (tabE T #[])->HOk P w H s₁.heap->(∀ b,H b≠none->b=a\/b=T)->(H a≠none->K.lookup a=none) ->
   adJ (model P w) ae0 (.call (.ref fa) ⟨[.ref a],[]⟩) (fun r s'=>r=.ok (.ret (.bool true))/\OldK s₁.heap s'.heap/\s'.os=s₁.os/\ad9 s'.gens) s₁:=by
  intro H hO hS hHT hok hA hK
  have base_of:∀ {b:Addr} {o:Obj},s₁.heap.get? b=some o->H b=none->(hidT s₁.heap H).get? b=some o:=fun e n=>sT e n
  have plain:∀ {b:Addr} {o:Obj},s₁.heap.get? b=some o->o≠{ cls:=.type "list",data:=.seq vs.toArray }->o≠adf #[]->H b=none:=fun {b o} e n1 n2=>by
   cases q:H b with
   | none=>rfl
   | some u =>
    rcases hA b (by rw [q]; simp) with z | z
    ·rw [z,ha] at e; cases e; exact absurd rfl n1
    ·rw [z,hT] at e; cases e; exact absurd rfl n2
  have noA:∀ {b:Addr} {o:Obj} {es:Array DictEntry} {ep:Nat},s₁.heap.get? b=some o->o.data=.dict es ep->H b=none:=fun {b o es ep} e d=>plain e (fun z=>by rw [z] at d; cases d) (fun z=>by rw [z] at d; cases d)
  have nsK:∀ {b:Addr} {m:Str->Option Value},s₁.heap.Ns b m->(hidT s₁.heap H).Ns b m:=fun {b m} ⟨o,es,ep,e,d,r⟩=>⟨o,es,ep,base_of e (noA e d),d,r⟩
  have hKb:K.In (hidT s₁.heap H):=fun b o e=>base_of (KX b o e) (by
   cases q:H b with
   | none=>rfl
   | some u =>
    rcases hA b (by rw [q]; simp) with z | z
    ·subst z
     rw [hK (by rw [q]; simp)] at e; cases e
    ·rw [z,hKT] at e; cases e)
  have hBb:BMain mg (hidT s₁.heap H):=by
   obtain ⟨bm,o,b1,b2,b3,b4,b5,b6⟩:=hB.ex
   exact ⟨bm,o,b1,b2,base_of b3 (plain b3 (fun z=>by rw [z] at b6; cases b6) (fun z=>by rw [z] at b6; cases b6)),b4,b5,b6⟩
  have hM:Mod K mg (hidT s₁.heap H):=⟨hKb,nsK hns,⟨mb,nsK hb,hbb⟩,let ⟨mc,h1,h2⟩:=hlim; ⟨mc,nsK h1,h2⟩⟩
  have e0:Env0 P w K mg (hidT s₁.heap H) ae0 [] s₁ H:=⟨rfl,hM,fun b o e=>uG e,aeH (qZ _ _),trivial,fun b hb=>absurd (show b∈([]:List Addr) from hb) (by simp),hok,.of_eq hg⟩
  refine ac9 ((F _ hKb (nsK hns) hBb).run ae0 [] s₁ H ⟨[.ref a],[]⟩ [.ref a] [.ref a] _ _ hr e0 (hbind s₁ (.ref a)) (.cons rfl .nil) (hsp H hS hHT)) fun r s' h=>?_
  cases r with
  | error e=>exact (show False from h).elim
  | ok fl =>
   cases fl with
   | next=>exact acz h
   | brk=>exact acz h
   | cont=>exact acz h
   | ret u =>
    obtain ⟨v,H',os,bare,un,hok',r',q,ps,hT'⟩:=h
    subst q
    obtain rfl:u=Value.bool true:=r'
    have gT:s'.heap.get? T=some (adf ps):=(hok' T _ hT').1
    have keep:∀ b o,s₁.heap.get? b=some o->b≠T->s'.heap.get? b=some o:=fun b o e hbT=>by
     cases q:H b with
     | none=>exact un.keep b o e q (by intro z; exact absurd (show b∈([]:List Addr) from z) (by simp)) (by simp)
     | some u =>
      rcases hO b with z | ⟨ob,xs,z⟩ | z
      ·rw [q] at z; cases z
      ·have z2:=un.frzs b ob _ z
       obtain ⟨e1,_⟩:=hok b _ z
       obtain ⟨e2,_⟩:=hok' b _ z2
       rw [e] at e1; cases e1
       exact e2
      ·exact absurd z hbT
    have C:=PySem.W.codeHd_of_K KX hC
    refine ⟨rfl,⟨fun b o e=>?_,fun b o e=>?_⟩,os,bare⟩
    ·by_cases z:b=T
     ·subst z
      rw [hT] at e; cases e
      exact .inr (.inl ⟨(C.tab hT).isCodeTable,rfl,#[],ps,rfl,by rw [Array.empty_append]; exact gT⟩)
     ·exact .inl (keep b o e z)
    ·by_cases z:b=T
     ·subst z; exact ⟨_,gT⟩
     ·exact ⟨o,keep b o e z⟩
 cases hk:K.lookup a with
 | some o =>
  have e:=KX a o hk
  rw [ha] at e
  cases e
  refine core (fun b=>if b=T then some (tabE T #[]) else none) (fun b=>?_) (.inr ⟨_,vs.toArray,_,hk,rfl,rfl,rfl,by rw [aaf,lenV]; exact hl,by simpa using rv⟩) (if_pos rfl) (fun b u z=>?_) (fun b z=>?_) fun z=>absurd (if_neg haT) z
  ·by_cases hb:b=T
   ·exact .inr (.inr hb)
   ·exact .inl (if_neg hb)
  ·by_cases hb:b=T
   ·have z':=(if_pos hb).symm.trans z
    cases z'
    subst hb
    exact mx hT
   ·have z':=(if_neg hb).symm.trans z
    cases z'
  ·by_cases hb:b=T
   ·exact .inr hb
   ·exact absurd (if_neg hb) z
 | none =>
  refine core (fun b=>if b=T then some (tabE T #[]) else if b=a then some (.frz { cls:=.type "list",data:=.seq vs.toArray } (.lst (ns.map V.int))) else none) (fun b=>?_) (.inl (.inr ⟨{ cls:=.type "list",data:=.seq vs.toArray },(if_neg haT).trans (if_pos rfl)⟩)) (if_pos rfl) (fun b u z=>?_) (fun b z=>?_) fun _=>hk
  ·by_cases hb:b=T
   ·exact .inr (.inr hb)
   ·by_cases hb2:b=a
    ·exact .inr (.inl ⟨_,_,(if_neg hb).trans (if_pos hb2)⟩)
    ·exact .inl ((if_neg hb).trans (if_neg hb2))
  ·by_cases hb:b=T
   ·have z':=(if_pos hb).symm.trans z
    cases z'
    subst hb
    exact mx hT
   ·have z:=(if_neg hb).symm.trans z
    by_cases hb2:b=a
    ·have z:=(if_pos hb2).symm.trans z
     cases z
     subst hb2
     exact ⟨ha,by rw [aae]; exact hl,vs,_,rv,ha⟩
    ·have z:=(if_neg hb2).symm.trans z
     cases z
  ·by_cases hb:b=T
   ·exact .inr hb
   ·by_cases hb2:b=a
    ·exact .inl hb2
    ·exact absurd ((if_neg hb).trans (if_neg hb2)) z
theorem rR {l:ae4} {n k:Nat} {q:aaq} {loose:List Str} {XP:(Str->Option Value)->Heap->Prop} {YP:World->Heap->Prop} {d:DefRec} {K:Params->aad} {sp:World->Sp} {x:Str} {T:Addr}
  (hn:l.most=some n) (hn2:n<=sizeLine) (hdf:d.params.defaults=[]) (hr:Room k ae0)
  (hY:∀ (w:World) (h:Heap),YP w h->(K w.params).In h/\h.get? T=some (adf #[])) (hKT:∀ w:World,(K w.params).lookup T=none)
  (F:∀ (w:World) (mg:Str->Option Value) (fa:Addr) (h:Heap),(K w.params).In h->h.Ns aaD mg->mg d.name=some (.ref fa) ->
   ∃ fd:aaT,(∀ (s:Shared) (u:Value),BindsTo s fd ⟨[u],[]⟩ [(x,u)])/\(∃ c,abG (K w.params) c T=true) /\
    ∀ base:Heap,(K w.params).In base->base.Ns aaD mg->BMain mg base->FnOk l.prog w (K w.params) mg base CX0 k fa fd [x] (sp w))
  (hsp:∀ (w:World) (H:Hp) (a:Addr) (ns:List Int),ns.length<=n->SqL (K w.params) H a (ns.map V.int)->H T=some (tabE T #[])->sp w [.ref a] H (fun v H'=>v=.bl true/\∃ ps,H' T=some (tabE T ps)) fun _ _ _=>False) :
  PySem.W.WalkO q loose XP YP l.row.toRowW d [] (fun f vs=>PySem.call f vs):=by
 refine Att.attach_call hn hdf fun w s₀ s₁ mg mb fa o pm cd doc a vs ns G Y ho hd hcd hmg hobj hints hlen hg=>?_
 obtain ⟨KX,hT⟩:=hY w _ Y
 obtain ⟨fd,hb,⟨c,hC⟩,hF⟩:=F w mg fa _ KX G.T.g hmg
 have hB:BMain mg s₁.heap:=by
  obtain ⟨bm,ob,b1,b2,b3,b4,b5,b6⟩:=G.T.bmain
  exact ⟨bm,ob,b1,b2,b3,b4,b5,b6⟩
 exact qP KX G.T.g G.T.b G.T.builtins G.T.nolimit hg hobj hints (aa1 hlen hn2) hr hC hT (hKT w) hB hF hb (fun H hS hHT=>hsp w H a ns hlen hS hHT)
end L2
namespace Q
open PySem L2 PyProof.Rows
noncomputable def spLawT (K:aad) (T:Addr):Sp:=fun vs H Q _=>∃ (a:Addr) (ns:List Int),vs=[.ref a]/\SqL K H a (ns.map V.int)/\ns.length<=63/\H T=some (tabE T #[])/\∀ (H':Hp) (ps:Array Value),H' T=some (tabE T ps)->Q (.bl true) H'
theorem uW {P:aaq} {w:World} {K:aad} {mg:Str->Option Value} {base:Heap} {D:FdO} {k:Nat} {fad T:Addr} {fd:aaT} {ps:List Str} {lq:Str} {ln co:Nat} (F:FnOk P w K mg base CX0 k fad fd ps (spT ⟨P,w,K,obG K⟩ 1 D))
  (h:∀ (ns:List Int) (x:PV),ns.length<=63->(x=.scr ns\/x=.lst (ns.map .int))->D (tabPV lq ln co T) [x] fun r c=>r=.bl true/\c=tabPV lq ln co T):FnOk P w K mg base CX0 k fad fd ps (spLawT K T):=by
 refine F.imp fun vs H Q E q=>?_
 obtain ⟨a,ns,rfl,hs,hn,hT,kq⟩:=q
 let F0:Hp:=fun b=>if b=T then none else H b
 have sF:Same F0 H:=fun b o e=>by
  by_cases z:b=T
  ·have:=(if_pos z).symm.trans e; cases this
  ·exact (if_neg z).symm.trans e
 have f0:∀ b o,H b=some o->b≠T->F0 b=some o:=fun b o e z=>(if_neg z).trans e
 have fin:∀ x,(x=.scr ns\/x=.lst (ns.map .int))->Rep K F0 (.ref a) x->spT ⟨P,w,K,obG K⟩ 1 D [.ref a] H Q E:=fun x hx r =>
  ⟨F0,T,[T],tabPV lq ln co T,[x],_,sF,.cons r .nil,rfl,.inr (.inr ⟨lq,ln,co,#[],rfl,hT,trivial,.inl ⟨rfl,rfl⟩⟩),fun b hb=>by rw [List.mem_singleton.mp hb]; exact ⟨by rw [hT]; simp,if_pos rfl⟩,h ns x hn hx,fun r c' v F' H' l' e _ _ _ _ _ ho _ _ rv=>by
   obtain ⟨rfl,rfl⟩:=e
   cases rv
   rcases ho with (⟨q,_⟩ | ⟨_,_,q,_⟩) | ⟨_,q,_⟩ | ⟨lq',ln',co',ps',q,t1,_⟩
   ·cases q
   ·cases q
   ·cases q
   ·exact kq H' ps' t1⟩
 rcases hs with (hs | ⟨o,hs⟩) | hs
 ·exact fin _ (.inr rfl) (.lst (f0 _ _ hs fun z=>by rw [z,hT] at hs; cases hs) (eR ns))
 ·exact fin _ (.inl rfl) (.scr (.inl ⟨o,f0 _ _ hs fun z=>by rw [z,hT] at hs; cases hs⟩))
 ·exact fin _ (.inl rfl) (.scr (.inr hs))
end Q
namespace L2
open PySem PySem.Spec PyProof.Rows
theorem Inv.shut {X:Cx} {pins:List (Addr×Obj)} {σ:St} {H:Hp} {s:Shared} {d:Addr} {kvs:List (Key×V)} {o:Obj} (I:Inv X pins σ H s) (e:H d=some (.dK kvs)) (ho:s.heap.get? d=some o):Inv X pins σ (upd H d (.frz o (.dK kvs))) s:=by
 have un:Un X.fs [] H (upd H d (.frz o (.dK kvs))) s.heap s.heap:=by
  refine ⟨fun b u q n _ _=>q,fun b u q n _ _=>⟨u.slots,q⟩,fun b u q n _=>?_,fun b u q _=>⟨u,q⟩,fun b xs q=>?_,fun b u v q=>?_,fun b qs q=>⟨#[],?_⟩⟩
  ·rw [ak (fun z=>by rw [z,e] at n; cases n)]; exact n
  ·rw [ak (fun z=>by rw [z,e] at q; cases q)]; exact q
  ·rw [ak (fun z=>by rw [z,e] at q; cases q)]; exact q
  ·rw [ak (fun z=>by rw [z,e] at q; cases q),q]; simp
 have hok:HOk X.prog X.w (upd H d (.frz o (.dK kvs))) s.heap:=fun b u q=>by
  have st:∀ c v,H c=some v->ObjOk X.prog X.w (upd H d (.frz o (.dK kvs))) s.heap c v:=fun c v hc =>
   (I.hok c v hc).stay (fun _ _ _ g=>g) (fun x hx=>by rw [ak (fun z=>by rw [z,e] at hx; cases hx)]; exact hx) fun x xs hx=>by rw [ak (fun z=>by rw [z,e] at hx; cases hx)]; exact hx
  by_cases z:b=d
  ·subst z
   rw [ao] at q; cases q
   exact ⟨ho,st b _ e⟩
  ·rw [ak z] at q
   exact st b u q
 have:=I.un (t':=s.toks) un hok
 exact this
noncomputable def Iti (d:Addr) (o:Obj) (kvs:List (Key×V)):It :=
 ⟨fun i H=>H d=some (.frz o (.dK kvs))/\i<kvs.length,
  fun i H v H'=>∃ p k x,v=.ref p/\H p=none/\H'=upd H p (.tup [kV k,x])/\kvs[i]?=some (k,x),
  fun i H=>H d=some (.frz o (.dK kvs))/\kvs.length<=i⟩
theorem wD {kvs:List (Key×V)} {vs:List (Key×Value)} (r:KV kvs vs):∀ {i:Nat} {k:Key} {x:V},kvs[i]?=some (k,x)->∃ u,vs[i]?=some (k,u)/\RelV x u:=by
 induction r with
 | nil=>intro i k x e; simp at e
 | @cons p q ps qs h t ih =>
  intro i k x e
  cases i with
  | zero =>
   simp only [ab5,aey] at e
   subst e
   obtain ⟨k',u⟩:=q
   obtain ⟨h1,h2⟩:=h
   dsimp only at h1 h2
   subst h1
   exact ⟨u,rfl,h2⟩
  | succ i =>
   simp only [acG] at e ⊢
   exact ih e
theorem pz {P:aaq} {w:World} {K:aad} {elts:List Expr} {x1:_} {pos:Pos} {d it:Addr} {o:Obj} {kvs:List (Key×V)} {vs:List (Key×Value)} {es:Array DictEntry} {ep:Nat} (r:KV kvs vs) (hx:o.ExactDict) (hdat:o.data=.dict es ep) (hk:KeysOf (aR P w) es) (hp:Pairs (aR P w) es.toList vs) (hn:(vs.map (·.1)).Nodup) :
  Turn P w K (.Tuple elts x1 pos) (Iti d o kvs) [it] it (fun n h=>∃ a b,IsItemIter h it d n vs.length ep a b) where
 mem:=by simp
 obj:=fun n h ⟨a,b,Z⟩ c hc=>by
  rw [List.mem_singleton.mp hc]
  exact ⟨_,Z,fun v e=>by cases (show Data.fields _=Data.cell v from e)⟩
 keep:=fun n h h' ⟨a,b,Z⟩ k=>⟨a,b,k it (by simp) _ Z⟩
 item:=by
  intro X hP hw hK hc n pins s σ H E I hf Z hg
  subst hP hw hK
  obtain ⟨ka,kb,Z⟩:=Z
  obtain ⟨hd,hlt⟩:=hg
  have ho:s.heap.get? d=some o:=(I.hok d _ hd).1
  have D:s.heap.DictAt (aR X.prog X.w) d vs ep:=⟨o,es,ho,hx,hdat,hk,hp,hn⟩
  obtain ⟨⟨k,x⟩,hkx⟩:∃ q,kvs[n]?=some q:=⟨_,aab hlt⟩
  obtain ⟨u,hu,ru⟩:=wD r hkx
  have hfree:H s.heap.objs.size=none:=I.hok.fresh (aaj _)
  have hil:it<s.heap.objs.size:=aak Z
  have hni:s.heap.objs.size≠it:=acd hil
  refine wpAny_pyNext_items_item Z D hu fun key h' q1 q2 q3 q4 kk=>?_
  have rk:RelV (kV k) key:=by
   rcases aX q1 with ⟨i,t,rfl,rfl⟩ | ⟨y,t,rfl,rfl⟩
   ·exact ⟨t,rfl⟩
   ·exact ⟨t,rfl⟩
  refine ⟨_,rfl,wpAny_letOwnedTupleGo_items (s:={ s with heap:=h' }) q2 fun h2 w1 w2=>?_⟩
  have I1:Inv X pins σ (upd H s.heap.objs.size (.tup [kV k,x])) { s with heap:=s.heap.push { cls:=.type "tuple",data:=.seq #[key,u] } } :=
   I.laid (t':=s.toks) (fun b u e=>aac _ e) (aaj _) ⟨by show 2<=sizeLine; decide,[key,u],.cons rk (.cons ru .nil),⟨_,aai _ rfl,rfl,_,rfl⟩⟩
  have hf1:∀ c∈[it],FpOk X pins (upd H s.heap.objs.size (.tup [kV k,x])) c:=fun c hc=>by
   rw [List.mem_singleton.mp hc]
   have:=hf it (by simp)
   exact ⟨by rw [ak (abr hni)]; exact this.1,this.2⟩
  have I2:Inv X pins σ (upd H s.heap.objs.size (.tup [kV k,x])) { s with heap:=h2 }:=by
   refine I1.turnedL (t':=s.toks) (h':=h2) (fun c q hc e=>?_) hf1
   have hcz:c≠it:=fun e=>hc (by simp [e])
   refine w2.extBut _ _ hcz ?_
   by_cases hcs:c=s.heap.objs.size
   ·subst hcs
    have:(s.heap.push { cls:=.type "tuple",data:=.seq #[key,u] }).get? s.heap.objs.size=some { cls:=.type "tuple",data:=.seq #[key,u] }:=aai _ rfl
    have e':some { cls:=.type "tuple",data:=.seq #[key,u] }=some q:=this.symm.trans e
    rw [<- e']; exact q3
   ·exact kk c q hcz ((Heap.get?_push_ne _ _ _ hcs).symm.trans e)
  exact ⟨.ref s.heap.objs.size,_,I2,rfl,⟨_,k,x,rfl,hfree,rfl,hkx⟩,⟨_,_,w1⟩,fun c hc=>(hf1 c hc).1⟩
 done:=by
  intro X hP hw hK hc n pins s σ H E I hf Z hg
  subst hP hw hK
  obtain ⟨ka,kb,Z⟩:=Z
  obtain ⟨hd,hle⟩:=hg
  have ho:s.heap.get? d=some o:=(I.hok d _ hd).1
  have D:s.heap.DictAt (aR X.prog X.w) d vs ep:=⟨o,es,ho,hx,hdat,hk,hp,hn⟩
  have hl:=r.length
  refine wpAny_pyNext_items_end (I.ok.hd hc) Z D (aam (by omega)) fun h' kk=>⟨rfl,I.turnedL (t':=s.toks) (fun c q hc e=>kk c q (fun z=>hc (by simp [z])) e) hf⟩
 self:=fun _ _ _ _ _ ⟨_,_,Z⟩ h=>PySem.W.kcp_self Z h
section
variable {X:Cx}
noncomputable def iItems (to:TE):TI:=fun σ H R=>to σ H fun v H1=>∃ d kvs,v=.ref d/\H1 d=some (.dK kvs)/\∀ o,R (Iti d o kvs) (upd H1 d (.frz o (.dK kvs)))
theorem sr {elts:List Expr} {x1:_} {tpos:Pos} {o:Expr} {to:TE} {apos pos:Pos} (ho:PE X o to)
  (hbase:autoParam (aeg o "items" X.env (eval o X.env)=eval o X.env) Z2._auto_1) (hline:autoParam ((apos.endLine==pos.line)=true) Z2._auto_1) :
  PI X (.Tuple elts x1 tpos) (.Call (.Attribute o "items" apos) [] [] pos) (iItems to):=by
 intro pins s σ H R I h
 refine wpAny_Call_method0_late hbase hline (thn (ho pins s σ H _ I h) fun v s1 ⟨x,H1,I1,r1,q1⟩=>?_)
 obtain ⟨d,kvs,ex,hd,q1⟩:=q1
 subst ex
 cases r1
 obtain ⟨t1,t2,t3⟩:=wS I1 (.inl ⟨kvs,.inl hd⟩)
 refine ⟨"dict", "dict.items",PySem.F.plainAttrs_dict,PySem.F.slot_dict_items,PySem.F.type_dict_items,t1,t2,Calls.callWith_builtin rfl (PySem.evalArgs_none ?_)⟩
 obtain ⟨hz,_,vs,rel,dd⟩:=pQ I1.hok hd
 refine call_meetsIn PySem.F.slot_dict_items dd.typeIs PySem.F.entry_dict_items (PySem.F.args_dict_items_1 _) (meets_dict_items (aR X.prog X.w) d t3) ⟨⟨vs,dd⟩,?_⟩
 obtain ⟨o,es,ep,ho,hx,hdat,hk,hp,hn⟩:=dd
 have D:s1.heap.DictAt (aR X.prog X.w) d vs ep:=⟨o,es,ho,hx,hdat,hk,hp,hn⟩
 refine wpAny_pyIter_items (s:={ s1 with heap:=s1.heap.push { cls:=.type "dict_items",data:=.fields #[.ref d] } }) (v:=s1.heap.objs.size) (d:=d) ⟨_,aai _ rfl,rfl,rfl⟩ (D.push _) ?_
 have I2:Inv X pins σ H1 { s1 with heap:=(s1.heap.push { cls:=.type "dict_items",data:=.fields #[.ref d] }).push { cls:=.type "dict_itemiterator",data:=.fields #[.none,.bool false,.ref d,.int 0 0,.int vs.length 0,.int ep 0,.none,.none] } } :=
  I1.kept (t':=s1.toks) fun b u e=>aac _ (aac _ e)
 have I3:=I2.shut hd (o:=o) (aac _ (aac _ ho))
 have hsz:(s1.heap.push { cls:=.type "dict_items",data:=.fields #[.ref d] }).objs.size=s1.heap.objs.size+1:=abp ..
 have hge:s1.heap.objs.size<=(s1.heap.push { cls:=.type "dict_items",data:=.fields #[.ref d] }).objs.size:=by omega
 have hfr:H1 (s1.heap.push { cls:=.type "dict_items",data:=.fields #[.ref d] }).objs.size=none:=I1.hok.fresh hge
 refine ⟨_,[_],_,_,_,rfl,I3,pz (it:=(s1.heap.push { cls:=.type "dict_items",data:=.fields #[.ref d] }).objs.size) rel hx hdat hk hp hn,⟨_,_,aai _ rfl⟩,fun b hb=>?_,q1 o⟩
 rw [List.mem_singleton.mp hb]
 exact I1.fpOk hge (by rw [ak (fun z=>by rw [z,hd] at hfr; cases hfr)]; exact hfr)
end
end L2
namespace Q
open PySem L2 PyProof.Rows
noncomputable def kP:Key->PV
 | .inl i=>.int i
 | .inr x=>.str x
noncomputable def pairP (q:Key×PV):PV:=.tup [kP q.1,q.2]
theorem wK {K:aad} {F:Hp}:∀ k:Key,Rep K F (kV k) (kP k)
 | .inl i=>.int i
 | .inr x=>.str x
theorem RepsK.get {K:aad} {F:Hp} {vs:List (Key×V)} {xs:List (Key×PV)} (h:RepsK K F vs xs):∀ {i:Nat} {k:Key} {x:PV},xs[i]?=some (k,x)->∃ v,vs[i]?=some (k,v)/\Rep K F v x:=by
 induction h using RepsK.ind with
 | nil=>intro i k x e; simp at e
 | cons a r ih =>
  intro i k x e
  cases i with
  | zero =>
   simp only [ab5,aey,Prod.mk.injEq] at e ⊢
   obtain ⟨rfl,rfl⟩:=e
   exact ⟨_,⟨rfl,rfl⟩,a⟩
  | succ i =>
   simp only [acG] at e ⊢
   exact ih e
theorem wR {M:Md} {F:Hp} {d:Addr} {o:Obj} {vs:List (Key×V)} {xs:List (Key×PV)} (h:F d=some (.frz o (.dK vs))) (r:RepsK M.K F vs xs):ItOk M (Iti d o vs) F (xs.map pairP):=by
 refine ⟨fun Z i σ env F' H x s K e=>?_,fun Z i σ env F' H s K hl=>⟨K.sF _ _ (s _ _ h),by rw [r.len]; simpa using hl⟩⟩
 rw [aal] at e
 cases ez:xs[i]? with
 | none=>rw [ez] at e; cases e
 | some q =>
  rw [ez] at e
  obtain ⟨k,y⟩:=q
  have e:x=pairP (k,y):=(aar e).symm
  subst e
  obtain ⟨v,hv,rv⟩:=r.get ez
  refine ⟨⟨K.sF _ _ (s _ _ h),(List.getElem?_eq_some_iff.mp hv).1⟩,fun v' H' y'=>?_⟩
  obtain ⟨p,k',x',rfl,hp,rfl,q⟩:=y'
  rw [hv] at q; cases q
  have hF:F' p=none:=Same.none_of K.sF hp
  refine ⟨upd F' p (.tup [kV k,v]),az hF,K.lay hp,.tup (.inl (.inl ao)) (.cons (wK k) (.cons ((rv.mono s).mono (az hF)) .nil)),az hp,fun c hc=>?_⟩
  by_cases z:c=p
  ·subst z; exact .inr hp
  ·rw [ak z] at hc; exact .inl hc
noncomputable def kM (i:Nat):WA:=fun env P=>match env[i]? with
 | some (some ⟨1,.dic kvs⟩)=>P (kvs.map pairP) (env.set i none)
 | _=>False
theorem Sok.shut {M:Md} {Z:Zn} {F H:Hp} {σ:L2.St} {env:En} {i:Nat} {kvs:List (Key×PV)} (K:Sok M Z F σ H env) (hi:env[i]?=some (some ⟨1,.dic kvs⟩)) :
  ∃ d vs,σ[i]?=some (some (.ref d))/\H d=some (.dK vs)/\F d=none/\RepsK M.K F vs kvs/\∀ o,Sok M Z (upd F d (.frz o (.dK vs))) σ (upd H d (.frz o (.dK vs))) (env.set i none):=by
 obtain ⟨fp,L⟩:=K.sl
 obtain ⟨v,hv,ok⟩:=L.at' i _ hi
 rcases ok with ⟨e,_⟩ | ⟨_,d,rfl,hf,h0,vs,hd,rk⟩ | ⟨e,_⟩ | ⟨e,_⟩
 ·cases e
 ·have ha:=L.al i d (by rw [hf]; simp)
  refine ⟨d,vs,hv,hd,ha.2,rk,fun o=>?_⟩
  have s1:Same F (upd F d (.frz o (.dK vs))):=az ha.2
  have ot:∀ j b,j≠i->b∈fp j->b≠d:=fun j b hj hb z=>L.dj j i b hj hb (by rw [hf,z]; simp)
  refine ⟨fun b u e=>?_,fun b u e hb=>?_,fun b e=>?_,ai K.gr s1,fun b e=>?_,by simp [K.len],fun j=>if j=i then [] else fp j,fun j s h=>?_,fun j b h=>?_,fun j k b hjk h z=>?_,fun j b t e1 e2 e3=>?_⟩
  ·by_cases z:b=d
   ·subst z; rw [ao] at e ⊢; exact e
   ·rw [ak z] at e ⊢; exact K.sF b u e
  ·rw [ak (fun z=>by rw [z,h0] at e; cases e)]
   exact K.sG b u e hb
  ·by_cases z:b=d
   ·subst z; rw [ao]; simp
   ·rw [ak z]; exact K.pr b e
  ·by_cases z:b=d
   ·subst z; exact .inr h0
   ·rw [ak z] at e; exact K.nw b e
  ·by_cases z:j=i
   ·subst z
    rw [abB] at h
    simp only [if_true] at h
    split at h <;> cases h
   ·rw [aap (abr z)] at h
    rw [if_neg z]
    obtain ⟨v,g1,g2⟩:=L.at' j s h
    exact ⟨v,g1,g2.mono s1 fun c hc=>ak (ot j c z hc)⟩
  ·split at h
   ·simp at h
   ·rename_i z
    have:=L.al j b h
    rw [ak (ot j b z h),ak (ot j b z h)]; exact this
  ·split at h
   ·simp at h
   ·split at z
    ·simp at z
    ·exact L.dj j k b hjk h z
  ·by_cases z:j=i
   ·subst z
    rw [abB] at e2
    simp only [if_true] at e2
    split at e2 <;> cases e2
   ·rw [aap (abr z)] at e2
    exact L.oa j b t e1 e2 e3
 ·rcases e with e | e <;> cases e
 ·cases e
theorem rB {ob:ObK} {X:Cx} (i:Nat) {x:Str} {p apos pos tpos:Pos} {elts:List Expr} {x1:_} (ho:PE X (.Name x p) (tVar i))
  (hbase:autoParam (aeg (.Name x p) "items" X.env (eval (.Name x p) X.env)=eval (.Name x p) X.env) Z2._auto_1) (hline:autoParam ((apos.endLine==pos.line)=true) Z2._auto_1) :
  EvI ob X (.Tuple elts x1 tpos) (.Call (.Attribute (.Name x p) "items" apos) [] [] pos) (kM i):=by
 refine ⟨_,sr ho hbase hline,fun Z F σ H env P R K hf kk=>?_⟩
 unfold kM at hf
 split at hf
 ·rename_i kvs ei
  obtain ⟨d,vs,hv,hd,hF,rk,kz⟩:=K.shut ei
  exact ⟨_,hv,d,vs,rfl,hd,fun o=>kk _ _ _ _ _ hf (az hF) (kz o) (wR ao (rk.mono (az hF)))⟩
 ·exact hf.elim
end Q
namespace L2
open PySem PySem.Spec PyProof.Rows PySem.W
section
variable {prog:aaq} {w:World} {A:Around} {E:Value->Shared->Prop} {s:Shared}
end
end L2
namespace Q
open PySem L2 PyProof.Rows
section
variable {ob:ObK} {X:Cx} {e:Expr} {f:WE} {p pos kpos p1:Pos} {kd:_}
end
end Q
namespace L2
open PySem PySem.Spec PyProof.Rows
section
open PySem.SeqAt
open PySem.AutoSeq1 (wpAny_loadPart')
open PySem.MeetsSeq PySem.MeetsSeq2 PySem.MeetsSeq3
end
end L2
namespace Q
open PySem L2 PyProof.Rows
section
variable {X:Cx} {pins:List (Addr×Obj)} {σ:L2.St} {H F:Hp} {s:Shared}
end
section
variable {ob:ObK} {X:Cx}
end
end Q
namespace L2
open PySem PySem.Spec PyProof.Rows
section
variable {prog:aaq} {w:World} {A:Around} {E:Value->Shared->Prop} {s:Shared} {a₀:Array Keyed} {κ:KeyKind}
end
section
variable {X:Cx}
end
end L2
namespace Q
open PySem L2 PyProof.Rows
section
variable {ob:ObK} {X:Cx} {a b c e:Expr} {es:List Expr} {f g h:WE} {fa:WA} {pos p p1:Pos} {x:Str}
end
section
variable {ob:ObK} {X:Cx}
end
section
variable {ob:ObK} {X:Cx} {a:Expr} {pos:Pos} {f:WE}
end
end Q
namespace L2
open PySem PySem.Spec PyProof.Rows
section
variable {X:Cx} {o e:Expr} {to te:TE} {apos pos:Pos}
end
section
open Builtin Builtin.Str
variable {prog:aaq} {w:World} {A:Around} {E:Value->Shared->Prop} {s:Shared}
end
section
variable {X:Cx} {o e:Expr} {to te:TE} {apos pos:Pos}
noncomputable def tBot:TS:=fun _ _ _=>False
theorem vV {st:Stmt}:PS X st tBot:=fun _ _ _ _ _ _ h=>h.elim
end
end L2
namespace Q
open PySem L2 PyProof.Rows
section
variable {ob:ObK} {X:Cx} {a b e:Expr} {f g:WE} {apos pos:Pos}
noncomputable def sBot:WS:=fun _ _=>False
theorem fK {st:Stmt}:EvX ob X st sBot:=⟨tBot,vV,fun _ _ _ _ _ _ _ _ h _=>h.elim⟩
end
end Q
namespace L2
open PySem PySem.Spec PyProof.Rows
section
variable {prog:aaq} {w:World} {A:Around} {E:Value->Shared->Prop} {s:Shared} {l b:Addr} {items items2:Array Value} {n n2:Nat}
end
section
variable {X:Cx}
end
end L2
namespace Q
open PySem L2 PyProof.Rows
section
variable {ob:ObK} {X:Cx} {e:Expr} {g:WE} {pos pos':Pos}
end
end Q
set_option maxHeartbeats 400000
namespace L2
open PySem PySem.Spec PyProof.Rows
section
variable {X:Cx}
end
end L2
namespace Q
open PySem L2 PyProof.Rows
section
variable {ob:ObK} {X:Cx} {a:Expr} {fa:WA} {p pos:Pos}
end
end Q
namespace Q
open PySem L2 PyProof.Rows
section
variable {ob:ObK} {X:Cx} {pos p p2:Pos} {x:Str}
end
end Q
namespace Pre
open PySem L2
end Pre
namespace Q
open PySem L2 PyProof.Rows
section
variable {X:Cx} {k:Nat} {fad:Addr} {fd:aaT} {ps:List Str} {x y:Str} {p p1 pos pos':Pos}
end
section
variable {ob:ObK} {X:Cx} {k:Nat} {fad:Addr} {fd:aaT} {ps:List Str} {x y:Str} {p p1 pos pos':Pos}
end
end Q
namespace Q
open PySem L2 PyProof.Rows
section
variable {X:Cx} {pins:List (Addr×Obj)} {s:Shared} {σ:L2.St} {H:Hp}
end
section
variable {ob:ObK} {X:Cx} {k:Nat}
end
end Q
namespace L2
open PySem PySem.Spec PyProof.Rows PySem.W
section
variable {prog:aaq} {w:World} {A:Around} {E:Value->Shared->Prop} {s:Shared}
end
end L2
namespace Q
open PySem L2 PyProof.Rows
section
variable {ob:ObK} {X:Cx} {e:Expr} {es:List Expr} {fa:WA} {pos p:Pos}
end
end Q
set_option maxHeartbeats 1000000
namespace L2
open PySem PySem.Spec PyProof.Rows
open AutoSeq1 (wpAny_loadPart')
section
variable {prog:aaq} {w:World} {A:Around} {E:Value->Shared->Prop} {s:Shared}
end
section
variable {X:Cx}
end
end L2
namespace Q
open PySem L2 PyProof.Rows
section
variable {ob:ObK} {X:Cx} {a:Expr} {fa:WA} {p pos:Pos}
end
end Q
namespace L2
open PySem PySem.Spec PyProof.Rows
theorem n6 (t:abN) (n:Nat):(t.orStandIn n).led=t.led:=by
 unfold SetTable.orStandIn aeO
 split <;> rfl
theorem pM (t:abN) (es:Array (Int×Value)) (h:Int) (x:Value):(layNew t es h x).2.1.led=t.led:=by
 unfold layNew
 split
 ·exact n6 _ _
 ·rfl
theorem iC {t t':abN} {hs:Array Int} {n:Nat} {o:Array Nat} (e:t.relaid hs n=some (t',o)):t'.led=t.led/\t'.plain=t.plain:=by
 unfold SetTable.relaid SetTable.laid at e
 cases q:SetTable.layClean (SetTable.sizeAbove n - 1) hs with
 | none=>rw [q] at e; cases e
 | some ow =>
  rw [q] at e
  have e':=aar e
  cases e'
  exact ⟨rfl,rfl⟩
theorem mI (t:abN) (es:Array (Int×Value)) (n:Nat):(adS t es n).2.1.led=t.led:=by
 unfold adS aeO
 split
 ·rename_i e
  dsimp only
  split
  ·exact (iC e).1
  ·rfl
 ·rfl
theorem kn (t:abN) (es:Array (Int×Value)) (n:Nat) (h:t.plain=false):(adS t es n).2.1.plain=false:=by
 unfold adS aeO
 split
 ·rename_i e
  dsimp only
  split
  ·exact (iC e).2.trans h
  ·rfl
 ·rfl
noncomputable def SetX (P:aaq) (w:World) (h:Heap) (a:Addr) (ss:List Str):Prop :=
 ∃ o es ep t ks,h.get? a=some o/\o.ExactSet/\o.data=.set es ep t/\ElemsOf (strKind P w) es.toList/\ab3 (es.toList.map (·.2)) ks/\ks.Perm ss/\es.size<scanBound/\t.fits es.size=true /\
  (w.params.followText "set-order" = false->t.led=true)/\(es.size≠0->t.plain=false)
theorem SetX.keep {P:aaq} {w:World} {h h':Heap} {a:Addr} {ss:List Str} (x:SetX P w h a ss) (k:∀ o,h.get? a=some o->h'.get? a=some o):SetX P w h' a ss:=by
 obtain ⟨o,es,ep,t,ks,a1,r⟩:=x
 exact ⟨o,es,ep,t,ks,k o a1,r⟩
theorem cK {ks:List Str} {vs vs':List Value} (p:vs'.Perm vs):ab3 vs ks->∃ ks',ab3 vs' ks'/\ks'.Perm ks:=by
 induction p generalizing ks with
 | nil=>exact fun h=>⟨ks,h,.refl _⟩
 | cons x p ih =>
  intro h
  cases h with
  | cons s t r=>obtain ⟨k1,h1,p1⟩:=ih r; exact ⟨_,.cons s t h1,p1.cons _⟩
 | swap x y l =>
  intro h
  cases h with
  | cons s t r=>cases r with | cons s' t' r'=>exact ⟨_,.cons s' t' (.cons s t r'),.swap ..⟩
 | trans p1 p2 ih1 ih2 =>
  intro h
  obtain ⟨k2,h2,q2⟩:=ih2 h
  obtain ⟨k1,h1,q1⟩:=ih1 h2
  exact ⟨k1,h1,q1.trans q2⟩
theorem fh {P:aaq} {w:World} {k:Str}:∀ {es:List (Int×Value)} {ks:List Str},ab3 (es.map (·.2)) ks->(k∈ks↔∃ e∈es,(strKind P w).is k e.2=true)
 | [],ks,h=>by cases h; simp
 | e::es,ks,h=>by
  obtain ⟨hh,v⟩:=e
  cases h with
  | cons s t r =>
   rw [ab4,fh (P:=P) (w:=w) (k:=k) r]
   constructor
   ·rintro (rfl | ⟨e,he,q⟩)
    ·exact ⟨_,aat,aet _ _ _ _⟩
    ·exact ⟨e,aav _ he,q⟩
   ·rintro ⟨e,he,q⟩
    rcases List.mem_cons.mp he with rfl | he
    ·obtain ⟨t',e'⟩:=ad6 (x:=k) (v:=ab9 s t) q
     cases e'
     exact .inl rfl
    ·exact .inr ⟨e,he,q⟩
section
variable {prog:aaq} {w:World} {A:Around} {E:Value->Shared->Prop} {s:Shared}
theorem SetX.stored {h:Heap} {a:Addr} {o:Obj} {es:Array (Int×Value)} {ep:Nat} {t:abN} {ks ss:List Str} (ho:h.get? a=some o) (hex:o.ExactSet) (hd:o.data=.set es ep t)
  {es':Array (Int×Value)} {t':abN} (hel:ElemsOf (strKind prog w) es'.toList) (hks:ab3 (es'.toList.map (·.2)) ks) (p:ks.Perm ss) (hb:es'.size<scanBound) (hf:t'.fits es'.size=true)
  (hled:w.params.followText "set-order" = false->t'.led=true) (hpl:es'.size≠0->t'.plain=false) :
  (h.update a (Obj.putSet es' t')).get? a=some { o with data:=.set es' (ep+1) t' }/\SetX prog w (h.update a (Obj.putSet es' t')) a ss:=by
 have hg:=abu (Obj.putSet es' t') ho (by rw [putSet_of es' t' hd]; rfl)
 rw [putSet_of es' t' hd] at hg
 exact ⟨hg,_,es',ep+1,t',ks,hg,hex,rfl,hel,hks,p,hb,hf,hled,hpl⟩
theorem addX {a:Addr} {ss:List Str} {k:Str} {tk:Tok} {Q:Bool->Shared->Prop} (hS:SetX prog w s.heap a ss) (hroom:ss.length+1<scanBound)
  (h:∀ b h',ace a s.heap h'->SetX prog w h' a (if k∈ss then ss else ss++[k])->Q b { s with heap:=h' }) :
  wpAny (model prog w) A (setAddHashed a (.str k tk) ((strKind prog w).hash k)) Q E s:=by
 obtain ⟨o,es,ep,t,ks,ho,hex,hd,hel,hks,p,hb,hf,hled,hpl⟩:=hS
 have hkey:(strKind prog w).is k (.str k tk)=true:=aet _ _ _ _
 have hlen:es.size=ss.length:=by
  have:=hks.length
  rw [aae,aax] at this
  rw [this,p.length_eq]
 unfold setAddHashed setAddHashedIn
 refine aaQ (aaa (acg ho hd hf ?_))
 dsimp only
 rw [byScan_of (knd:=strKind prog w) rfl hb hel]
 simp only [↓reduceIte]
 unfold setAddByScan
 refine aaa (aaa (adQ (aaa (wpAny_setScan_of hkey ho hd hf hel ?_))))
 cases hr:List.findIdx? (fun e=>(strKind prog w).is k e.2) es.toList with
 | some j =>
  obtain ⟨hj,hpj,_⟩:=List.findIdx?_eq_some_iff_getElem.mp hr
  have hm:k∈ss:=p.mem_iff.mp ((fh hks).mpr ⟨_,abI hj,hpj⟩)
  have q:=h false s.heap (Heap.SameBut.refl a s.heap)
  rw [if_pos hm] at q
  exact aag (aag (q ⟨o,es,ep,t,ks,ho,hex,hd,hel,hks,p,hb,hf,hled,hpl⟩))
 | none =>
  have hm:k∉ss:=fun hk=>by
   obtain ⟨e,he,q⟩:=(fh (P:=prog) (w:=w) hks).mp (p.mem_iff.mpr hk)
   have:=List.findIdx?_eq_none_iff.mp hr e he
   rw [q] at this; cases this
  rw [if_neg hm] at h
  dsimp only
  have a1:=layNew_perm t es ((strKind prog w).hash k) (.str k tk)
  have a2:=layNew_fits t es ((strKind prog w).hash k) (.str k tk)
  have a3:=pM t es ((strKind prog w).hash k) (.str k tk)
  generalize layNew t es ((strKind prog w).hash k) (.str k tk)=L at a1 a2 a3 ⊢
  obtain ⟨es1,t1,wd,gave⟩:=L
  dsimp only at a1 a2 a3 ⊢
  rw [aeD] at a1
  have hel1:ElemsOf (strKind prog w) es1.toList:=(hel.push hkey rfl).perm a1
  obtain ⟨k1,hk1,p1⟩:=cK (ks:=ks++[k]) (a1.map (·.2)) (by
   rw [aa4]
   have:∀ {vs:List Value} {ks:List Str},ab3 vs ks->ab3 (vs++[ab9 k tk]) (ks++[k]):=fun {vs ks} z=>by
    induction z with
    | nil=>exact .cons _ _ .nil
    | cons s t r ih=>exact .cons s t ih
   exact this hks)
  have p2:k1.Perm (ss++[k]):=p1.trans (p.append_right [k])
  have z1:es1.size=ss.length+1:=by rw [<- aax,a1.length_eq,aau,aax,hlen]; rfl
  have b1:es1.size<scanBound:=by rw [z1]; exact hroom
  have gw:∀ (b:Bool) {s₁:Shared} {Q':Unit->Shared->Prop},Q' () s₁->wpAny (model prog w) A (match b with | true=>rule "set.scan.the-table-gave-way" | false=>pure ()) Q' E s₁ :=
   fun b _ _ z=>by cases b <;> first | exact aag z | exact adQ z
  have tail:∀ t2:abN,t2.fits es1.size=true->t2.led=t.led->t2.plain=false->wpAny (model prog w) A (do
    storeSet a es1 t2
    if (!wd && t2.tooFull)=true then do
      (match (adS t2 es1 (aca es1.size)).2.2 with | true=>rule "set.scan.the-table-gave-way" | false=>pure ())
      storeSet a (adS t2 es1 (aca es1.size)).1 (adS t2 es1 (aca es1.size)).2.1
      pure (some true)
     else pure (some true)) (fun r s'=>∃ h',r=some true/\s'={ s with heap:=h' }/\ace a s.heap h'/\SetX prog w h' a (ss++[k])) E s:=by
   intro t2 f2 l2 q2
   refine aaa (wpAny_storeSet_of ho hd ?_ (aeu b1))
   obtain ⟨ho1,hS1⟩:=SetX.stored (prog:=prog) (w:=w) ho hex hd hel1 hk1 p2 b1 f2 (fun e=>l2.trans (hled e)) (fun _=>q2)
   have sb1:=aaZ s.heap a (Obj.putSet es1 t2)
   split
   ·have c1:=relayAll_perm t2 es1 (aca es1.size)
    have c2:=relayAll_fits t2 es1 (aca es1.size)
    have c3:=mI t2 es1 (aca es1.size)
    have c4:=kn t2 es1 (aca es1.size) q2
    generalize adS t2 es1 (aca es1.size)=Rl at c1 c2 c3 c4 ⊢
    obtain ⟨es2,t3,g2⟩:=Rl
    dsimp only at c1 c2 c3 c4 ⊢
    obtain ⟨k2,hk2,p3⟩:=cK (c1.map (·.2)) hk1
    have z2:es2.size=es1.size:=by rw [<- aax,c1.length_eq,aax]
    have b2:es2.size<scanBound:=by rw [z2]; exact b1
    refine aaa (gw _ ?_)
    refine aaa (wpAny_storeSet_of ho1 rfl ?_ (aeu b2))
    obtain ⟨_,hS2⟩:=SetX.stored (prog:=prog) (w:=w) ho1 hex rfl (hel1.perm c1) hk2 (p3.trans p2) b2 c2 (fun e=>c3.trans (l2.trans (hled e))) (fun _=>c4)
    exact aag ⟨_,rfl,rfl,sb1.trans (aaZ _ a _),hS2⟩
   ·exact aag ⟨_,rfl,rfl,sb1,hS1⟩
  have done:∀ r s',(∃ h',r=some true/\s'={ s with heap:=h' }/\ace a s.heap h'/\SetX prog w h' a (ss++[k]))->wpAny (model prog w) A (match r with | some added=>pure added | none=>setAddHashedIn a (.str k tk) ((strKind prog w).hash k) 99999) Q E s':=by
   rintro _ _ ⟨h',rfl,rfl,sb,x⟩
   exact aag (h true h' sb x)
  refine aaa (gw _ ?_)
  split
  ·refine aaa ?_
   rw [hashByValue_scannable 8 (x:=.str k tk) rfl]
   refine aag ?_
   exact aaI (tail _ (SetTable.fits_plain_off a2) a3 rfl) done fun _ _ e=>e
  ·rename_i hp
   refine aaa (aag ?_)
   simp only [↓reduceIte]
   exact aaI (tail _ a2 a3 (by simpa using hp)) done fun _ _ e=>e
end
noncomputable def ded (ss:List Str):List Str:=ss.foldl (fun acc k=>if k∈acc then acc else acc++[k]) []
theorem gf (ss:List Str) (k:Str):ded (ss++[k])=if k∈ded ss then ded ss else ded ss++[k]:=by unfold ded; rw [List.foldl_append]; rfl
theorem tz {ss:List Str} {j:Nat} (hj:j<ss.length):ded (ss.take (j+1))=if ss[j]∈ded (ss.take j) then ded (ss.take j) else ded (ss.take j)++[ss[j]]:=by
 rw [ad2,aab hj,Option.toList_some,gf]
theorem j5 {α:Type} {p:List α->Prop} (h0:p []) (h1:∀ xs k,p xs->p (xs++[k])) (l:List α):p l:=by
 rw [<- List.reverse_reverse l]
 induction l.reverse with
 | nil=>exact h0
 | cons a r ih=>rw [abV]; exact h1 _ _ ih
theorem vf (x:Str) (ss:List Str):x∈ded ss↔x∈ss:=by
 induction ss using j5 with
 | h0=>rfl
 | h1 xs k ih =>
  rw [gf]
  split
  ·rename_i h
   rw [ac1,adc,<- ih]
   exact ⟨.inl,fun q=>q.elim id fun e=>e ▸ h⟩
  ·rw [ac1,ac1,ih]
theorem rE (ss:List Str):(ded ss).Nodup:=by
 induction ss using j5 with
 | h0=>exact .nil
 | h1 xs k ih =>
  rw [gf]
  split
  ·exact ih
  ·rename_i h
   rw [ack]
   exact ⟨ih,List.nodup_cons.mpr ⟨abH,.nil⟩,fun a ha b hb e=>h (by rw [<- List.mem_singleton.mp hb,<- e]; exact ha)⟩
theorem o5 (ss:List Str):(ded ss).length<=ss.length:=by
 induction ss using j5 with
 | h0=>exact aaj _
 | h1 xs k ih =>
  rw [gf,aau]
  split
  ·exact aa1 ih (Nat.le_add_right ..)
  ·rw [aau]; exact Nat.add_le_add_right ih _
section
variable {prog:aaq} {w:World} {A:Around} {E:Value->Shared->Prop} {s:Shared}
theorem qk {R:Result->Shared->Prop} {I d:Addr} {fp wr:List Addr} {G:Array GenState->Array GenState->Prop} {P:Nat->Value->Prop} {St:Nat->Shared->Prop} {ss:List Str} (hb:ss.length+1<scanBound)
  (W:WalksS prog w A.in1 I fp wr G ss.length P St) (hd:d∉fp) (hP:∀ i v (hi:i<ss.length),P i v->∃ t,v=.str ss[i] t) :
  ∀ (m j:Nat) (z:Shared),ss.length - j=m->j<=ss.length->St j z->SetX prog w z.heap d (ded (ss.take j)) ->
   (∀ z',Moved (d::wr) G z z'->SetX prog w z'.heap d (ded (ss.take ss.length))->R (.ok (.ret .none)) z') ->
   adJ (model prog w) A (.builtin "set.update.loop" ⟨[.ref d,.ref I],[]⟩) R z:=by
 have dw:d∉wr:=fun h=>hd (W.sub _ h)
 have inc:∀ b∈wr,b∈d::wr:=fun b hb=>aav _ hb
 intro m
 induction m with
 | zero =>
  intro j z hm hj st hs hR
  obtain rfl:j=ss.length:=by omega
  refine acC F.entry_set_update_loop ?_
  rw [aco adA _]
  show wpAny _ A.in1 (pyNext (.ref I) >>= _) _ _ z
  exact aaa (W.done z _ _ st fun z' mv=>aag (hR z' (mv.mono inc) (hs.keep fun o g=>mv.heap d _ dw g)))
 | succ m ih =>
  intro j z hm hj st hs hR
  have hl:j<ss.length:=by omega
  refine acC F.entry_set_update_loop ?_
  rw [aco adA _]
  show wpAny _ A.in1 (pyNext (.ref I) >>= _) _ _ z
  refine aaa (W.item j z _ _ hl st fun v z' hv st' mv=>?_)
  obtain ⟨t,rfl⟩:=hP j v hl hv
  show wpAny _ A.in1 (aeZ [ab9 ss[j] t] (setAdd d (.str ss[j] t)) >>= _) _ _ z'
  refine aaa (aaQ ?_)
  unfold setAdd
  refine aaQ (aaa ((strKind prog w).pyHash (k:=ss[j]) (aet _ _ _ _) ?_))
  have lz:(ded (ss.take j)).length+1<scanBound:=by
   have q1:=o5 (ss.take j)
   have q2:(ss.take j).length<=ss.length:=by rw [aba]; omega
   omega
  refine addX (s:={ z' with toks:=z'.toks+1 }) (show SetX prog w z'.heap d _ from hs.keep fun o g=>mv.heap d _ dw g) lz fun b h' sb hs2=>?_
  rw [<- tz hl] at hs2
  refine aag ⟨adv adA _,ih (j+1) _ (by omega) hl (W.frame _ z' _ _ st' (abP _) fun b hb o e=>?_) hs2 fun z'' mv2 hs3=>?_⟩
  ·rw [sb.2 b fun q:b=d=>hd (q ▸ hb)]; exact e
  ·refine hR z'' (Moved.trans W.gtrans ((mv.mono inc).then_heap (abP _) fun b o hb e=>?_) mv2) hs3
   rw [sb.2 b fun q:b=d=>hb (q ▸ aat)]; exact e
theorem nO (a:Value) {Q:Value->Shared->Prop} (h:Q (.ref s.heap.objs.size) { s with heap:=s.heap.push { cls:=.type "set",dict:=none,data:=.set #[] 0 (.fresh 0 0 (!w.params.followText "set-order")) } }) :
  adJ (model prog w) A (.call (.builtin "set.__new__") ⟨[.type "set",a],[]⟩) (wants Q E) s:=by
 refine codeAny_of_tree (?_:wpAny _ A.in1 (checkBuiltinCall "set.__new__" ⟨[.type "set",a],[]⟩ >>= fun _=>again (.builtin "set.__new__" ⟨[.type "set",a],[]⟩)) _ _ s)
 refine aaa (wpAny_of_eq (F.newCall_set_1 a) (aag ⟨adv F.plain_set_new _,acC F.entry_set_new ?_⟩))
 rw [aco F.plain_set_new _]
 unfold acx.«set.__new__» Builtin.Frozenset.newClass
 have q0:=sub_set_self
 obtain ⟨h0,g0,d0,t0,o0⟩:=s
 dsimp only at h ⊢
 wp_walk
 refine acs (aag ?_)
 simp only [newObj]
 exact aaa (wpAny_alloc (aag (aag h)))
end
section
variable {prog:aaq} {w:World} {A:Around} {E:Value->Shared->Prop} {s:Shared}
theorem kY {l:Addr} {items:Array Value} {ss:List Str} {Q:Value->Shared->Prop} (hh:A.handled=none) (hl:s.heap.IsList l items) (hi:ab3 items.toList ss) (hb:ss.length+1<scanBound)
  (h:∀ (h':Heap) (tk:Nat),SetX prog w h' s.heap.objs.size (ded ss)->(∀ b o,b<s.heap.objs.size->s.heap.get? b=some o->h'.get? b=some o)->s.heap.objs.size<h'.objs.size->Q (.ref s.heap.objs.size) { s with heap:=h',toks:=tk }) :
  wpAny (model prog w) A (call (.type "set") [.ref l]) Q E s:=by
 obtain ⟨c,tl,hmro⟩:=F.called_set.mro
 have hmade:=F.called_set.made
 have hsub:=F.called_set.sub
 have hsz:items.size=ss.length:=by rw [<- aax]; exact hi.length
 refine wpAny_call (codeAny_of_tree (?_:wpAny _ _ (callAny (.type "set") _) _ _ _))
 refine aag ⟨Code.quiet_builtin _ (by decide +kernel),acC F.entry_type_call ?_⟩
 rw [Around.under_plain (weight_type_call_type "set" [.ref l] []) rfl]
 have h1:=F.called_set.notType
 have h2:=F.called_set.canCreate
 have hct:=F.typeCall_set_1 (.ref l)
 repeat (any_goals (first | assumption | wp_step))
 generalize hled:(!w.params.followText "set-order")=led
 refine ac9 (nO (.ref l) (E:=E) (Q:=fun obj z=>obj=.ref s.heap.objs.size/\z={ s with heap:=s.heap.push { cls:=.type "set",dict:=none,data:=.set #[] 0 (.fresh 0 0 led) } }) (by rw [hled]; exact ⟨rfl,rfl⟩)) fun r z hr=>?_
 cases r with
 | error e=>exact hr
 | ok fl =>
 cases fl with
 | ret obj =>
  obtain ⟨rfl,rfl⟩:=hr
  have g0:(s.heap.push { cls:=.type "set",dict:=none,data:=.set #[] 0 (.fresh 0 0 led) }).get? s.heap.objs.size=some { cls:=.type "set",dict:=none,data:=.set #[] 0 (.fresh 0 0 led) }:=aai _ rfl
  have hT:Shared.TypeIs { s with heap:=s.heap.push { cls:=.type "set",dict:=none,data:=.set #[] 0 (.fresh 0 0 led) } } (.ref s.heap.objs.size) "set" := ⟨_,g0,rfl⟩
  have hli:=F.called_set.init.lookup
  have hbi:=F.called_set.init.bind (.ref s.heap.objs.size)
  repeat (any_goals (first | assumption | wp_step))
  refine ac9 (codeAny_call_builtin (R:=wants (fun r z=>r=.none/\∃ h' tk,z={ s with heap:=h',toks:=tk }/\SetX prog w h' s.heap.objs.size (ded ss)/\(∀ b o,b<s.heap.objs.size->s.heap.get? b=some o->h'.get? b=some o)/\s.heap.objs.size<h'.objs.size) E)
   F.called_set.init.plain F.entry_set_init (check_set_init_1 hT ?_)) fun r z hr=>?_
  ·have tt:(s.heap.push { cls:=.type "set",dict:=none,data:=.set #[] 0 (.fresh 0 0 led) }).IsList l items:=by
    obtain ⟨o,e,r⟩:=hl
    exact ⟨o,aac _ e,r⟩
   obtain ⟨⟨ocls,odict,odata,oslots⟩,ho,hc,n0,hd⟩:=id tt
   simp only at hc hd
   subst hc hd
   have a1:=F.sub_list_set
   have a2:=F.sub_list_frozenset
   have a3:(acj "list" == acj "dict")=false:=by decide
   unfold acx.«set.__init__» noKeywords Builtin.Frozenset.updateFrom
   generalize hPI:pyIter=PI
   wp_walk
   subst hPI
   refine adk (s:={ s with heap:=s.heap.push { cls:=.type "set",dict:=none,data:=.set #[] 0 (.fresh 0 0 led) } }) tt ?_
   refine aaa (wpAny_runValue ?_)
   have hlt:l<s.heap.objs.size:=by obtain ⟨o,e,_⟩:=hl; exact aak e
   have hn1:l≠(s.heap.push { cls:=.type "set",dict:=none,data:=.set #[] 0 (.fresh 0 0 led) }).objs.size:=by rw [abp]; exact aas (abd hlt)
   have hn2:s.heap.objs.size∉[(s.heap.push { cls:=.type "set",dict:=none,data:=.set #[] 0 (.fresh 0 0 led) }).objs.size,l]:=by
    rw [abp]
    intro q
    rcases List.mem_cons.mp q with e | q
    ·exact absurd e (aas (abA _))
    ·exact absurd (List.mem_singleton.mp q) (acd hlt)
   have W:=(Walks.list (prog:=prog) (w:=w) (A:=A.in1.in1.in1) (by simp [hh]) (s.heap.push { cls:=.type "set",dict:=none,data:=.set #[] 0 (.fresh 0 0 led) }).objs.size l hn1 items).toS
   rw [hsz] at W
   refine qk hb W hn2 (fun i v hi' hv=>?_) (ss.length - 0) 0 _ (by omega) (abl _) ⟨⟨_,aai _ rfl,rfl,rfl⟩,⟨_,aac _ ho,rfl,n0,rfl⟩⟩ ?_ ?_
   ·obtain ⟨t,e⟩:=hi.get i _ (aab hi')
    rw [abi] at e
    exact ⟨t,aar (hv.symm.trans e)⟩
   ·exact ⟨_,#[],0,_,[],aac _ g0,⟨rfl,rfl,rfl⟩,rfl,fun e he=>by simp at he,.nil,.nil,by decide,rfl,fun e=>by rw [<- hled,e]; rfl,fun e=>(e rfl).elim⟩
   ·intro z mv q
    rw [acQ] at q
    obtain ⟨h',g',d',tk',os'⟩:=z
    obtain rfl:g'=s.gens:=mv.gens
    obtain rfl:d'=s.drawn:=mv.drawn
    obtain rfl:os'=s.os:=mv.os
    refine aag (aag ⟨rfl,h',tk',rfl,q,fun b o hb e=>?_,?_⟩)
    ·refine mv.heap b o ?_ (aac _ (aac _ e))
     rw [abp]
     intro q
     rcases List.mem_cons.mp q with e | q
     ·exact absurd e (aas hb)
     ·exact absurd (List.mem_singleton.mp q) (aas (abd hb))
    ·obtain ⟨o,_,_,_,_,e,_⟩:=q; exact aak e
  ·cases r with
   | error e=>exact hr
   | ok fl =>
   cases fl with
   | ret r =>
    obtain ⟨rfl,h',tk,rfl,q1,q2,q3⟩:=hr
    repeat (any_goals (first | assumption | wp_step))
    exact h _ _ q1 q2 q3
   | _=>exact hr.elim
 | _=>exact hr.elim
end
end L2
namespace L2
open PySem PySem.Spec PyProof.Rows
theorem slot_sit_next:Slot "set_iterator" "__next__" "set_iterator.__next__" :=
 .of (owner := "set_iterator") (n := "__next__") (by rw [typeLookup_type,builtinLookup_eq_fast]; kernel_rfl) (by decide +kernel) (by decide +kernel) (by decide +kernel)
  (by first | exact .inl (by decide +kernel) | exact .inr (by decide +kernel)) (by rw [afe]; kernel_rfl)
theorem kR:entryFor table "set_iterator.__next__" = some acx.«set_iterator.__next__»:=entryFor_of_tree (by kernel_rfl)
theorem lv:Manifest.owners.lookup (String.ofList ("set_iterator".toList.reverse).reverse)=some Manifest.sig_set_iterator:=by kernel_rfl
theorem mj (a:Value):argsOk "set_iterator.__next__" ⟨[a],[]⟩:=by
 unfold argsOk; rw [signature?_of (id := "set_iterator.__next__") (n := "__next__".toList.reverse) (o := "set_iterator".toList.reverse) (by kernel_rfl) lv]; kernel_rfl
theorem kU:entryFor table "set.__iter__" = some acx.«frozenset.__iter__»:=entryFor_alias (id' := "frozenset.__iter__") (by kernel_rfl) rfl (by decide +kernel) (by kernel_rfl)
section
variable {prog:aaq} {w:World} {A:Around} {E:Value->Shared->Prop} {s:Shared}
theorem lQ {src:Source} {n:Nat} {Q:Nat->Shared->Prop} (hn:n≠0) (h:∀ i,i<n->∀ d,Q i { s with drawn:=d }):wpAny (model prog w) A (choose src n) Q E s :=
 fun Γ p hΓ=>⟨hn,h _ (Nat.mod_lt _ (Nat.pos_of_ne_zero hn)) _⟩
theorem jm {α:Type}:∀ (l:List α) (i:Nat) (h:i<l.length),(l[i]::l.eraseIdx i).Perm l
 | x::r,0,_=>.refl _
 | x::r,i+1,h=>(List.Perm.swap ..).trans ((jm r i (Nat.lt_of_succ_lt_succ h)).cons x)
theorem eI {α:Type}:∀ (n:Nat) (xs:List α) (s:Shared) (Q:List α->Shared->Prop),xs.length=n->(∀ ys d,ys.Perm xs->Q ys { s with drawn:=d })->wpAny (model prog w) A (drawOrder n xs) Q E s
 | 0,xs,s,Q,hn,h=>by
  have:xs=[]:=List.length_eq_zero_iff.mp hn
  subst this
  exact aag (h [] s.drawn .nil)
 | n+1,[],s,Q,hn,h=>by cases hn
 | n+1,x::r,s,Q,hn,h=>by
  unfold drawOrder
  have hne:(x::r).length≠0:=by simp
  refine aaa (lQ hne fun i hi d=>?_)
  rw [aab hi]
  have hl:((x::r).eraseIdx i).length=n:=by rw [afc hi,hn]; rfl
  refine aaa (eI n _ _ _ hl fun ys d' p=>aag (h _ d' ?_))
  exact (p.cons _).trans (jm _ _ hi)
theorem lu {α:Type} (f:Nat->Nat):∀ (n k:Nat) (l:List α) (out:Array α),l.length=n->(pickOrder.go f n k l out).toList.Perm (out.toList++l)
 | 0,k,l,out,hn=>by
  have:l=[]:=List.length_eq_zero_iff.mp hn
  subst this
  unfold pickOrder.go
  rw [aby]
 | n+1,k,l,out,hn=>by
  unfold pickOrder.go
  have hi:f k % l.length<l.length:=Nat.mod_lt _ (by omega)
  rw [aab hi]
  dsimp only
  refine (lu f n (k+1) _ _ (by rw [afc hi,hn]; rfl)).trans ?_
  rw [aeD,adp]
  exact (jm _ _ hi).append_left _
theorem kw {α:Type} (f:Nat->Nat) (xs:Array α):(adH f xs).toList.Perm xs.toList:=by
 have:=lu f xs.size 0 xs.toList #[] (aax ..)
 simpa [adH] using this
noncomputable def SIter (h:Heap) (it:Addr) (f:Value) (i:Nat) (a:Addr) (n ep:Nat):Prop :=
 ∃ o,h.get? it=some o/\o.cls=.type "set_iterator" /\ o.data=.fields #[f,.int i 0,.ref a,.int n 0,.int ep 0]
theorem SIter.typeIs {it a:Addr} {f:Value} {i n ep:Nat} (x:SIter s.heap it f i a n ep):s.TypeIs (.ref it) "set_iterator" := let ⟨o,ho,hc,_⟩:=x; ⟨o,ho,hc⟩
noncomputable def SetAt (h:Heap) (a:Addr) (es:Array (Int×Value)) (ep:Nat) (t:abN):Prop:=∃ o,h.get? a=some o/\o.data=.set es ep t/\t.fits es.size=true
theorem fZ {it a:Addr} {f:Value} {i n ep:Nat} {Q:Option Value->Shared->Prop} (x:SIter s.heap it f i a n ep)
  (h:wpAny (model prog w) A.in1 (acx.«set_iterator.__next__» ⟨[.ref it],[]⟩) (fun fin s'=>∃ v,fin=.done (.ret v)/\Q (some v) s') (fun e s'=>s'.TypeIs e "StopIteration" /\ Q none s') s) :
  wpAny (model prog w) A (pyNext (.ref it)) Q E s:=by
 unfold pyNext
 refine aaa (wpAny_attempt (ab1 (name:=aaN "__next__") x.typeIs slot_sit_next (aa8 slot_sit_next x.typeIs kR (aaI h ?_ ?_) (mj _))))
 ·rintro fin s' ⟨v,rfl,q⟩
  exact ⟨v,rfl,aag q⟩
 ·rintro e s' ⟨hT,q⟩
  exact aaa (wpAny_isInstance (T := "StopIteration") (b:=true) hT isSubtype_stop (aag q))
theorem lr {it a:Addr} {slot i n ep nx:Nat} {es:Array (Int×Value)} {t:abN} {v:Value} {Q:Option Value->Shared->Prop} (x:SIter s.heap it (.int slot 0) i a n ep) (hS:SetAt s.heap a es ep t) (hn:es.size=n)
  (hx:∀ (Q:Option (Value×Nat)->Shared->Prop) (E:Value->Shared->Prop),Q (some (v,nx)) s->wpAny (model prog w) A.in1 (setNext a slot i ep) Q E s)
  (k:∀ h',SIter h' it (.int nx 0) (i+1) a n ep->ace it s.heap h'->Q (some v) { s with heap:=h' }):wpAny (model prog w) A (pyNext (.ref it)) Q E s:=by
 refine fZ x ?_
 obtain ⟨o,ho,hc,hd⟩:=x
 obtain ⟨os,hos,hds,hf⟩:=hS
 unfold acx.«set_iterator.__next__»
 refine aaa (m:=slotArgs "__next__" 0 _) (aag ?_)
 refine aaa (adY ho hd ?_)
 dsimp only
 refine aaa (acu hos hds hf ?_)
 rw [if_neg (by rw [hn]; simp)]
 simp only [acl]
 refine aaa (hx _ _ ?_)
 dsimp only
 refine aaa (acK ho hd (by simp) ?_)
 have h1:=abu (Obj.mapFields (·.setIfInBounds 0 (rawInt nx))) ho (acN (abm hd _))
 refine aaa (acK h1 (abm hd _) (by simp) (aag ⟨v,rfl,k _ ?_ ?_⟩))
 ·refine ⟨_,abu _ h1 (acN (abm (abm hd _) _)),(aeA ..).trans ((aeA ..).trans hc),?_⟩
  rw [abm (abm hd _)]; simp [rawInt]
 ·exact (aaZ ..).trans (aaZ ..)
theorem jC {h₁:Heap} {R:aek->Shared->Prop} {Q:Option Value->Shared->Prop} (hh:A.handled=none) (k:∀ h',(∀ b o,h₁.get? b=some o->h'.get? b=some o)->Q none { s with heap:=h' }) :
  wpAny (model prog w) A.in1 (newExc (.type "StopIteration") [] >>= fun e=>raiseNew e) R (fun e s'=>s'.TypeIs e "StopIteration" /\ Q none s') { s with heap:=h₁ }:=by
 refine aaa ?_
 simp only [newExc,newTuple]
 refine aaa (aa3 ?_ (by size_fits))
 refine aaa (m:=firstArgMember _ _) (wpAny_of_eq (a:=aa0) (by first | rfl | (simp only [firstArgMember]; rfl)) ?_)
 refine aa3 ?_ (by size_fits)
 simp only [raiseNew]
 refine aaa (wpAny_handled ?_)
 rw [show A.in1.handled=none from hh]
 exact aaa (aag (wpAny_throw ⟨⟨_,aai _ rfl,rfl⟩,k _ fun b o e=>aac _ (aac _ e)⟩))
theorem iO {it a:Addr} {slot i n ep:Nat} {es:Array (Int×Value)} {t:abN} {Q:Option Value->Shared->Prop} (hh:A.handled=none) (x:SIter s.heap it (.int slot 0) i a n ep) (hS:SetAt s.heap a es ep t) (hn:es.size=n)
  (hx:∀ (Q:Option (Value×Nat)->Shared->Prop) (E:Value->Shared->Prop),Q none s->wpAny (model prog w) A.in1 (setNext a slot i ep) Q E s)
  (k:∀ h',Heap.ExtBut it s.heap h'->Q none { s with heap:=h' }):wpAny (model prog w) A (pyNext (.ref it)) Q E s:=by
 refine fZ x ?_
 obtain ⟨o,ho,hc,hd⟩:=x
 obtain ⟨os,hos,hds,hf⟩:=hS
 unfold acx.«set_iterator.__next__»
 refine aaa (m:=slotArgs "__next__" 0 _) (aag ?_)
 refine aaa (adY ho hd ?_)
 dsimp only
 refine aaa (acu hos hds hf ?_)
 rw [if_neg (by rw [hn]; simp)]
 simp only [acl]
 refine aaa (hx _ _ ?_)
 dsimp only
 refine aaa (acK ho hd (by simp) ?_)
 exact jC hh fun h' e=>k h' fun b o hb g=>e b o ((aaZ ..).extBut b o hb g)
noncomputable def PlAt (h:Heap) (T:Addr) (pl:List Nat):Prop:=∃ o m,h.get? T=some o/\o.data=.seq (pl.map fun (i:Nat)=>rawInt i).toArray m
theorem qj {it a T:Addr} {i n ep p:Nat} {pl:List Nat} {es:Array (Int×Value)} {t:abN} {v:Value} {hv:Int} {Q:Option Value->Shared->Prop} (x:SIter s.heap it (.ref T) i a n ep) (hS:SetAt s.heap a es ep t) (hn:es.size=n) (hT:PlAt s.heap T pl)
  (hp:pl[i]?=some p) (he:es[p]?=some (hv,v))
  (k:∀ h',SIter h' it (.ref T) (i+1) a n ep->ace it s.heap h'->Q (some v) { s with heap:=h' }):wpAny (model prog w) A (pyNext (.ref it)) Q E s:=by
 refine fZ x ?_
 obtain ⟨o,ho,hc,hd⟩:=x
 obtain ⟨os,hos,hds,hf⟩:=hS
 obtain ⟨oT,m,hoT,hdT⟩:=hT
 unfold acx.«set_iterator.__next__»
 refine aaa (m:=slotArgs "__next__" 0 _) (aag ?_)
 refine aaa (adY ho hd ?_)
 dsimp only
 refine aaa (acu hos hds hf ?_)
 rw [if_neg (by rw [hn]; simp)]
 refine aaa (wpAny_seqItems hoT hdT ?_)
 have e1:((pl.map fun (i:Nat)=>rawInt i).toArray)[(i:Int).toNat]?=some (.int p 0):=by
  rw [acl,List.getElem?_toArray,aal,hp]; rfl
 dsimp only
 rw [e1]
 dsimp only
 unfold setNextDrawn
 refine aaa (aaa (acg hos hds hf ?_))
 dsimp only
 simp only [acl,bne_self_eq_false,aaR,↓reduceIte,he]
 refine aag ?_
 refine aaa (acK ho hd (by simp) (aag ⟨v,rfl,k _ ⟨_,abu _ ho (acN (abm hd _)),(aeA ..).trans hc,?_⟩ (aaZ ..)⟩))
 rw [abm hd]; simp [rawInt]
theorem rZ {it a T:Addr} {i n ep:Nat} {pl:List Nat} {es:Array (Int×Value)} {t:abN} {Q:Option Value->Shared->Prop} (hh:A.handled=none) (x:SIter s.heap it (.ref T) i a n ep) (hS:SetAt s.heap a es ep t) (hn:es.size=n) (hT:PlAt s.heap T pl)
  (hp:pl[i]?=none)
  (k:∀ h',Heap.ExtBut it s.heap h'->Q none { s with heap:=h' }):wpAny (model prog w) A (pyNext (.ref it)) Q E s:=by
 refine fZ x ?_
 obtain ⟨o,ho,hc,hd⟩:=x
 obtain ⟨os,hos,hds,hf⟩:=hS
 obtain ⟨oT,m,hoT,hdT⟩:=hT
 unfold acx.«set_iterator.__next__»
 refine aaa (m:=slotArgs "__next__" 0 _) (aag ?_)
 refine aaa (adY ho hd ?_)
 dsimp only
 refine aaa (acu hos hds hf ?_)
 rw [if_neg (by rw [hn]; simp)]
 refine aaa (wpAny_seqItems hoT hdT ?_)
 have e1:((pl.map fun (i:Nat)=>rawInt i).toArray)[(i:Int).toNat]?=none:=by
  rw [acl,List.getElem?_toArray,aal,hp]; rfl
 dsimp only
 rw [e1]
 dsimp only
 refine aaa (acK ho hd (by simp) ?_)
 have h1:=abu (Obj.mapFields (·.setIfInBounds 0 (rawInt 0))) ho (acN (abm hd _))
 refine aaa (acK h1 (abm hd _) (by simp) ?_)
 exact jC hh fun h' e=>k h' fun b o hb g=>e b o (((aaZ ..).trans (aaZ ..)).extBut b o hb g)
end
end L2
namespace L2
open PySem PySem.Spec PyProof.Rows
section
variable {prog:aaq} {w:World} {A:Around} {E:Value->Shared->Prop} {s:Shared}
theorem lw {a:Addr} {es:Array (Int×Value)} {ep slot i:Nat} {t:abN} {Q:Option (Value×Nat)->Shared->Prop} (ht:w.params.followText "set-order" = true) (hS:SetAt s.heap a es ep t)
  (h:Q (((adH (w.params.setOrder a ep) es)[i]?).map fun e=>(e.2,slot)) s):wpAny (model prog w) A (setNext a slot i ep) Q E s:=by
 obtain ⟨o,ho,hd,hf⟩:=hS
 unfold setNext
 refine aaa (acg ho hd hf ?_)
 dsimp only
 unfold setsByText
 refine aaa (aaa (acs (aag ?_)))
 rw [if_pos (show (model prog w).w.params.followText "set-order" = true from ht),if_neg (by simp)]
 unfold setWalk
 refine aaa (aaa (acg ho hd hf ?_))
 dsimp only
 unfold setsByText
 refine aaa (aaa (acs (aag ?_)))
 rw [if_pos (show (model prog w).w.params.followText "set-order" = true from ht)]
 exact aaa (acs (aag (aag h)))
theorem jh {a:Addr} {es:Array (Int×Value)} {ep slot i:Nat} {t:abN} {Q:Option (Value×Nat)->Shared->Prop} (ht:w.params.followText "set-order" = false) (hS:SetAt s.heap a es ep t) (hl:t.led=true) (hz:es.size<=1)
  (h:Q (match es[acM t.place slot]?,t.place[acM t.place slot]? with | some (_,x),some j=>some (x,j+1) | _,_=>none) s):wpAny (model prog w) A (setNext a slot i ep) Q E s:=by
 obtain ⟨o,ho,hd,hf⟩:=hS
 unfold setNext
 refine aaa (acg ho hd hf ?_)
 dsimp only
 unfold setsByText
 refine aaa (aaa (acs (aag ?_)))
 rw [if_neg (show ¬ ((model prog w).w.params.followText "set-order" = true) from by show ¬ (w.params.followText "set-order" = true); rw [ht]; exact aay)]
 refine adF (fun (hab:(!t.plain && decide (es.size > 1))=true)=>absurd hab (by rw [decide_eq_false (by omega),afm]; exact aay)) (fun _=>?_)
 refine aaa (?_:wpAny _ _ (if (!t.led && !es.isEmpty)=true then unsupported _ else pure ()) _ _ _)
 rw [if_neg (by rw [hl]; simp)]
 refine aag (aag ?_)
 exact h
end
end L2
namespace L2
open PySem PySem.Spec PyProof.Rows
theorem gi:Slot "set_iterator" "__iter__" "set_iterator.__iter__" :=
 .of (owner := "set_iterator") (n := "__iter__") (by rw [typeLookup_type,builtinLookup_eq_fast]; kernel_rfl) (by decide +kernel) (by decide +kernel) (by decide +kernel)
  (by first | exact .inl (by decide +kernel) | exact .inr (by decide +kernel)) (by rw [afe]; kernel_rfl)
theorem kT:entryFor table "set_iterator.__iter__" = some acx.«dict_keyiterator.__iter__»:=entryFor_alias (id' := "dict_keyiterator.__iter__") (by kernel_rfl) rfl (by decide +kernel) (by kernel_rfl)
theorem ml (a:Value):argsOk "set_iterator.__iter__" ⟨[a],[]⟩:=by
 unfold argsOk; rw [signature?_of (id := "set_iterator.__iter__") (n := "__iter__".toList.reverse) (o := "set_iterator".toList.reverse) (by kernel_rfl) lv]; kernel_rfl
section
variable {prog:aaq} {w:World} {A:Around} {E:Value->Shared->Prop} {s:Shared}
theorem iM {it a:Addr} {f:Value} {i n ep:Nat} {Q:Value->Shared->Prop} (x:SIter s.heap it f i a n ep) (h:Q (.ref it) s):wpAny (model prog w) A (pyIter (.ref it)) Q E s:=by
 refine adj x.typeIs gi (aa8 gi x.typeIs kT (?_:wpAny _ _ (ret (.ref it)) _ _ s) (ml _))
 exact aag ⟨_,rfl, "set_iterator",_,x.typeIs,slot_sit_next.lookup,h⟩
theorem SIter.keep {h h':Heap} {it a:Addr} {f:Value} {i n ep:Nat} (x:SIter h it f i a n ep) (k:∀ o,h.get? it=some o->h'.get? it=some o):SIter h' it f i a n ep:=let ⟨o,e,r⟩:=x; ⟨o,k o e,r⟩
theorem SetAt.keep {h h':Heap} {a:Addr} {es:Array (Int×Value)} {ep:Nat} {t:abN} (x:SetAt h a es ep t) (k:∀ o,h.get? a=some o->h'.get? a=some o):SetAt h' a es ep t:=let ⟨o,e,r⟩:=x; ⟨o,k o e,r⟩
theorem PlAt.keep {h h':Heap} {T:Addr} {pl:List Nat} (x:PlAt h T pl) (k:∀ o,h.get? T=some o->h'.get? T=some o):PlAt h' T pl:=let ⟨o,m,e,r⟩:=x; ⟨o,m,k o e,r⟩
theorem walkT (hh:A.handled=none) (ht:w.params.followText "set-order" = true) {it a:Addr} {es:Array (Int×Value)} {ep:Nat} {t:abN} (hne:a≠it) :
  Walks prog w A it [it,a,it] [it] ((adH (w.params.setOrder a ep) es).toList.map (·.2)).length (fun i v=>((adH (w.params.setOrder a ep) es).toList.map (·.2))[i]?=some v)
   (fun i h=>SIter h it (.int ((0:Nat):Int) 0) i a es.size ep/\SetAt h a es ep t) where
 sub:=fun b hb=>by simp at hb; simp [hb]
 frame:=fun _ _ _ st k=>⟨st.1.keep fun o e=>k it (by simp) o e,st.2.keep fun o e=>k a (by simp) o e⟩
 item:=fun i s Q E hi st k=>by
  have hi':i<(adH (w.params.setOrder a ep) es).toList.length:=by rw [aae] at hi; exact hi
  refine lr (nx:=0) (v:=((adH (w.params.setOrder a ep) es).toList[i]).2) st.1 st.2 rfl (fun Q E q=>lw ht st.2 ?_) fun h' x sb=>k _ h' s.toks ?_ ⟨x,st.2.keep fun o e=>sb.extBut a o hne e⟩ fun b o hb e=>sb.extBut b o (fun z=>hb (by simp [z])) e
  ·rw [<- abi,aab hi']; exact q
  ·rw [aal,aab hi']; rfl
 done:=fun s Q E st k=>by
  refine iO hh st.1 st.2 rfl (fun Q E q=>lw ht st.2 ?_) fun h' x=>k h' s.toks fun b o hb e=>x b o (fun z=>hb (by simp [z])) e
  rw [aae,<- abi,aam (aaj _)]
  exact q
 self:=fun i s Q E st h=>iM st.1 h
theorem pf (xs:Array Nat) (hz:xs.size<=1):acM xs 0=0:=by
 unfold acM
 rcases aaO xs.size 1 with h | h
 ·have:xs.size=0:=by omega
  rw [this]; rfl
 ·have:xs.size=1:=by omega
  rw [this]
  unfold adm
  simp only [ac0,↓reduceIte,Nat.not_lt_zero]
  unfold adm
  rfl
theorem vD (xs:Array Nat) (p:Nat) (hz:xs.size=1) (hp:xs[0]?=some p):acM xs (p+1)=1:=by
 unfold acM
 rw [hz]
 unfold adm
 have e:xs.getD 0 (p+1)=p:=by rw [ac4,hp]; rfl
 simp only [ac0,↓reduceIte]
 rw [show (0+1) / 2=0 from rfl,e,if_pos (abA p)]
 unfold adm
 rfl
theorem walk1 (hh:A.handled=none) (ht:w.params.followText "set-order" = false) {it a:Addr} {es:Array (Int×Value)} {ep:Nat} {t:abN} (hne:a≠it) (hl:t.led=true) (hz:es.size<=1) (hf:t.fits es.size=true) :
  Walks prog w A it [it,a,it] [it] (es.toList.map (·.2)).length (fun i v=>(es.toList.map (·.2))[i]?=some v)
   (fun i h=>SIter h it (.int ((if i=0 then 0 else t.place.getD 0 0+1:Nat):Int) 0) i a es.size ep/\SetAt h a es ep t):=by
 have hps:t.place.size=es.size:=by
  unfold SetTable.fits at hf
  rw [aaK] at hf
  exact eq_of_beq hf.1
 refine ⟨fun b hb=>by simp at hb; simp [hb],fun _ _ _ st k=>⟨st.1.keep fun o e=>k it (by simp) o e,st.2.keep fun o e=>k a (by simp) o e⟩,fun i s Q E hi st k=>?_,fun s Q E st k=>?_,fun i s Q E st h=>iM st.1 h⟩
 ·have h1:es.toList.length=1:=by rw [aae] at hi; rw [aax] at hi ⊢; omega
  have hs1:es.size=1:=by rw [<- aax]; exact h1
  have hi0:i=0:=by rw [aae,h1] at hi; omega
  subst hi0
  have hlt:0<es.toList.length:=by rw [h1]; exact ac0
  obtain ⟨p,hp⟩:∃ p,t.place[0]?=some p:=⟨_,abC (by rw [hps,hs1]; exact ac0)⟩
  have hg:t.place.getD 0 0=p:=by rw [ac4,hp]; rfl
  rw [if_pos rfl] at st
  refine lr (nx:=p+1) (v:=(es.toList[0]).2) st.1 st.2 rfl (fun Q E q=>jh ht st.2 hl hz ?_) fun h' x sb=>k _ h' s.toks ?_ ⟨?_,st.2.keep fun o e=>sb.extBut a o hne e⟩ fun b o hb e=>sb.extBut b o (fun z=>hb (by simp [z])) e
  ·rw [pf _ (by rw [hps]; exact hz),hp,<- abi,aab hlt]; exact q
  ·rw [aal,aab hlt]; rfl
  ·rw [if_neg (by omega),hg]; exact x
 ·rcases aaO es.size 1 with h | h
  ·have h0:es.size=0:=by omega
   rw [aae,aax,h0,if_pos rfl] at st
   refine iO hh st.1 st.2 h0 (fun Q E q=>jh ht st.2 hl hz ?_) fun h' x=>k h' s.toks fun b o hb e=>x b o (fun z=>hb (by simp [z])) e
   rw [pf _ (by rw [hps]; exact hz),Array.getElem?_eq_none (by omega)]; exact q
  ·have hs1:es.size=1:=by omega
   rw [aae,aax,hs1,if_neg (by decide)] at st
   obtain ⟨p,hp⟩:∃ p,t.place[0]?=some p:=⟨_,abC (by rw [hps,hs1]; exact ac0)⟩
   have hg:t.place.getD 0 0=p:=by rw [ac4,hp]; rfl
   rw [hg] at st
   refine iO hh st.1 st.2 hs1 (fun Q E q=>jh ht st.2 hl hz ?_) fun h' x=>k h' s.toks fun b o hb e=>x b o (fun z=>hb (by simp [z])) e
   rw [vD _ p (by rw [hps]; exact hs1) hp,Array.getElem?_eq_none (by omega)]; exact q
theorem walkD (hh:A.handled=none) {it a T:Addr} {es:Array (Int×Value)} {ep:Nat} {t:abN} {pl:List Nat} {vs:List Value} (hne:a≠it) (hT:T≠it) (hv:vs.length=pl.length) (hp:∀ i p:Nat,pl[i]?=some p->∃ h v,es[p]?=some (h,v)/\vs[i]?=some v) :
  Walks prog w A it [it,a,T] [it] vs.length (fun i v=>vs[i]?=some v) (fun i h=>SIter h it (.ref T) i a es.size ep/\SetAt h a es ep t/\PlAt h T pl) where
 sub:=fun b hb=>by simp at hb; simp [hb]
 frame:=fun _ _ _ st k=>⟨st.1.keep fun o e=>k it (by simp) o e,st.2.1.keep fun o e=>k a (by simp) o e,st.2.2.keep fun o e=>k T (by simp) o e⟩
 item:=fun i s Q E hi st k=>by
  obtain ⟨h,v,e1,e2⟩:=hp i _ (aab (by rw [<- hv]; exact hi))
  exact qj st.1 st.2.1 rfl st.2.2 (aab (by rw [<- hv]; exact hi)) e1 fun h' x sb=>k _ h' s.toks e2 ⟨x,st.2.1.keep fun o e=>sb.extBut a o hne e,st.2.2.keep fun o e=>sb.extBut T o hT e⟩ fun b o hb e=>sb.extBut b o (fun z=>hb (by simp [z])) e
 done:=fun s Q E st k=>rZ hh st.1 st.2.1 rfl st.2.2 (aam (by omega)) fun h' x=>k h' s.toks fun b o hb e=>x b o (fun z=>hb (by simp [z])) e
 self:=fun i s Q E st h=>iM st.1 h
end
end L2
namespace L2
open PySem PySem.Spec PyProof.Rows
section
variable {prog:aaq} {w:World} {A:Around} {E:Value->Shared->Prop} {s:Shared}
theorem qt {α:Type} (d:α):∀ l:List α,(aaM l.length).map (fun p=>l.getD p d)=l:=fun l=>by
 refine abX fun i=>?_
 rw [aal]
 rcases aaO i l.length with h | h
 ·rw [abM h,aab h,adK,aah,aab h]; rfl
 ·rw [aam (by rw [abW]; exact h),aam h]; rfl
theorem SetX.typeIs {a:Addr} {ss:List Str} (x:SetX prog w s.heap a ss):s.TypeIs (.ref a) "set" := let ⟨o,_,_,_,_,ho,hc,_⟩:=x; ⟨o,ho,hc.1⟩
theorem iterX {a:Addr} {ss:List Str} {Q:Value->Shared->Prop} (hh:A.handled=none) (hS:SetX prog w s.heap a ss)
  (h:∀ (h':Heap) (d:Drawn) (it T:Addr) (vs:List Value) (ks:List Str) (St:Nat->Heap->Prop),s.heap.objs.size<=it->s.heap.objs.size<=T->ab3 vs ks->ks.Perm ss->(∀ b o,s.heap.get? b=some o->h'.get? b=some o) ->
   Walks prog w A it [it,a,T] [it] vs.length (fun i v=>vs[i]?=some v) St->St 0 h'->Q (.ref it) { s with heap:=h',drawn:=d }):wpAny (model prog w) A (pyIter (.ref a)) Q E s:=by
 have hT:=hS.typeIs
 obtain ⟨o,es,ep,t,ks,ho,hex,hd,hel,hks,p,hb,hf,hled,hpl⟩:=hS
 have hlt:=aak ho
 refine adj hT PySem.F.slot_set_iter (aa8 PySem.F.slot_set_iter hT kU ?_ (PySem.F.args_set_iter_1 _))
 unfold acx.«frozenset.__iter__» Builtin.Frozenset.slot0 slotArgs
 simp only [List.isEmpty_nil,ab7,aaR,↓reduceIte,bind_assoc,ae8,bne_self_eq_false]
 unfold Builtin.Frozenset.addrOf Builtin.Frozenset.sizeOf
 refine aaa (aag ?_)
 try dsimp only
 refine aaa (aag ?_)
 refine aaa (aaa (acu ho hd hf (aag ?_)))
 have hS:SetAt s.heap a es ep t:=⟨o,ho,hd,hf⟩
 have hdr:∀ (Q:Bool->Shared->Prop) (E:Value->Shared->Prop),Q (!w.params.followText "set-order" && (!t.plain && decide (es.size > 1))) s->wpAny (model prog w) A.in1 (setDrawn a) Q E s:=fun Q E q=>by
  unfold setDrawn
  refine aaa (acg ho hd hf ?_)
  dsimp only
  unfold setsByText
  exact aaa (aaa (acs (aag (aag q))))
 refine aaa (hdr _ _ ?_)
 have plain:∀ (vs:List Value) (ks:List Str) (St:Nat->Heap->Prop),ab3 vs ks->ks.Perm ss->Walks prog w A s.heap.objs.size [s.heap.objs.size,a,s.heap.objs.size] [s.heap.objs.size] vs.length (fun i v=>vs[i]?=some v) St ->
   (∀ h':Heap,SIter h' s.heap.objs.size (.int ((0:Nat):Int) 0) 0 a es.size ep->SetAt h' a es ep t->St 0 h')->wpAny (model prog w) A.in1 (do
     let first <- pure (rawInt 0)
     let e <- setEpoch a
     let it <- newFields "set_iterator" [first,rawInt 0,aaH a,rawInt es.size,rawInt e]
     ret it) (fun fin s'=>∃ v,fin=.done (.ret v)/\∃ T' r,s'.TypeIs v T'/\typeLookup (.type T') (aaN "__next__")=pure (some r)/\Q v s') E s:=by
  intro vs ks St h1 h2 W hst
  refine aaa (aag ?_)
  refine aaa (wpAny_setEpoch_of ho hd hf ?_)
  refine aaa (aa3 (aag ⟨_,rfl, "set_iterator",_,⟨_,aai _ rfl,rfl⟩,slot_sit_next.lookup,?_⟩))
  exact h _ s.drawn _ _ vs ks St (aaj _) (aaj _) h1 h2 (fun b o e=>aac _ e) W (hst _ ⟨_,aai _ rfl,rfl,rfl⟩ (hS.keep fun o e=>aac _ e))
 cases ht:w.params.followText "set-order" with
 | true =>
  rw [ab7,afl,if_neg aay]
  obtain ⟨k1,a1,a2⟩:=cK ((kw (w.params.setOrder a ep) es).map (·.2)) hks
  exact plain _ k1 _ a1 (a2.trans p) (walkT hh ht (aas hlt)) fun h' x y=>⟨x,y⟩
 | false =>
  rcases aaO 1 es.size with hz | hz
  ·rw [hpl (by omega),decide_eq_true hz]
   refine (?_:wpAny _ _ (if true=true then _ else _) _ _ _)
   rw [if_pos rfl]
   refine aaa (eI _ _ _ _ abW fun pl d pp=>?_)
   refine aaa ?_
   unfold newTuple
   have hlen:pl.length=es.size:=by rw [pp.length_eq,abW]
   refine aa3 ?_ (by
    show ((pl.map fun (i:Nat)=>rawInt i).toArray).size<=sizeLine
    rw [aaf,aae,hlen]; exact aeu hb)
   refine aaa (wpAny_setEpoch_of (aac _ ho) hd hf ?_)
   refine aaa (aa3 (aag ⟨_,rfl, "set_iterator",_,⟨_,aai _ rfl,rfl⟩,slot_sit_next.lookup,?_⟩))
   have e0:(pl.map (fun p=>(es.toList.getD p (0,.none)).2)).Perm (es.toList.map (·.2)):=by
    have q:=pp.map (fun p=>(es.toList.getD p (0,.none)).2)
    rw [<- aax] at q
    have e:=congrArg (List.map (·.2)) (qt ((0:Int),aa0) es.toList)
    rw [aaJ] at e
    exact q.trans (by rw [<- e]; exact .refl _)
   obtain ⟨k1,a1,a2⟩:=cK e0 hks
   refine h _ d _ s.heap.objs.size _ k1 _ ?_ (aaj _) a1 (a2.trans p) (fun b o e=>aac _ (aac _ e))
    (walkD (t:=t) (ep:=ep) (es:=es) (pl:=pl) hh ?_ ?_ (aae ..) fun i q hq=>?_) ⟨⟨_,aai _ rfl,rfl,rfl⟩,hS.keep fun o e=>aac _ (aac _ e),⟨_,_,aac _ (aai _ rfl),rfl⟩⟩
   ·rw [abp]; exact abP _
   ·rw [abp]; exact aas (abd hlt)
   ·rw [abp]; exact aas (abA _)
   ·have hm:q∈aaM es.size:=pp.mem_iff.mp (abf hq)
    have hq2:q<es.toList.length:=by rw [aax]; exact List.mem_range.mp hm
    refine ⟨_,_,(by rw [<- abi]; exact aab hq2),?_⟩
    rw [aal,hq,adK,aah,aab hq2]; rfl
  ·rw [decide_eq_false (by omega),afm,afm,if_neg aay]
   exact plain _ ks _ hks p (walk1 hh ht (aas hlt) (hled ht) hz hf) fun h' x y=>⟨x,y⟩
end
end L2
namespace L2
open PySem PySem.Spec PyProof.Rows PySem.Calls PyProof.V
section
variable {prog:aaq} {w:World} {A:Around} {E:Value->Shared->Prop} {s:Shared}
theorem sR {r:Addr} {Q:Bool->Shared->Prop} (hT:s.TypeIs (.ref r) "set") (h:Q false s):wpAny (model prog w) A (afb (.ref r)) Q E s:=by
 unfold afb
 refine aaa (wpAny_specialOf hT PySem.F.slot_set_len.lookup ?_)
 generalize hn:("set.__len__" : String)=nm
 wp_delta
 rw [show splitId nm=some ("set", "__len__") from by subst hn; decide +kernel]
 subst hn
 refine aaa (wpAny_isInstance (T := "set") (b:=true) hT (by rw [afe]; kernel_rfl) ?_)
 refine adF (fun q=>absurd q (by decide)) fun _=>adF (fun _=>?_) fun q=>absurd (by decide +kernel) q
 exact aaa (ac8 hT (aag h))
theorem vb {R:Result->Shared->Prop} {r S:Addr} {ss:List Str} (hh:A.handled=none) (hX:SetX prog w s.heap r ss) (hSr:S≠r) (res:Value) (c₀:Nat) (hS:s.heap.get? S=some { cls:=.type "list",data:=.seq #[] c₀ }) (hn:ss.length<=sizeLine)
  (hR:∀ h' tk d acc c' ks,(∀ b o,b≠S->s.heap.get? b=some o->h'.get? b=some o)->h'.get? S=some { cls:=.type "list",dict:=none,data:=.seq acc c',slots:=#[] }->ab3 acc.toList ks->ks.Perm ss->R (.ok (.ret res)) { s with heap:=h',toks:=tk,drawn:=d }) :
  wpAny (model prog w) A.in1 (ac3 (.ref S) (.ref r) res)
   (fun fin s'=>match fin with | .done f=>R (.ok f) s' | .again c'=>c'.quiet=true/\adJ (model prog w) A c' R s') (fun e s'=>R (.error e) s') s:=by
 have hlS:=aak hS
 unfold ac3
 refine aaa (ac8 (T := "set") hX.typeIs ?_)
 have h1:Builtin.List.listSameRef (.ref S) (.ref r)=false:=by simp [Builtin.List.listSameRef,hSr]
 have h2:(acj "set" == acj "list")=false:=by decide
 have h3:(acj "set" == acj "tuple")=false:=by decide
 simp only [h1,h2,h3,Bool.or_false,aaR,if_false]
 refine aaa (iterX hh hX fun hp d it T vs ks St l1 l2 a1 a2 kp W st=>?_)
 have hz:vs.length<=sizeLine:=by rw [a1.length,a2.length_eq]; exact hn
 have hSf:S∉[it,r,T]:=by
  simp only [ab4,abH,or_false,not_or]
  exact ⟨aas (aaB hlS l1),hSr,aas (aaB hlS l2)⟩
 have key:∀ (h:Heap) (c₁ tk:Nat),St 0 h->(∀ b o,b≠S->s.heap.get? b=some o->h.get? b=some o)->h.get? S=some { cls:=.type "list",data:=.seq #[] c₁ } ->
   adJ (model prog w) A (.builtin "list.extend.loop" ⟨[.ref S,.ref it,res],[]⟩) R { s with heap:=h,toks:=tk,drawn:=d }:=by
  intro h c₁ tk hst hk hS₁
  refine codeAny_extend_loopS W.toS hz S hSf res vs.length 0 _ #[] c₁ rfl (abl _) hst hS₁ (ItemsOf.nil _) fun s' acc c' hm hS' hacc=>?_
  rw [Moved.eq_with hm]
  have hev:acc.toList=vs:=by
   refine abX fun i=>?_
   rcases aaO i vs.length with q | q
   ·have hi:i<acc.size:=by rw [hacc.1]; exact q
    rw [abi,abC hi]
    exact (hacc.2 i _ (abC hi)).symm
   ·rw [aam q,aam (by rw [aax,hacc.1]; exact q)]
  refine hR s'.heap s'.toks d acc c' ks (fun b o hb e=>hm.heap b o (fun q=>?_) (hk b o hb e)) hS' (by rw [hev]; exact a1) a2
  rcases List.mem_cons.mp q with z | q
  ·exact hb z
  ·exact absurd (aak e) (by rw [List.mem_singleton.mp q]; exact Nat.not_lt.mpr l1)
 have hS₁:=kp _ _ hS
 have hX1:SetX prog w hp r ss:=hX.keep fun o e=>kp _ _ e
 refine aaa (aaQ (sR hX1.typeIs ?_))
 refine adF (fun _=>?_) (fun _=>aag ⟨adv afg _,key _ c₀ _ st (fun b o _ e=>kp _ _ e) hS₁⟩)
 refine aaa (adQ (aaa ?_))
 refine (?_:wpAny _ _ (updateSeq S (·.push .none) >>= fun _=>updateSeq S (·.pop)) _ _ _)
 refine aaa (wpAny_updateSeq hS₁ rfl ?_)
 have hS₂:=abu (abn (·.push aa0)) hS₁ rfl
 refine wpAny_updateSeq (hz:=by seq_fits) hS₂ rfl ?_
 have hS₃:=abu (abn (·.pop)) hS₂ rfl
 have oth:∀ b,b≠S->∀ o,hp.get? b=some o->((hp.update S (abn (·.push aa0))).update S (abn (·.pop))).get? b=some o:=fun b hb o e =>
  (acI _ _ (abr hb)).trans ((acI _ _ (abr hb)).trans e)
 exact aag ⟨adv afg _,key _ _ _ (W.frame 0 _ _ st fun b hb o e=>oth b (fun z=>hSf (z ▸ hb)) o e) (fun b o hb e=>oth b hb o (kp _ _ e)) hS₃⟩
theorem tD {R:List Value->Shared->Prop} {r:Addr} {ss:List Str} (hh:A.handled=none) (hX:SetX prog w s.heap r ss) (hn:ss.length<=sizeLine)
  (h:∀ (h':Heap) (tk:Nat) (d:Drawn) (vs:List Value) (ks:List Str),(∀ b o,s.heap.get? b=some o->h'.get? b=some o)->ab3 vs ks->ks.Perm ss->R vs { s with heap:=h',toks:=tk,drawn:=d }) :
  wpAny (model prog w) A (collect (.ref r)) R E s:=by
 have hlt:r<s.heap.objs.size:=by obtain ⟨o,_,_,_,_,e,_⟩:=hX; exact aak e
 unfold collect
 refine aaa (wpAny_runValue (acC entry_proto_collect' ?_))
 rw [aco PySem.F.plain_proto_collect _]
 refine (?_:wpAny _ A.in1 (newList [] >>= fun l=>again (.builtin "list.__iadd__" ⟨[l,.ref r],[]⟩)) _ _ s)
 refine aaa (aa3 (aag ⟨adv PySem.F.plain_list_iadd _,acC entry_list_iadd' ?_⟩))
 rw [aco PySem.F.plain_list_iadd _]
 have e1:(s.heap.push { cls:=.type "list",data:=.seq ([]:List Value).toArray }).get? s.heap.objs.size=some { cls:=.type "list",data:=.seq #[] }:=aai _ rfl
 refine (?_:wpAny _ A.in1 (ac3 (.ref s.heap.objs.size) (.ref r) (.ref s.heap.objs.size)) _ _ _)
 have key:=vb (A:=A) (s:={ s with heap:=s.heap.push { cls:=.type "list",data:=.seq ([]:List Value).toArray } })
  (R:=fun q s'=>∃ h' tk d acc c' ks,q=.ok (.ret (.ref s.heap.objs.size))/\s'={ s with heap:=h',toks:=tk,drawn:=d }/\(∀ b o,s.heap.get? b=some o->h'.get? b=some o) /\
   h'.get? s.heap.objs.size=some { cls:=.type "list",dict:=none,data:=.seq acc c',slots:=#[] }/\ab3 acc.toList ks/\ks.Perm ss)
  hh (hX.keep fun o e=>aac _ e) (acd hlt) (.ref s.heap.objs.size) 0 e1 hn
  fun h' tk d acc c' ks k1 k2 k3 k4=>⟨h',tk,d,acc,c',ks,rfl,rfl,fun b o e=>k1 b o (aas (aak e)) (aac _ e),k2,k3,k4⟩
 refine aaI key (fun fin s' x=>?_) fun e s' x=>?_
 ·cases fin with
  | done f =>
   obtain ⟨h',tk,d,acc,c',ks,e,rfl,k1,k2,k3,k4⟩:=x
   cases e
   exact aaa (wpAny_load k2 (aag (h h' tk d _ ks k1 k3 k4)))
  | again c₁ =>
   refine ⟨x.1,ac9 x.2 fun q s₂ y=>?_⟩
   obtain ⟨h',tk,d,acc,c',ks,rfl,rfl,k1,k2,k3,k4⟩:=y
   exact aaa (wpAny_load k2 (aag (h h' tk d _ ks k1 k3 k4)))
 ·obtain ⟨_,_,_,_,_,_,e',_⟩:=x
  cases e'
end
end L2
namespace L2
open PySem PySem.Spec PyProof.Rows
section
variable {prog:aaq} {w:World} {A:Around} {E:Value->Shared->Prop} {s:Shared}
theorem pA {x:Value} {Q:Value->Shared->Prop} (hc:wpAny (model prog w) A.in1 (collect x) (fun vs s1=>∃ ss:List Str,ab3 vs ss/\vs.length<64 /\
   (∀ (h2:Heap) (out:List Value) (ss':List Str) (n:Nat),(∀ b o,s1.heap.get? b=some o->h2.get? b=some o)->h2.get? s1.heap.objs.size=some (seqObj "list" out.toArray n)->ab3 out ss'->ss'.Perm ss->sortedS ss'=true->Q (.ref s1.heap.objs.size) { s1 with heap:=h2 })) E s) :
  wpAny (model prog w) A (call (.builtin "sorted") [x]) Q E s:=by
 refine adg aeX aeE aeF (args_sorted1 _) ?_
 unfold acx.«sorted»
 refine aaa (m:=checkCount "sorted" 1 1 _) (aag (aaa (aaI hc (fun vs s1 hv=>?_) fun _ _ e=>e)))
 obtain ⟨ss,hS,h64,k⟩:=hv
 refine aaa (acA ?_ (by rw [aaA]; omega))
 have at1:(s1.heap.push (seqObj "list" vs.toArray 0)).get? s1.heap.objs.size=some (seqObj "list" vs.toArray 0):=aai _ rfl
 refine aaa (aaQ (aa8 ade ⟨_,at1,rfl⟩ acZ (list_sort_treeK strKind_oneLt at1 hS.keysOf (fun v₁ v₂ rest e=>keyKind_strs (by rw [<- e]; exact hS)) h64 fun st p q=>⟨_,rfl,?_⟩) (adZ _)))
 obtain ⟨ss',b1,b2,b3⟩:=sorted_out_str hS p q
 obtain ⟨n,at2⟩:=sortedHeap_at (out:=(arrOf st).map (·.2)) at1
 refine aag ⟨_,rfl,k _ ((arrOf st).map (·.2)).toList ss' n (fun b o e=>?_) (by rw [adX]; exact at2) b1 b2 b3⟩
 have lt:=aak e
 rw [sortedHeap_old (aas lt) (by rw [size_push']; exact abd lt)]
 exact aac _ e
end
theorem Inv.drw {X:Cx} {pins:List (Addr×Obj)} {σ:List (Option V)} {H:Hp} {s:Shared} (I:Inv X pins σ H s) (d:Drawn):Inv X pins σ H { s with drawn:=d } :=
 ⟨I.ok,I.os,I.bare,I.base,I.loc,I.cell,I.free,I.freeC,I.pin,I.hok,I.len⟩
noncomputable def setXo (P:aaq) (w:World) (a:Addr) (ss:List Str):HO:=.ext fun h=>SetX P w h a ss
theorem setXOk {P:aaq} {w:World} {H:Hp} {h:Heap} {a:Addr} {ss:List Str} (x:SetX P w h a ss):ObjOk P w H h a (setXo P w a ss) :=
 ⟨x,(by obtain ⟨o,_,_,_,_,e,_⟩:=x; exact ⟨o,e⟩),fun h1 h2 y k=>SetX.keep y k⟩
section
variable {X:Cx}
noncomputable def rSetLX (P:aaq) (w:World):List V->Hp->VK->Prop:=fun xs H Q=>∃ (p:Addr) (ss:List Str),xs=[.ref p]/\H p=some (.lst (ss.map V.str))/\ss.length<=1000/\∀ l,H l=none->Q (.ref l) (upd H l (setXo P w l (ded ss)))
theorem pW (hc:X.calm=true):CallR X (.type "set") (rSetLX X.prog X.w):=by
 intro pins s σ H xs us Q I r h
 obtain ⟨p,ss,rfl,hq,hl,k⟩:=h
 obtain ⟨u,rfl,ru⟩:=r.one
 cases ru
 obtain ⟨_,its,n,rv,g⟩:=I.hok p _ hq
 refine kY (I.ok.hd hc) ⟨_,g,rfl,n,rfl⟩ (by simpa using fW rv) (by unfold scanBound; omega) fun h' tk q1 q2 q3=>?_
 exact ⟨.ref s.heap.objs.size,_,I.laid (t':=tk) (o:=setXo X.prog X.w s.heap.objs.size (ded ss)) (fun b o e=>q2 b o (aak e) e) (aaj _) (setXOk q1),rfl,k _ (I.hok.fresh (aaj _))⟩
noncomputable def rSortX (P:aaq) (w:World):List V->Hp->VK->Prop:=fun xs H Q=>∃ (a:Addr) (ss:List Str),xs=[.ref a]/\H a=some (setXo P w a ss)/\ss.length<64 /\
 ∀ (l:Addr) (ts:List Str),H l=none->ts.Perm ss->ts.Pairwise (fun a b=>¬ ltS b a)->Q (.ref l) (upd H l (.lst (ts.map V.str)))
theorem pR (hc:X.calm=true):CallR X (.builtin "sorted") (rSortX X.prog X.w):=by
 intro pins s σ H xs us Q I r h
 obtain ⟨a,ss,rfl,ha,h64,k⟩:=h
 obtain ⟨u,rfl,ru⟩:=r.one
 cases ru
 obtain ⟨x,_,_⟩:=I.hok a _ ha
 refine pA (tD (A:=X.A.in1) (I.ok.hd hc) x (by rw [aaA]; omega) fun h1 tk d vs ks kk a1 a2=>?_)
 refine ⟨ks,a1,by rw [a1.length,a2.length_eq]; exact h64,fun h2 out ss' n k2 e2 o1 o2 o3=>?_⟩
 have I1:Inv X pins σ H { s with heap:=h1,toks:=tk }:=I.kept kk
 have I2:=I1.laid (t':=tk) (a:=h1.objs.size) (o:=.lst (ss'.map V.str)) (fun b o q=>k2 b o q) (aaj _) ⟨by rw [aae,o2.length_eq,a2.length_eq,aaA]; omega,out,n,dt o1,e2⟩
 exact ⟨.ref h1.objs.size,_,I2.drw d,rfl,k _ ss' (I1.hok.fresh (aaj _)) (o2.trans a2) (dq o3)⟩
end
end L2
namespace Q
open PySem L2 PyProof.Rows
noncomputable def jt (fa:WA):WE:=fun env P=>fa env fun xs e=>match xs with
 | [.lst ys]=>∃ ss,ys.mapM strPV=some ss/\ss.length<=1000/\(ded ss).length<64/\∀ ts,StrsUp (ded ss) ts->P (.lst (ts.map .str)) e
 | _=>False
section
variable {ob:ObK} {X:Cx} {a b c e:Expr} {es:List Expr} {f g h:WE} {fa:WA} {pos pos2 p p1 p2:Pos} {x:Str}
theorem pO (hc:X.calm=true) (hg:Gl X "sorted") (hm:X.mg "sorted" = none) (hg2:Gl X "set") (hm2:X.mg "set" = none) (ha:EvAW ob X [e] fa) (he2:autoParam (aan [e] X.env=(false,eval e X.env)::aan [] X.env) Z2._auto_1)
  (he:autoParam (aan [.Call (.Name "set" p2) [e] [] pos2] X.env=(false,eval (.Call (.Name "set" p2) [e] [] pos2) X.env)::aan [] X.env) Z2._auto_1) (hpl2:autoParam ((backTo pos2 (aan [] X.env)).any (·.1)=false) Z2._auto_1) (hpl:autoParam ((backTo pos (aan [] X.env)).any (·.1)=false) Z2._auto_1) :
  EvF ob X (.Call (.Name "sorted" p) [.Call (.Name "set" p2) [e] [] pos2] [] pos) (jt fa):=by
 obtain ⟨t,ht,k⟩:=ha.ex
 refine ⟨_,bC (pR hc) hg hm adx (bb (gI (pW hc) hg2 hm2 PyProof.Rows.boot_set ht (by decide) (by decide) he2 hpl2) bG he) (by decide) (by decide) he hpl,fun Z F σ H env P Q K hf kk=>k Z F σ H env _ _ K hf fun xs e1 vs F1 H1 p s1 K1 r1=>?_⟩
 split at p
 ·obtain ⟨ss,hs,hl,h64,p⟩:=p
  obtain ⟨v,rfl,r⟩:=r1.one
  obtain ⟨q,vs,rfl,h1,h2⟩:=r.lst K1.sF
  have:=cZ hJ hs h2
  subst this
  refine ⟨q,ss,rfl,h1,hl,fun l hn=>⟨l,_,rfl,ao,h64,fun m ts hm hp hw=>?_⟩⟩
  have sH:Same H1 (upd H1 l (setXo X.prog X.w l (ded ss))):=az hn
  have K2:=K1.move am (ai K1.sF sH) sH fun _ h=>.inl h
  exact kk _ e1 _ F1 _ (p ts ⟨hp,hw⟩) s1 (fun _=>by simp) (K2.own hm ⟨_,ao,du ts⟩)
 ·exact p.elim
end
end Q
namespace L2
open PySem PySem.Spec PyProof.Rows PyProof.Rows.KTD
noncomputable def FnTab (h:Heap) (a:Addr) (D:List (Str×Addr)):Prop:=TabOf (fun (f:Addr) v=>v=aaH f) h a D
section
variable {prog:aaq} {w:World} {A:Around} {E:Value->Shared->Prop} {s:Shared}
theorem FnTab.typeIs {a:Addr} {D:List (Str×Addr)} (T:FnTab s.heap a D):s.TypeIs (.ref a) "dict" := let ⟨_,o,_,_,ho,hc,_⟩:=T; ⟨o,ho,hc.1⟩
theorem u9 {a f:Addr} {D:List (Str×Addr)} {k:Str} {tk:Tok} {Q:Value->Shared->Prop} (T:FnTab s.heap a D) (hf:datumAt k D=some f) (h:Q (.ref f) { s with toks:=s.toks+1 }) :
  wpAny (model prog w) A (acP (.ref a) (.str k tk)) Q E s:=by
 have hT:=T.typeIs
 obtain ⟨_,o,es,ep,ho,hc,hd,hr⟩:=T
 unfold acP
 try with_reducible refine aaQ ?_
 refine aaa (adi hT (by decide) (aaa (ab1 (name:=aaN "__getitem__") hT slot_dict_getitem (aa8 slot_dict_getitem hT entry_dict_getitem (?_:wpAny _ _ (dictGet a (.str k tk) >>= _) _ _ s) (args_dict_getitem _ _)))))
 unfold dictGet
 refine aaa (aaQ (aaa (wpAny_pyHash_str (aaa (kt_dictFind_strs (s:={ s with toks:=s.toks+1 }) ho hd (by obtain ⟨l⟩:=es; simpa using hr.exact) ?_)))))
 obtain ⟨v,hv,rfl⟩:=hr.find_some hf
 have hq:findBy (fun k v=>v.isStr k) es k=some (.ref f):=by
  rw [<- hv]
  obtain ⟨l⟩:=es
  simp [findBy]
 rw [findBy_of_findIdx?] at hq
 cases hi:es.findIdx? fun e=>e.key.isStr k with
 | none=>rw [hi] at hq; cases hq
 | some i =>
  rw [hi] at hq
  have hq':(es[i]?).map (·.val)=some (.ref f):=hq
  refine aaa (wpAny_dictEntries (s:={ s with toks:=s.toks+1 }) ho hd (aag ?_))
  rw [hq']
  exact aag ⟨_,rfl,aag h⟩
end
section
variable {X:Cx}
noncomputable def tFn (D:List (Str×Addr)) (tk:TE):TE:=fun σ H Q=>tk σ H fun y H1=>∃ k f,y=.str k/\datumAt k D=some f/\Q (.ref f) H1
theorem sw {tb:Str} {dd:Addr} {D:List (Str×Addr)} {ke:Expr} {tk:TE} {p1 pos:Pos} (hg:Gl X tb) (hm:X.mg tb=some (.ref dd)) (hT:∀ h,X.K.In h->FnTab h dd D) (hk:PE X ke tk) (hs:NoSl ke) (hdb:autoParam ((tb==("__debug__" : Str))=false) Z1._auto_1) :
  PE X (.Subscript (.Name tb p1) ke pos) (tFn D tk):=by
 intro pins s σ H Q I h
 refine t8 PySem.F.slot_dict_getitem.lookup hs (kK I hg hm (thn (hk pins s σ H _ I h) fun iv s2 ⟨y,H2,I2,ry,k,f,ey,hf,q⟩=>?_) hdb)
 subst ey
 obtain ⟨t,rfl⟩:=ry
 have T:=hT _ I2.kIn
 exact ⟨T.typeIs,u9 T hf ⟨.ref f,H2,I2.tok _,rfl,q⟩⟩
structure DEnt (P:aaq) (w:World) (K:aad) (mg:Str->Option Value) (base:Heap) (k:Nat) (f:Addr) (sp:Sp):Prop where
 ex:∃ fd ps,FnOk P w K mg base CX0 k f fd ps sp/\abv K (.ref f)=true/\Binds K fd ps []
noncomputable def tCallL (i:Nat) (E:XK) (sps:List (Addr×Sp)) (t:TA):TE:=fun σ H Q=>∃ f sp,(f,sp)∈sps/\σ[i]?=some (some (.ref f))/\t σ H fun vs H1=>sp vs H1 Q E
theorem sy {E:XK} {i k:Nat} {x:Str} {e:Expr} {es:List Expr} {t:TA} {p pos:Pos} {sps:List (Addr×Sp)} (hS:∀ q∈sps,DEnt X.prog X.w X.K X.mg X.base k q.1 q.2) (hr:Room k X.A) (hx:Passes CX0 X E) (ho:PE X (.Name x p) (tVar i)) (ha:PA X (e::es) t)
  (he:autoParam (aan (e::es) X.env=(false,eval e X.env)::aan es X.env) Z2._auto_1) (hpl:autoParam ((backTo pos (aan es X.env)).any (·.1)=false) Z2._auto_1):PE X (.Call (.Name x p) (e::es) [] pos) (tCallL i E sps t):=by
 intro pins s σ H Q I h
 obtain ⟨f,sp,hm,hσ,q⟩:=h
 obtain ⟨fd,ps,F,hk,hb⟩:=(hS _ hm).ex
 refine acB (thn (ho pins s σ H (fun v H1=>v=.ref f/\t σ H1 fun vs H2=>sp vs H2 Q E) I ⟨.ref f,hσ,rfl,q⟩) fun v s1 ⟨y,H1,I1,ry,ey,q1⟩=>?_)
 subst ey
 obtain rfl:v=aaH f:=ry
 refine PySem.W.callWith_K (h₀:=X.base) I1.ok.mod.kin hk (thn (ha pos pins s1 σ H1 _ I1 q1) fun us s2 ⟨vs,H2,I2,r,q2⟩=>⟨I2.kIn,?_⟩) he hpl
 exact qp F hr hb .nil hx I2 r (by rw [aby]; exact q2)
end
end L2
namespace Q
open PySem L2 PyProof.Rows PyProof.Rows.KTD
theorem Sok.setN {M:Md} {Z:Zn} {F H:Hp} {σ:L2.St} {env:En} {i:Nat} {v:Option V} (K:Sok M Z F σ H env) (h:env[i]?=some none):Sok M Z F (σ.set i v) H env:=by
 obtain ⟨fp,L⟩:=K.sl
 have ne:∀ j s,env[j]?=some (some s)->j≠i:=fun j s e z=>by rw [z,h] at e; cases e
 refine ⟨K.sF,K.sG,K.pr,K.gr,K.nw,by rw [acF]; exact K.len,fp,fun j s e=>?_,L.al,L.dj,fun j a s e1 e2 e3=>?_⟩
 ·obtain ⟨v',h1,h2⟩:=L.at' j s e
  exact ⟨v',by rw [aap (abr (ne j s e))]; exact h1,h2⟩
 ·rw [aap (abr (ne j s e2))]; exact L.oa j a s e1 e2 e3
noncomputable def sDisp (i:Nat) (T:List (Str×Fd)) (fk:WE) (fa:WA):WS:=fun P env=>fk env fun x e=>match x with
 | .str k=>∃ D,datumAt k T=some D/\e[i]?=some none/\fa e fun xs e2=>D xs fun r=>P.rt r e2
 | _=>False
theorem gW {α β:Type} (g:α->β) (k:Str):∀ (T:List (Str×α)),datumAt k (T.map fun q=>(q.1,g q.2))=(datumAt k T).map g
 | []=>rfl
 | (x,d)::T=>by
  show (if decide (k=x)=true then some (g d) else datumAt k (T.map fun q=>(q.1,g q.2)))=aez g (if decide (k=x)=true then some d else datumAt k T)
  split
  ·rfl
  ·exact gW g k T
theorem lJ {α:Type} {k:Str} {d:α}:∀ {T:List (Str×α)},datumAt k T=some d->∃ x,(x,d)∈T
 | (x,d')::T,h=>by
  have h':(if decide (k=x)=true then some d' else datumAt k T)=some d:=h
  split at h'
  ·cases h'; exact ⟨x,aat⟩
  ·obtain ⟨y,hy⟩:=lJ h'; exact ⟨y,aav _ hy⟩
section
variable {ob:ObK} {X:Cx} {e ke:Expr} {es:List Expr} {fk:WE} {fa:WA} {x y tb:Str} {p p1 p2 p3 py pos pos1 pos2 pos3:Pos}
theorem sY (i:Nat) {k n:Nat} {dd:Addr} {T:List (Str×Addr×Fd)} (hN:X.N.Nodup) (hy:X.N[i]?=some y) (hl:Loc X.env.scope y) (hg:Gl X tb) (hm:X.mg tb=some (.ref dd)) (hT:∀ h,X.K.In h->FnTab h dd (T.map fun q=>(q.1,q.2.1)))
  (hS:∀ q∈T,DEnt X.prog X.w X.K X.mg X.base k q.2.1 (spQ (md ob X) n q.2.2)) (hr:Room k X.A) (hk:EvS ob X ke fk) (hns:NoSl ke) (ho:PE X (.Name y p2) (tVar i)) (ha:EvA ob X (e::es) fa) (hn:autoParam (es.length+1=n) Z2._auto_1)
  (he:autoParam (aan (e::es) X.env=(false,eval e X.env)::aan es X.env) Z2._auto_1) (hpl:autoParam ((backTo pos3 (aan es X.env)).any (·.1)=false) Z2._auto_1) (hdb:autoParam ((tb==("__debug__" : Str))=false) Z1._auto_1)
  (hs:autoParam (acp (.Subscript (.Name tb p1) ke pos) (some (.Name y py)) pos1.line X.env=pure false) Z2._auto_1) (hf:autoParam (X.fn y=true\/X.env.scope.names.lookup y=some .local) Z0._auto_1) :
  EvXs ob X [.Assign [.Name y py] (.Subscript (.Name tb p1) ke pos) pos1,.Return (some (.Call (.Name y p2) (e::es) [] pos3)) pos2] (sDisp i (T.map fun q=>(q.1,q.2.2)) fk fa):=by
 obtain ⟨t1,h1,k1⟩:=hk.ex
 obtain ⟨t2,h2,k2⟩:=ha.ex
 have hS':∀ q∈T.map (fun q=>(q.2.1,spQ (md ob X) n q.2.2)),DEnt X.prog X.w X.K X.mg X.base k q.1 q.2:=fun q hq=>by
  obtain ⟨z,hz,rfl⟩:=List.mem_map.mp hq
  exact hS z hz
 refine ⟨_,bQ (dZ hN hy hl (sw hg hm hT h1 hns hdb) hs hf) (da (gH (sy (E:=E0) hS' hr pass0 ho h2 he hpl))),fun Z F σ H env P D K hf L=>?_⟩
 refine k1 Z F σ H env _ _ K hf fun v e1 u F1 H1 pv s1 K1 r1=>?_
 split at pv
 ·rename_i kk
  obtain ⟨Df,hd,hi,pv⟩:=pv
  rw [gW] at hd
  cases hz:datumAt kk T with
  | none=>rw [hz] at hd; cases hd
  | some z =>
   rw [hz] at hd
   have ez:z.2=Df:=aar hd
   subst ez
   cases r1
   obtain ⟨x',hx'⟩:=lJ hz
   refine ⟨kk,z.1,rfl,by rw [gW,hz]; rfl,?_⟩
   have K2:Sok (md ob X) Z F1 (σ.set i (some (.ref z.1))) H1 e1:=K1.setN hi
   have hlt:i<σ.length:=by
    have:=K1.len
    rcases aaO i e1.length with q | q
    ·omega
    ·rw [aam q] at hi; cases hi
   refine ⟨z.1,_,List.mem_map.mpr ⟨(x',z),hx',rfl⟩,by rw [aa2 hlt],k2 Z F1 _ H1 e1 _ _ K2 pv fun xs e2 vs F2 H2 p2 hl2 s2 K3 r2=>?_⟩
   refine ⟨F2,xs,fun r=>P.rt r e2,K3.sF,r2,by rw [hl2]; exact hn,p2,fun r v F' H' pr sH sF sFH nw rv=>?_⟩
   exact L.rt r e2 v _ F' H' pr (ai s1 (ai s2 sF)) (K3.move sF sFH sH nw) rv
 ·exact pv.elim
end
end Q
namespace L2
open PySem PySem.Spec PyProof.Rows
section
variable {X:Cx}
noncomputable def ui (K:aad):List V->Hp->VK->Prop:=fun xs H Q=>∃ p vs nm,xs=[.ref p]/\SqT K H p vs/\vs.length<64/\Rows K H vs nm /\
 ∀ l (ix:List Nat),H l=none->ix.length=vs.length->ix.Nodup->(∀ i∈ix,i<vs.length)->(ix.map fun i=>nm.getD i ⟨#[]⟩).Pairwise ltS->Q (.ref l) (upd H l (.lst (ix.map fun i=>vs.getD i .non)))
theorem oz:CallR X (.builtin "sorted") (ui X.K):=by
 intro pins s σ H xs us Q I r h
 obtain ⟨p,vs,nm,rfl,hq,h64,R,k⟩:=h
 obtain ⟨u,rfl,ru⟩:=r.one
 cases ru
 obtain ⟨its,rv,⟨o,g1,g2,n0,g3⟩,hz⟩:=I.tuple hq
 have hl:=rv.length
 exact lp (vs:=its) (fun R' g=>aep p (.inr rfl) g1 g2 g3 (fun h1 kk=>g h1 s.toks kk) (by rw [aaf,aaA]; omega)) fun h1 tk kk=>mz (I.kept kk) rv (by rw [aaA]; omega) h64 R k
end
end L2
namespace Q
open PySem L2 PyProof.Rows
noncomputable def kW (fa:WA):WE:=fun env P=>fa env fun xs e=>match xs with
 | [.tup ys]=>∃ nm:List Str,ys.mapM fstS=some nm/\nm.Nodup/\ys.length<64/\∀ ix:List Nat,ix.length=ys.length->(∀ i∈ix,i<ys.length)->(ix.map fun i=>nm.getD i ⟨#[]⟩).Pairwise ltS->P (.lst (ix.map fun i=>ys.getD i .non)) e
 | _=>False
section
variable {ob:ObK} {X:Cx} {e ke:Expr} {es:List Expr} {fa:WA} {fk:WE} {x:Str} {pos p p1 apos cpos pos2:Pos}
theorem rm (hg:Gl X "sorted") (hm:X.mg "sorted" = none) (ha:EvAW ob X (e::es) fa)
  (he:autoParam (aan (e::es) X.env=(false,eval e X.env)::aan es X.env) Z2._auto_1) (hpl:autoParam ((backTo pos (aan es X.env)).any (·.1)=false) Z2._auto_1):EvF ob X (.Call (.Name "sorted" p) (e::es) [] pos) (kW fa):=by
 obtain ⟨t,ht,k⟩:=ha.ex
 refine ⟨_,bC oz hg hm adx ht (by decide) (by decide) he hpl,fun Z F σ H env P Q K hf kk=>k Z F σ H env _ _ K hf fun xs e1 vs F1 H1 p s1 K1 r1=>?_⟩
 split at p
 ·obtain ⟨nm,hs,nd,hl,p⟩:=p
  obtain ⟨v,rfl,r⟩:=r1.one
  obtain ⟨q,vs,rfl,h1,h2⟩:=r.tup K1.sF
  have g1:=(bA hs).1
  have hlen:=h2.len
  refine ⟨q,vs,nm,rfl,h1,by omega,⟨by omega,fun i v x hv hx=>?_,nd⟩,fun l ix hn i1 i2 i3 i4=>?_⟩
  ·obtain ⟨y,hy,ry⟩:=h2.getV hv
   obtain ⟨y',e1,e2⟩:=ng hs i x hx
   rw [hy] at e1; cases e1
   exact oX K1.sF ry e2
  ·exact kk _ e1 _ F1 _ (p ix (by omega) (fun i hi=>by have:=i3 i hi; omega) i4) s1 (fun _=>by simp) (K1.own hn ⟨_,ao,gD h2 ix fun i hi=>by have:=i3 i hi; omega⟩)
 ·exact p.elim
end
end Q
namespace Q
open PySem L2 PyProof.Rows
noncomputable abbrev FdOT:=PV->PV->List PV->(PV->PV->PV->Prop)->Prop
noncomputable def hidO (n:Nat) (c d:PV) (xs:List PV):En:=some ⟨2,c⟩::(startE (n - 1) xs++[some ⟨2,d⟩])
noncomputable def obB (n:Nat) (P:PV->PV->Prop) (e:En):Prop:=match e[(0:Nat)]? with
 | some (some ⟨2,c⟩)=>(match e[n]? with
  | some (some ⟨2,d⟩)=>P c d
  | _=>False)
 | _=>False
noncomputable def endOT (n:Nat) (P:PV->PV->PV->Prop):Wd:={ nx:=fun e=>obB n (P .non) e,rt:=fun x e=>obB n (P x) e }
noncomputable def runOT (n:Nat) (u:WS):FdOT:=fun c d xs P=>u (endOT n P) (hidO n c d xs)
noncomputable def spOT (M:Md) (n:Nat) (D:FdOT):Sp:=fun vs H Q _=>∃ (F:Hp) (a b:Addr) (l m:List Addr) (c d:PV) (ws:List V) (xs:List PV) (P:PV->PV->PV->Prop),vs=.ref a::ws/\Same F H/\Reps M.K F ws xs/\xs.length+1=n /\
 M.ob.P F H a l c/\(∀ x∈l,H x≠none/\F x=none)/\M.ob.P F H b m d/\(∀ x∈m,H x≠none/\F x=none)/\(∀ x∈l,x∉m)/\D c d xs P /\
 ∀ r c' d' v F' H' l' m',P r c' d'->(∀ x o,H x=some o->x∉l->x∉m->H' x=some o)->(∀ x,H x≠none->H' x≠none)->Same F F'->Same F' H'->(∀ x,F' x≠none->F x≠none\/H x=none) ->
  M.ob.P F' H' a l' c'->(∀ x∈l',H' x≠none/\F' x=none)->(∀ x∈l',(x∈l\/x∈m)\/H x=none)->M.ob.P F' H' b m' d'->(∀ x∈m',H' x≠none/\F' x=none)->(∀ x∈m',(x∈l\/x∈m)\/H x=none)->(∀ x∈l',x∉m')->Rep M.K F' v r->Q v H'
theorem nN {M:Md} {F H:Hp} {N:List Str} {ws:List V} {xs:List PV} {a b:Addr} {l m:List Addr} {c d:PV} {n:Nat} (sF:Same F H) (r:Reps M.K F ws xs) (hN:N.length=n+1) (hl:xs.length+1<=n) (ho:M.ob.P F H a l c) (hb:∀ x∈l,H x≠none/\F x=none) (ho2:M.ob.P F H b m d) (hb2:∀ x∈m,H x≠none/\F x=none) (dj:∀ x∈l,x∉m)
  (hS:∀ x∈l++m,H x≠none) :
  Sok M ⟨H,F,l++m,fun i=>if i=0 then some a else if i=n then some b else none,hS⟩ F ((start N (.ref a::ws)).set n (some (.ref b))) H (hidO n c d xs):=by
 have hl':ws.length+1<=n:=by rw [r.len]; exact hl
 have hs:(start N (.ref a::ws)).length=n+1:=by rw [eO (by rw [abj]; omega),hN]
 have he:(startE (n - 1) xs).length=n - 1:=dH (by omega)
 refine ⟨sF,fun b o h _=>h,fun b h=>h,am,fun a h=>.inl h,?_,fun i=>if i=0 then l else if i=n then m else [],fun i s h=>?_,fun i x h=>?_,fun i j x hij h z=>?_,fun i x s h h2 _=>?_⟩
 ·unfold hidO
  rw [abj,aau,he,acF,hs]; simp; omega
 ·cases i with
  | zero =>
   have h:s=⟨2,c⟩:=by simpa [hidO] using h.symm
   subst h
   refine ⟨.ref a,?_,.inr (.inr (.inl ⟨.inl rfl,a,rfl,fun c hc=>.inl (adW _ (by rwa [if_pos rfl] at hc)),by rw [if_pos rfl]; exact ho⟩))⟩
   rw [aap (by omega)]
   exact bJ rfl
  | succ i =>
   have h:(startE (n - 1) xs++[some ⟨2,d⟩])[i]?=some (some s):=by simpa [hidO] using h
   rcases Nat.lt_trichotomy (i+1) n with z | z | z
   ·rw [aaw (by omega)] at h
    obtain ⟨x,hx,rfl⟩:=dI h
    obtain ⟨v,hv,rv⟩:=r.get hx
    refine ⟨v,?_,.inl ⟨rfl,by rw [if_neg (by omega),if_neg (by omega)],rv⟩⟩
    rw [aap (by omega)]
    exact bJ (by simpa using hv)
   ·rw [acm (by omega),he,show i - (n - 1)=0 by omega] at h
    have h:s=⟨2,d⟩:=by simpa using h.symm
    subst h z
    refine ⟨.ref b,?_,.inr (.inr (.inl ⟨.inl rfl,b,rfl,fun c hc=>.inl (aaE _ (by rwa [if_neg (by omega),if_pos rfl] at hc)),by rw [if_neg (by omega),if_pos rfl]; exact ho2⟩))⟩
    rw [aa2 (by omega)]
   ·rw [aam (by rw [aau,he]; simp; omega)] at h; cases h
 ·split at h
  ·exact hb x h
  ·split at h
   ·exact hb2 x h
   ·simp at h
 ·by_cases e1:i=0
  ·rw [if_pos e1] at h
   rw [if_neg (by omega)] at z
   split at z
   ·exact dj x h z
   ·simp at z
  ·rw [if_neg e1] at h
   by_cases e2:i=n
   ·rw [if_pos e2] at h
    by_cases e3:j=0
    ·rw [if_pos e3] at z; exact dj x z h
    ·rw [if_neg e3,if_neg (by omega)] at z; simp at z
   ·rw [if_neg e2] at h; simp at h
 ·dsimp only at h
  split at h
  ·rename_i e; subst e; cases h
   rw [aap (by omega)]; exact bJ rfl
  ·split at h
   ·rename_i e; subst e; cases h
    rw [aa2 (by omega)]
   ·cases h
section
variable {P:aaq} {w:World} {K:aad} {mg:Str->Option Value} {base:Heap} {ob:ObK}
theorem u8 {x qual:Str} {st:Stmt} {f:Addr} {fd:aaT} {N ps:List Str} {k n:Nat} {nm:Str} {u:WS} (F:Fun K x qual st f fd) (S:aB N ps (ar st)) (hN:N.length=n+1) (hn:ps.length<=n) (hnm:N[n]?=some nm) (hv:¬ Vis (ar st) nm)
  (hb:∀ (cdv:Value),fd.code=cdv->∀ (A:Around) (outer:List Env) (s:Shared) (H:Hp) (E:XK),Room k (A.deeper (envOfC qual (ar st) s.heap.objs.size f cdv))->EvXs ob (cxOf CX0 P w K mg base N qual (ar st) f cdv A outer s H E).nox (bz st) u) :
  FnOk P w K mg base CX0 (k+1) f fd ps (spOT ⟨P,w,K,ob⟩ ps.length (runOT n u)):=by
 refine F.okC S (fun vs H Q E h=>?_) (fun cdv hcdv A outer s H vs Q E hr h=>?_)
 ·obtain ⟨F,a,b,l,m,c,d,ws,xs,P,rfl,_,r,hl,_⟩:=h
  rw [abj,r.len]; exact hl
 ·obtain ⟨F,a,b,l,m,c,d,ws,xs,P',rfl,sF,r,hl,ho,hbl,ho2,hbm,dj,hD,kk⟩:=h
  obtain ⟨t,ht,kt⟩:=(hb cdv hcdv A outer s H E hr).ex
  have hS:∀ x∈l++m,H x≠none:=fun x h=>(List.mem_append.mp h).elim (fun q=>(hbl x q).1) fun q=>(hbm x q).1
  have hn0:n≠0:=by omega
  have fin:∀ (x:PV) (env:En) (v:V) (σ:L2.St) (F' H':Hp),obB n (P' x) env->Same F F'->Sok ⟨P,w,K,ob⟩ ⟨H,F,l++m,fun i=>if i=0 then some a else if i=n then some b else none,hS⟩ F' σ H' env->Rep K F' v x->Q v H':=fun x env v σ F' H' p s1 K1 rv=>by
   unfold obB at p
   split at p
   ·rename_i c' e
    split at p
    ·rename_i d' e2
     obtain ⟨fp,L⟩:=K1.sl
     obtain ⟨v0,hv0,ok⟩:=L.at' 0 _ e
     obtain ⟨v1,hv1,ok1⟩:=L.at' n _ e2
     have hσ:=L.oa 0 a _ rfl e rfl
     have hσ2:=L.oa n b _ (by dsimp only; rw [if_neg hn0,if_pos rfl]) e2 rfl
     rw [hσ] at hv0; cases hv0
     rw [hσ2] at hv1; cases hv1
     rcases ok with ⟨k0,_⟩ | ⟨k0,_⟩ | ⟨_,a',e',h1,h2⟩ | ⟨k0,_⟩
     ·cases k0
     ·cases k0
     ·cases e'
      rcases ok1 with ⟨k0,_⟩ | ⟨k0,_⟩ | ⟨_,b',e'',h3,h4⟩ | ⟨k0,_⟩
      ·cases k0
      ·cases k0
      ·cases e''
       exact kk x _ _ v F' H' (fp 0) (fp n) p (fun b o h1 h2 h3=>K1.sG b o h1 fun z=>(List.mem_append.mp z).elim h2 h3) (fun b h=>K1.pr b h) s1 K1.sF K1.nw h2 (fun b hb=>L.al 0 b hb) (fun b hb=>(h1 b hb).imp List.mem_append.mp id) h4 (fun b hb=>L.al n b hb) (fun b hb=>(h3 b hb).imp List.mem_append.mp id) (fun y hy=>L.dj 0 n y (abr hn0) hy) rv
      ·cases k0
     ·cases k0
    ·exact p.elim
   ·exact p.elim
  refine ⟨fun D σ H=>t D (σ.set n (some (.ref b))) H,fun pins s' σ H' D I q=>ht pins s' _ H' D (I.hide hnm hv) q,kt ⟨H,F,l++m,fun i=>if i=0 then some a else if i=n then some b else none,hS⟩ F ((start N (.ref a::ws)).set n (some (.ref b))) H (hidO n c d xs) (endOT n P') _ (nN (M:=⟨P,w,K,ob⟩) sF r hN (by omega) ho hbl ho2 hbm dj hS) hD ⟨fun env σ F' H' p s1 K1=>?_,fun x env v σ F' H' p s1 K1 rv=>?_,fun _ _ _ _ p=>p.elim,fun _ _ _ _ p=>p.elim,fun _ _ _ _ _ _ p=>p.elim,fun _ _ _ _ _ _ _ p=>p.elim⟩⟩
  ·exact fin .non env .non σ F' H' p s1 K1 .non
  ·exact fin x env v σ F' H' p s1 K1 rv
theorem sX {k n:Nat} {fad:Addr} {fd:aaT} {ps:List Str} {D D':FdOT} (F:FnOk P w K mg base CX0 k fad fd ps (spOT ⟨P,w,K,ob⟩ n D)) (h:∀ c d xs P,D' c d xs P->D c d xs P):FnOk P w K mg base CX0 k fad fd ps (spOT ⟨P,w,K,ob⟩ n D') :=
 F.imp fun vs H Q E q=>by
  obtain ⟨F,a,b,l,m,c,d,ws,xs,P,a1,a2,a3,a4,a5,a6,a7,a8,a9,a10,a11⟩:=q
  exact ⟨F,a,b,l,m,c,d,ws,xs,P,a1,a2,a3,a4,a5,a6,a7,a8,a9,h _ _ _ _ a10,a11⟩
end
theorem Sok.objS2 {M:Md} {Z:Zn} {F F' H H':Hp} {σ:L2.St} {env:En} {fp:Nat->List Addr} {i j k1 k2:Nat} {a b:Addr} {c c' d d':PV} {l' m':List Addr} (hij:i≠j) (hk1:k1=2\/k1=4) (hk2:k2=2\/k2=4) (K:Sok M Z F σ H env) (L:Slots M Z F σ H env fp)
  (hi:env[i]?=some (some ⟨k1,c⟩)) (hj:env[j]?=some (some ⟨k2,d⟩)) (hv:σ[i]?=some (some (.ref a))) (hw:σ[j]?=some (some (.ref b)))
  (kp:∀ x o,H x=some o->x∉fp i->x∉fp j->H' x=some o) (pr:∀ b,H b≠none->H' b≠none) (sF:Same F F') (sFH:Same F' H') (nw:∀ a,F' a≠none->F a≠none\/H a=none)
  (ho:M.ob.P F' H' a l' c') (hl:∀ b∈l',H' b≠none/\F' b=none) (hn:∀ b∈l',(b∈fp i\/b∈fp j)\/H b=none)
  (ho2:M.ob.P F' H' b m' d') (hl2:∀ b∈m',H' b≠none/\F' b=none) (hn2:∀ b∈m',(b∈fp i\/b∈fp j)\/H b=none) (dj:∀ x∈l',x∉m') :
  Sok M Z F' σ H' ((env.set i (some ⟨k1,c'⟩)).set j (some ⟨k2,d'⟩)):=by
 obtain ⟨v0,hv0,ok0⟩:=L.at' i _ hi
 obtain ⟨v1,hv1,ok1⟩:=L.at' j _ hj
 have wr:=ok0.wr
 have wr1:=ok1.wr
 have w2:∀ b,(b∈fp i\/b∈fp j)\/H b=none->b∈Z.S\/Z.H₀ b=none:=fun b hb=>by
  rcases hb with (q | q) | q
  ·exact wr b q
  ·exact wr1 b q
  ·exact .inr (K.h0 q)
 have lt:∀ {q:Nat} {s:Sl},env[q]?=some (some s)->q<env.length:=fun {q s} h=>by
  rcases aaO q env.length with z | z
  ·exact z
  ·rw [aam z] at h; cases h
 have hlt:=lt hi
 have hlt2:=lt hj
 have off:∀ q,q≠i->q≠j->((env.set i (some ⟨k1,c'⟩)).set j (some ⟨k2,d'⟩))[q]?=env[q]?:=fun q h1 h2=>by
  rw [aap (abr h2),aap (abr h1)]
 have ati:((env.set i (some ⟨k1,c'⟩)).set j (some ⟨k2,d'⟩))[i]?=some (some ⟨k1,c'⟩):=by
  rw [aap (abr hij),aa2 hlt]
 have atj:((env.set i (some ⟨k1,c'⟩)).set j (some ⟨k2,d'⟩))[j]?=some (some ⟨k2,d'⟩):=by
  rw [aa2 (by rw [acF]; exact hlt2)]
 have mix:∀ q b,q≠i->q≠j->(b∈fp i\/b∈fp j)\/H b=none->b∈fp q->False:=fun q b h1 h2 hb hq=>by
  rcases hb with (z | z) | z
  ·exact L.dj q i b h1 hq z
  ·exact L.dj q j b h2 hq z
  ·exact (L.al q b hq).1 z
 refine ⟨sFH,fun b o h1 h2=>kp b o (K.sG b o h1 h2) (fun z=>?_) (fun z=>?_),fun b h=>pr b (K.pr b h),ai K.gr sF,fun a h=>(nw a h).elim (K.nw a) fun q=>.inr (K.h0 q),by simp [K.len],fun q=>if q=i then l' else if q=j then m' else fp q,fun q s e=>?_,fun q x h=>?_,fun q q2 x hqq h z=>?_,fun q x s e1 e2 e3=>?_⟩
 ·exact (wr b z).elim h2 fun q=>by rw [q] at h1; cases h1
 ·exact (wr1 b z).elim h2 fun q=>by rw [q] at h1; cases h1
 ·by_cases q1:q=i
  ·subst q1
   rw [ati] at e; cases e
   exact ⟨_,hv,by rw [if_pos rfl]; exact .inr (.inr (.inl ⟨hk1,a,rfl,fun x hx=>w2 x (hn x hx),ho⟩))⟩
  ·by_cases q2:q=j
   ·subst q2
    rw [atj] at e; cases e
    exact ⟨_,hw,by rw [if_neg q1,if_pos rfl]; exact .inr (.inr (.inl ⟨hk2,b,rfl,fun x hx=>w2 x (hn2 x hx),ho2⟩))⟩
   ·rw [off q q1 q2] at e
    obtain ⟨v,h1,h2⟩:=L.at' q s e
    have h3:=h2.mono (H':=H') sF fun c hc=>by
     obtain ⟨o,ho⟩:=cO (L.al q c hc).1
     rw [ho]
     exact kp c o ho (L.dj q i c q1 hc) (L.dj q j c q2 hc)
    exact ⟨v,h1,by rw [if_neg q1,if_neg q2]; exact h3⟩
 ·by_cases q1:q=i
  ·rw [if_pos q1] at h; exact hl x h
  ·rw [if_neg q1] at h
   by_cases q2:q=j
   ·rw [if_pos q2] at h; exact hl2 x h
   ·rw [if_neg q2] at h
    have:=L.al q x h
    refine ⟨pr x this.1,?_⟩
    cases e:F' x with
    | none=>rfl
    | some o =>
     rcases nw x (by rw [e]; simp) with y | y
     ·exact absurd this.2 y
     ·exact absurd y this.1
 ·by_cases q1:q=i
  ·rw [if_pos q1] at h
   rw [if_neg (by omega)] at z
   by_cases q3:q2=j
   ·rw [if_pos q3] at z; exact dj x h z
   ·rw [if_neg q3] at z; exact mix q2 x (by omega) q3 (hn x h) z
  ·rw [if_neg q1] at h
   by_cases q4:q=j
   ·rw [if_pos q4] at h
    by_cases q5:q2=i
    ·rw [if_pos q5] at z; exact dj x z h
    ·rw [if_neg q5,if_neg (by omega)] at z; exact mix q2 x q5 (by omega) (hn2 x h) z
   ·rw [if_neg q4] at h
    by_cases q5:q2=i
    ·rw [if_pos q5] at z; exact mix q x q1 q4 (hn x z) h
    ·rw [if_neg q5] at z
     by_cases q6:q2=j
     ·rw [if_pos q6] at z; exact mix q x q1 q4 (hn2 x z) h
     ·rw [if_neg q6] at z; exact L.dj q q2 x hqq h z
 ·by_cases q1:q=i
  ·subst q1
   rw [ati] at e2; cases e2
   exact L.oa q x _ e1 hi e3
  ·by_cases q2:q=j
   ·subst q2
    rw [atj] at e2; cases e2
    exact L.oa q x _ e1 hj e3
   ·rw [off q q1 q2] at e2
    exact L.oa q x s e1 e2 e3
noncomputable def kX (D:FdOT) (i j:Nat) (fa:WA):WE:=fun env P=>(env[i]?).join.isSome=true/\fa env fun xs e=>i≠j/\∃ k1 k2 c d,(k1=2\/k1=4)/\(k2=2\/k2=4)/\e[i]?=some (some ⟨k1,c⟩)/\e[j]?=some (some ⟨k2,d⟩)/\D c d xs fun r c' d'=>P r ((e.set i (some ⟨k1,c'⟩)).set j (some ⟨k2,d'⟩))
section
variable {ob:ObK} {X:Cx} {k:Nat} {fad:Addr} {fd:aaT} {ps:List Str} {DO:FdOT} {x:Str} {p p1 pos:Pos} {e:Expr} {es:List Expr} {fa:WA}
theorem rq (i j:Nat) {y:Str} {n:Nat} (F:FnOk X.prog X.w X.K X.mg X.base CX0 k fad fd ps (spOT (md ob X) n DO)) (hr:Room k X.A) (hm:X.mg x=some (.ref fad)) (hk:abv X.K (.ref fad)=true) (hb:Binds X.K fd ps []) (ho:PE X (.Name y p1) (tVar i)) (ha:EvA ob X es fa) (hn:autoParam (es.length+1=n) Z2._auto_1) (hg:autoParam (Gl X x) Z2._auto_1)
  (hdb:autoParam ((x==("__debug__" : Str))=false) Z1._auto_1) (he:autoParam (aan (.Name y p1::es) X.env=(false,eval (.Name y p1) X.env)::aan es X.env) Z2._auto_1) (hpl:autoParam ((backTo pos (aan es X.env)).any (·.1)=false) Z2._auto_1) :
  EvS ob X (.Call (.Name x p) (.Name y p1::es) [] pos) (kX DO i j fa):=by
 obtain ⟨t,ht,kt⟩:=ha.ex
 refine ⟨_,fB (E:=E0) F hr hg hm hk hb .nil pass0 (bb ho ht he) hdb he hpl,fun Z F σ H env P Q K hf kk=>?_⟩
 obtain ⟨h0,hf⟩:=hf
 obtain ⟨w,hw⟩:∃ v,σ[i]?=some (some v):=by
  cases e:env[i]? with
  | none=>rw [e] at h0; cases h0
  | some w =>
   cases w with
   | none=>rw [e] at h0; cases h0
   | some s =>
    obtain ⟨fp,L⟩:=K.sl
    obtain ⟨v,hv,_⟩:=L.at' i s e
    exact ⟨v,hv⟩
 refine ⟨w,hw,kt Z F σ H env _ _ K hf fun xs e1 vs F1 H1 p hl s1 K1 r1=>?_⟩
 show spOT (md ob X) n DO ((w::vs)++[]) H1 Q E0
 rw [aby]
 obtain ⟨hij,k1,k2,c,d,hk1,hk2,ei,ej,p⟩:=p
 obtain ⟨fp,L⟩:=K1.sl
 obtain ⟨v0,hv0,ok⟩:=L.at' i _ ei
 obtain ⟨v1,hv1,ok1⟩:=L.at' j _ ej
 rw [hw] at hv0; cases hv0
 rcases ok with ⟨k0,_⟩ | ⟨k0,_⟩ | ⟨_,a,rfl,_,ho⟩ | ⟨k0,_⟩
 ·rcases hk1 with rfl | rfl <;> cases k0
 ·rcases hk1 with rfl | rfl <;> cases k0
 ·rcases ok1 with ⟨k0,_⟩ | ⟨k0,_⟩ | ⟨_,b,rfl,_,ho2⟩ | ⟨k0,_⟩
  ·rcases hk2 with rfl | rfl <;> cases k0
  ·rcases hk2 with rfl | rfl <;> cases k0
  ·refine ⟨F1,a,b,fp i,fp j,c,d,vs,xs,_,rfl,K1.sF,r1,by rw [hl]; exact hn,ho,fun b hb=>L.al i b hb,ho2,fun b hb=>L.al j b hb,fun x hx=>L.dj i j x hij hx,p,fun r c' d' v F' H' l' m' pr kp pre sF sFH nw ho' hl' hn' ho2' hl2 hn2 dj rv=>?_⟩
   exact kk r _ v F' H' pr (ai s1 sF) (K1.objS2 hij hk1 hk2 L ei ej hw hv1 kp pre sF sFH nw ho' hl' hn' ho2' hl2 hn2 dj) rv
  ·rcases hk2 with rfl | rfl <;> cases k0
 ·rcases hk1 with rfl | rfl <;> cases k0
end
end Q
namespace L2
open PySem PySem.Spec PyProof.Rows
theorem sn (its:List Value):slicePick its.toArray none none (some (-1))=its.reverse.toArray:=by
 unfold slicePick
 have e1:acv none none (some (-1)) its.toArray.size=((its.length:Int) - 1,-1,-1):=by
  unfold acv; simp
 rw [e1]
 unfold sliceRange
 have e2:((if (-1:Int) > 0 then (if ((its.length:Int) - 1) < -1 then (-1 - ((its.length:Int) - 1) + -1 - 1) / -1 else 0) else (if ((its.length:Int) - 1) > -1 then (((its.length:Int) - 1) - -1 - -1 - 1) / (- -1) else 0)):Int).toNat=its.length:=by
  rw [if_neg (by omega)]
  by_cases h:((its.length:Int) - 1) > -1
  ·rw [if_pos h,show (- (-1:Int))=1 by rfl,Int.ediv_one]; omega
  ·rw [if_neg h]; omega
 dsimp only
 rw [e2]
 congr 1
 rw [aen]
 have:=ls its
 rw [<- this]
 congr 1
 funext k
 show its.toArray[((its.length:Int) - 1 + -1*(k:Int)).toNat]?=_
 rw [Int.mul_comm (-1) (k:Int)]
 simp
section
variable {X:Cx} {e st:Expr} {te tst:TE} {pos p2:Pos}
noncomputable def tRevL (K:aad) (te tst:TE):TE:=fun σ H Q=>te σ H fun x H1=>tst σ H1 fun y H2=>y=.int (-1)/\∃ a xs,x=.ref a/\SqL K H2 a xs/\∀ p,H2 p=none->Q (.ref p) (upd H2 p (.lst xs.reverse))
theorem ul (he:PE X e te) (hst:PE X st tst):PE X (.Subscript e (.Slice none none (some st) p2) pos) (tRevL X.K te tst):=by
 intro pins s σ H Q I h
 refine adT (thn (he pins s σ H _ I h) fun v s1 ⟨x,H1,I1,r1,q1⟩=>?_)
 refine wpAny_Slice ?_
 rw [aef,evalPart_some]
 refine aag (aag (thn (hst pins s1 σ H1 _ I1 q1) fun vs s2 ⟨y,H2,I2,r2,q2⟩=>?_))
 obtain ⟨rfl,a,xs,rfl,hx,q⟩:=q2
 obtain ⟨tk,rfl⟩:=r2
 cases r1
 have I3:Inv X pins σ H2 { s2 with heap:=s2.heap.push { cls:=.type "slice",data:=.fields #[.none,.none,.int (-1) tk] } }:=I2.kept (t':=s2.toks) fun b ob q=>aac _ q
 obtain ⟨its,r,ht,hz⟩:=I3.list hx
 have hlen:=r.length
 show wpAny (model X.prog X.w) X.A (adt e (.Slice none none (some st) p2) (.ref a) (.ref s2.heap.objs.size)) (EP X pins σ Q) X.xe { s2 with heap:=s2.heap.push { cls:=.type "slice",data:=.fields #[.none,.none,.int (-1) tk] } }
 refine aeS (ops:=[.ref a,.ref s2.heap.objs.size]) ht.isList.typeIs slot_list_getitem.lookup (wpAny_getItem_list_slice ht.isList (aeo ..) .none .none (.int (-1) tk) (by simp) ?_ (by rw [aaf] <;> omega)) (by with_unfolding_all rfl)
 rw [sn]
 refine ⟨.ref _,_,I3.laid (t':=s2.toks) (o:=.lst xs.reverse) (fun b ob q=>aac _ q) (aaj _) ?_,rfl,q _ (I3.hok.fresh (aaj _))⟩
 exact ⟨by rw [ad7]; exact hz,_,0,r.reverse,aai _ rfl⟩
end
end L2
namespace Q
open PySem L2 PyProof.Rows
section
variable {ob:ObK} {X:Cx} {e:Expr} {f:WE} {pos:Pos}
noncomputable def revLP:PV->Option PV
 | .lst xs=>some (.lst xs.reverse)
 | _=>none
theorem vc {st:Expr} {p2:Pos} (he:EvS ob X e f) (hst:PE X st (tUn (rU fun i=>.int (-i)) (tC (.int 1)))):EvS ob X (.Subscript e (.Slice none none (some st) p2) pos) (eUn revLP f):=by
 obtain ⟨t,ht,k⟩:=he.ex
 refine ⟨_,ul ht hst,fun Z F σ H env P Q K hf kk=>k Z F σ H env _ _ K hf fun x e1 v F1 H1 p s1 K1 r1=>?_⟩
 obtain ⟨z,hz,p⟩:=p
 refine ⟨1,rfl,rfl,?_⟩
 unfold revLP at hz
 split at hz
 ·cases hz
  obtain ⟨q,vs,rfl,h1,h2⟩:=(r1.vw (M:=md ob X) (H:=H1)).lst K1.sF
  refine ⟨q,vs,rfl,.inl (.inl h1),fun l hl=>?_⟩
  have hF:F1 l=none:=Same.none_of K1.sF hl
  exact kk _ e1 _ _ _ p (ai s1 (az hF)) (K1.lay hl) (.lst ao (h2.rev.mono (az hF)))
 ·cases hz
end
end Q
namespace Pre
open PySem L2
noncomputable def top (i:Nat):Stmt:=PySem.Challenge.pw_cheaptree_k37_whole_there_and_back.main.body.getD i (.Pass ⟨0,0,0,0⟩)
noncomputable abbrev j9:Stmt:=top 8
noncomputable abbrev iR:Stmt:=top 9
noncomputable abbrev kf:Stmt:=top 10
noncomputable abbrev fm:Stmt:=top 11
noncomputable abbrev gz:Stmt:=top 12
noncomputable abbrev sRanks:Stmt:=top 13
noncomputable abbrev cL:Stmt:=top 15
noncomputable abbrev kh:Stmt:=top 16
noncomputable abbrev fo:Stmt:=top 17
noncomputable abbrev dX:Stmt:=top 18
noncomputable abbrev gy:Stmt:=top 19
noncomputable abbrev iQ:Stmt:=top 20
noncomputable abbrev gx:Stmt:=top 21
noncomputable abbrev iT:Stmt:=top 23
noncomputable abbrev dF:Stmt:=top 25
noncomputable abbrev dE:Stmt:=top 26
noncomputable abbrev gB:Stmt:=top 27
noncomputable abbrev iU:Stmt:=top 29
noncomputable abbrev gA:Stmt:=top 30
noncomputable abbrev sBegin:Stmt:=top 32
noncomputable abbrev sNext:Stmt:=top 33
noncomputable abbrev sWords:Stmt:=top 34
noncomputable abbrev sCost:Stmt:=top 35
noncomputable abbrev sEnds:Stmt:=top 36
noncomputable abbrev sNet:Stmt:=top 37
noncomputable abbrev sOf:Stmt:=top 38
noncomputable abbrev sFresh:Stmt:=top 39
noncomputable abbrev j8:Stmt:=top 40
noncomputable abbrev sDeed:Stmt:=top 41
noncomputable abbrev dW:Stmt:=top 42
noncomputable abbrev dY:Stmt:=top 43
noncomputable abbrev sLaw:Stmt:=top 44
structure Named (K:aad) (mg:Str->Option Value) (x:Str) (f:Addr):Prop where
 mg:mg x=some (.ref f)
 kp:abv K (.ref f)=true
structure Df (K:aad) (mg:Str->Option Value) (name:Str) (st:Stmt) (ps:List Str) where
 f:Addr
 fd:aaT
 F:Fun K name name st f fd
 b:Binds K fd ps []
 n:Named K mg name f
structure TabAt (K:aad) (mg:Str->Option Value) (x:Str) (D:List (Str×Addr)) where
 a:Addr
 mg:mg x=some (.ref a)
 tab:∀ h:Heap,K.In h->FnTab h a D
noncomputable abbrev lamL:Nat:=77
noncomputable abbrev lamC:Nat:=29
section
set_option genInjectivity false
set_option genSizeOf false
structure Ev (K:aad) (mg:Str->Option Value) where
 fIsWord:Df K mg "is_word" j9 ["thing"]
 fIsWhole:Df K mg "is_whole" iR ["thing"]
 fIsOpen:Df K mg "is_open" kf ["net", "tie"]
 fTiesByName:Df K mg "ties_by_name" fm ["net"]
 fOpenTies:Df K mg "open_ties" gz ["net"]
 fRanks:Df K mg "ranks" sRanks ["net"]
 fAreEndsAndCost:Df K mg "are_ends_and_cost" cL ["parts"]
 fIsDeed:Df K mg "is_deed" kh ["thing"]
 fPlaceComes:Df K mg "place_comes" fo ["net", "deed"]
 fPlaceLeaves:Df K mg "place_leaves" dX ["net", "deed"]
 fTieComes:Df K mg "tie_comes" gy ["net", "deed"]
 fTieGoes:Df K mg "tie_goes" iQ ["net", "deed"]
 fTieCosts:Df K mg "tie_costs" gx ["net", "deed"]
 fChanged:Df K mg "changed" iT ["net", "deed"]
 fCheaperFirst:Df K mg "cheaper_first" dF ["net", "names"]
 fWithoutRound:Df K mg "without_round" dE ["net", "names"]
 fCheapest:Df K mg "cheapest" gB ["net"]
 fBetween:Df K mg "between" iU ["ahead", "behind"]
 fExchange:Df K mg "exchange" gA ["net", "deed"]
 fBegin:Df K mg "_law_begin" sBegin ["_law_script"]
 fNext:Df K mg "_law_next" sNext ["_law_state", "_law_many"]
 fWords:Df K mg "_law_words" sWords ["_law_state", "_law_many"]
 fCost:Df K mg "_law_cost" sCost ["_law_state", "_law_which"]
 fEnds:Df K mg "_law_ends" sEnds ["_law_state", "_law_family", "_law_many", "_law_k"]
 fNet:Df K mg "_law_net" sNet ["_law_state", "_law_most", "_law_ties_most"]
 fOf:Df K mg "_law_of" sOf ["_law_state", "_law_some"]
 fFresh:Df K mg "_law_fresh" sFresh ["_law_state", "_law_taken"]
 fNewTie:Df K mg "_law_new_tie" j8 ["_law_state", "_law_net_here", "_law_far"]
 fDeed:Df K mg "_law_deed" sDeed ["_law_state", "_law_net_here"]
 fTurnedAbout:Df K mg "_law_turned_about" dW ["_law_net_here", "_law_deed_here"]
 fEitherOrder:Df K mg "_law_either_order" dY ["_law_state", "_law_net_here"]
 fLaw:Df K mg "law" sLaw ["_law_script"]
 fCheaperFirst_T:Addr
 fCheaperFirst_t:∃ c,fCheaperFirst.fd.code=.ref c/\abG K c fCheaperFirst_T=true
 t_DEEDS:TabAt K mg "DEEDS" [("place",fPlaceComes.f),("leave",fPlaceLeaves.f),("tie",fTieComes.f),("untie",fTieGoes.f),("cost",fTieCosts.f)]
 b_ValueError:mg "ValueError" = none
 b_abs:mg "abs" = none
 b_all:mg "all" = none
 b_bool:mg "bool" = none
 b_int:mg "int" = none
 b_isinstance:mg "isinstance" = none
 b_len:mg "len" = none
 b_list:mg "list" = none
 b_max:mg "max" = none
 b_min:mg "min" = none
 b_range:mg "range" = none
 b_set:mg "set" = none
 b_sorted:mg "sorted" = none
 b_str:mg "str" = none
 b_tuple:mg "tuple" = none
 c_LONGEST_WORD:∃ t,mg "LONGEST_WORD" = some (.int 8 t)
end
end Pre
namespace Pre
open PySem L2
theorem uV {K:aad} {a l:Addr} {xs:List V} {js:List (Option Nat)} {σ:St} {H:Hp} {QQ:Hp->Prop} {g:TG} {tc:TT} {te:TE} (Pv:Nat->List V->Hp->Prop) (h0:Pv 0 [] H) (hl:∀ i ys H,i<=xs.length->Pv i ys H->SqL K H a xs)
  (hs:∀ i x ys H (N:List V->Hp->Prop),xs[i]?=some x->Pv i ys H->(∀ ys' H',Pv (i+1) ys' H'->N ys' H')->g x (capS js σ) H fun σ4 H4=>tc σ4 H4 fun b H5=>if b=true then te σ4 H5 fun y H6=>H6 l=some (.lst ys)/\ys.length<sizeLine/\N (ys++[y]) (upd H6 l (.lst (ys++[y]))) else N ys H5)
  (hd:∀ ys H,Pv xs.length ys H->QQ H) :
  ∃ W:Nat->Nat->List V->Hp->Prop,(∃ m,W 0 m [] H)/\∀ i m ys H2,W i m ys H2 ->
  ((Itl K a).stop i H2/\QQ H2)\/((Itl K a).go i H2/\∀ x H3,(Itl K a).yld i H2 x H3->g x (capS js σ) H3 fun σ4 H4=>tc σ4 H4 fun b H5 =>
   if b=true then te σ4 H5 fun y H6=>H6 l=some (.lst ys)/\ys.length<sizeLine/\∃ m',m'<m/\W (i+1) m' (ys++[y]) (upd H6 l (.lst (ys++[y]))) else ∃ m',m'<m/\W (i+1) m' ys H5):=by
 refine ⟨fun i m ys H=>m=xs.length - i/\i<=xs.length/\Pv i ys H,⟨xs.length,by simp,abl _,h0⟩,?_⟩
 rintro i m ys H2 ⟨rfl,hi,p⟩
 have q:=hl i ys H2 hi p
 by_cases hlt:i<xs.length
 ·refine .inr ⟨⟨xs,xs[i],q,by simp [hlt]⟩,fun x H3 y=>?_⟩
  obtain ⟨e,y⟩:=y
  subst e
  exact hs i x ys _ (fun ys' H'=>∃ m',m'<xs.length - i/\m'=xs.length - (i+1)/\i+1<=xs.length/\Pv (i+1) ys' H') (y xs q) p fun ys' H' h=>⟨_,by omega,rfl,hlt,h⟩
 ·have e:i=xs.length:=by omega
  subst e
  exact .inl ⟨⟨xs,q,aaj _⟩,hd ys _ p⟩
theorem uN:(["_law_cell"]:List Str).Nodup:=by decide +kernel
section
variable {P:aaq} {w:World} {K:aad} {mg:Str->Option Value} {base:Heap}
theorem sq {H:Hp} {a:Addr} {xs:List V} (h:H a=some (.lst xs)):SqL K H a xs:=.inl (.inl h)
theorem scNext:aB ["_law_state", "_law_many", "_law_digit"] ["_law_state", "_law_many"] (ar sNext):=⟨rfl,rfl,rfl,by decide +kernel,rfl,by decide +kernel,by decide +kernel⟩
theorem uF {f:Addr} {fd:aaT} (F:Fun K "_law_next" "_law_next" sNext f fd):FnOk P w K mg base CX0 1 f fd ["_law_state", "_law_many"] spNext:=by
 refine F.ok scNext (fun vs H Q E h=>?_) (fun cdv A outer s H vs Q E hr h=>?_)
 ·obtain ⟨a,b,m,rfl,_⟩:=h
  rfl
 ·obtain ⟨a,b,m,rfl,S,m0,m1,k⟩:=h
  have hu:=hr.units0
  refine ⟨_,bQ (sj abU (PW.pt (pw_and (fA (jd hu) (bR ix_list (pv 0) aG (fun _ _=>rfl)) (jH bG) (nomark _)) (pw_and1 (fA xA (bR ix_list (bR ix_list (pv 0) aG (fun _ _=>rfl)) aG (fun _ _=>rfl)) aG (nomark _)))))
    (da (oH (tM PySem.F.plainAttrs_list PySem.F.slot_list_pop PySem.F.type_list_pop sM (bR ix_list (pv 0) aG (fun _ _=>rfl)) (bb aG bG)))))
   (bQ (tJ (fA (jd hu) (bR ix_list (pv 0) aG (fun _ _=>rfl)) (jH bG) (nomark _))
    (bQ (dZ (i:=2) scNext.nd rfl (Or.inl rfl) (bv eg (bR ix_list (bR ix_list (pv 0) aG (fun _ _=>rfl)) aG (fun _ _=>rfl)) (pv 1)))
    (bQ (mN (bv kA (bR ix_list (bR ix_list (pv 0) aG (fun _ _=>rfl)) aG (fun _ _=>rfl)) (pv 1)) (qC (bR ix_list (pv 0) aG (fun _ _=>rfl)) aG mC))
    (da (gH (pv 2)))))
    oG)
   (bQ (mN (bv eg (bv gK (bv jM (bR ix_list (pv 0) aG (fun _ _=>rfl)) aG) aG) aG) (qC (pv 0) aG mC))
   (da (gH (bv eg (bv kA (bv eg (bv jM (bR ix_list (pv 0) aG (fun _ _=>rfl)) (bR ix_list (pv 0) aG (fun _ _=>rfl))) aG) aG) (pv 1)))))),?_⟩
  refine ⟨fun n σ' H'=>σ'=[some (.ref a),some (.int m),none]/\But a b H H'/\∃ (ns:List Int) (z:Int),H' a=some (.lst [.ref b,.int z])/\H' b=some (.lst (ns.map V.int))/\(∀ n∈ns,0<=n)/\0<=z/\z<2305843009213693951/\ns.length=n,?_,?_⟩
  ·obtain ⟨ns,z,h1,h2,h3,h4,h5⟩:=S.st
   exact ⟨_,rfl,But.refl a b H,ns,z,h1,h2,h3,h4,h5,rfl⟩
  rintro n σ' H' ⟨rfl,hB,ns,z,ha,hb,hn,z0,z1,hl⟩
  have S':Sta H' a b:=⟨ns,z,ha,hb,hn,z0,z1⟩
  have behind:∀ (H1:Hp),But a b H H1->Sta H1 a b->tSeq (tIfS (tTest (tOp (rNeNil K) (tOp (rIxL K) (tVar 0) (tC (.int 0))) (tLst tNil))) (tSeq (tAsg (tOp (rI (fun _ j=>0<j) fun i j=>.int (i % j)) (tOp (rIxL K) (tOp (rIxL K) (tVar 0) (tC (.int 0))) (tC (.int 0))) (tVar 1)) (gName 2))
    (tSeq (tAsg (tOp (rI CDiv fun i j=>.int (i / j)) (tOp (rIxL K) (tOp (rIxL K) (tVar 0) (tC (.int 0))) (tC (.int 0))) (tVar 1)) (gSub (tOp (rIxL K) (tVar 0) (tC (.int 0))) (tC (.int 0)) rSetL)) (tRet (tVar 2)))) tNext)
    (tSeq (tAsg (tOp (rI (fun _ j=>0<j) fun i j=>.int (i % j)) (tOp (rI0 fun i j=>.int (i+j)) (tOp (rI CMul fun i j=>.int (i*j)) (tOp (rIxL K) (tVar 0) (tC (.int 1))) (tC (.int 6364136223846793))) (tC (.int 1442695040888963))) (tC (.int 2305843009213693951))) (gSub (tVar 0) (tC (.int 1)) rSetL))
     (tRet (tOp (rI (fun _ j=>0<j) fun i j=>.int (i % j)) (tOp (rI CDiv fun i j=>.int (i / j)) (tOp (rI (fun _ j=>0<j) fun i j=>.int (i % j)) (tOp (rI CMul fun i j=>.int (i*j)) (tOp (rIxL K) (tVar 0) (tC (.int 1))) (tOp (rIxL K) (tVar 0) (tC (.int 1)))) (tC (.int 2305843009213693921))) (tC (.int 65537))) (tVar 1))))
    { nx:=fun _ H'=>Q .non H',rt:=Q } [some (.ref a),some (.int m),none] H1:=by
   intro H1 hB1 S1
   have hne:=S1.ne
   obtain ⟨ns,z,ha,hb,hn,z0,z1⟩:=S1.st
   refine ⟨_,rfl,a,_,_,_,rfl,rfl,sq ha,aj (j:=0) rfl,abl _,fun p hp=>?_⟩
   have ha':∀ o,(upd H1 p o) a=some (.lst [.ref b,.int z]):=fun o=>by rw [ak (ax ha hp)]; exact ha
   have hb':∀ o,(upd H1 p o) b=some (.lst (ns.map V.int)):=fun o=>by rw [ak (ax hb hp)]; exact hb
   have S2:=S1.grow (o:=.lst []) hp
   have B2:=hB1.grow (o:=.lst []) hp
   refine ⟨b,p,_,rfl,rfl,sq (hb' _),sq ao,_,rfl,?_⟩
   cases ns with
   | nil =>
    refine iteF ?_
    refine ⟨_,rfl,a,_,_,_,rfl,rfl,sq (ha' _),aj (j:=1) rfl,_,_,rfl,rfl,.inr ⟨by decide,by decide⟩,_,_,rfl,rfl,_,_,rfl,rfl,(by show (0:Int)<_; decide),_,rfl,a,_,_,1,rfl,rfl,ha' _,rfl,?_⟩
    have z2:0<=(z*6364136223846793+1442695040888963) % 2305843009213693951:=abY _ (by decide)
    have z3:(z*6364136223846793+1442695040888963) % 2305843009213693951<2305843009213693951:=abE _ (by decide)
    have S3:=S2.seta z2 z3
    have B3:But a b H (upd (upd H1 p (.lst [])) a (.lst [.ref b,.int ((z*6364136223846793+1442695040888963) % 2305843009213693951)])):=B2.seta
    refine ⟨_,rfl,a,_,_,_,rfl,rfl,sq ao,aj (j:=1) rfl,_,rfl,a,_,_,_,rfl,rfl,sq ao,aj (j:=1) rfl,_,_,rfl,rfl,.inl ⟨by omega,by omega⟩,_,_,rfl,rfl,(by show (0:Int)<_; decide),_,_,rfl,rfl,⟨by decide,by decide⟩,_,rfl,_,_,rfl,rfl,m0,?_⟩
    exact k _ _ (abY _ (by omega)) (abE _ m0) S3 B3
   | cons x r =>
    refine iteT ?_
    have x0:0<=x:=hn x aat
    refine ⟨_,rfl,a,_,_,_,rfl,rfl,sq (ha' _),aj (j:=0) rfl,b,_,_,_,rfl,rfl,sq (hb' _),aj (j:=0) rfl,_,rfl,_,_,rfl,rfl,m0,?_⟩
    refine ⟨_,rfl,a,_,_,_,rfl,rfl,sq (ha' _),aj (j:=0) rfl,b,_,_,_,rfl,rfl,sq (hb' _),aj (j:=0) rfl,_,rfl,_,_,rfl,rfl,⟨m0,m1⟩,_,rfl,a,_,_,_,rfl,rfl,sq (ha' _),aj (j:=0) rfl,b,_,_,0,rfl,rfl,hb' _,(by simp [ixN]),_,rfl,?_⟩
    refine k _ _ (abY _ (by omega)) (abE _ m0) (S2.setb (ns:=x / m::r) fun n hm=>?_) B2.setb
    rcases List.mem_cons.mp hm with rfl | hm
    ·exact Int.ediv_nonneg x0 (by omega)
    ·exact hn n (aav _ hm)
  refine ⟨_,rfl,a,_,_,_,rfl,rfl,sq ha,aj (j:=0) rfl,abl _,fun p hp=>?_⟩
  have ha':∀ o,(upd H' p o) a=some (.lst [.ref b,.int z]):=fun o=>by rw [ak (ax ha hp)]; exact ha
  have hb':∀ o,(upd H' p o) b=some (.lst (ns.map V.int)):=fun o=>by rw [ak (ax hb hp)]; exact hb
  have S2:=S'.grow (o:=.lst []) hp
  have B2:=hB.grow (o:=.lst []) hp
  refine ⟨b,p,_,rfl,rfl,sq (hb' _),sq ao,_,rfl,?_⟩
  cases ns with
  | nil =>
   refine iteF (iteF ?_)
   exact behind _ B2 S2
  | cons x r =>
   refine iteT ?_
   refine ⟨_,rfl,a,_,_,_,rfl,rfl,sq (ha' _),aj (j:=0) rfl,b,_,_,_,rfl,rfl,sq (hb' _),aj (j:=0) rfl,rfl,_,rfl,?_⟩
   refine ite2 (fun _=>?_) (fun _=>behind _ B2 S2)
   refine ⟨fun σ' H''=>σ'=[some (.ref a),some (.int m),none]/\But a b H H''/\H'' a=some (.lst [.ref b,.int z])/\H'' b=some (.lst (r.map V.int)),fun σ' H'' h=>⟨r.length,by rw [<- hl,abj]; exact abA _,h.1,h.2.1,r,z,h.2.2.1,h.2.2.2,fun n hm=>hn n (aav _ hm),z0,z1,rfl⟩,?_⟩
   refine ⟨_,rfl,a,_,_,_,rfl,rfl,sq (ha' _),aj (j:=0) rfl,.inl ⟨rfl,_,SqL.of (hb' _)⟩,b,_,0,0,_,rfl,rfl,hb' _,by decide,by decide,?_,rfl,rfl,B2.setb,by rw [ak S'.ne]; exact ha' _,ao⟩
   simp [seqIndex?]
structure Bt (mg:Str->Option Value):Prop where
 len:mg "len" = none
 abs:mg "abs" = none
 range:mg "range" = none
 max:mg "max" = none
 sorted:mg "sorted" = none
 tuple:mg "tuple" = none
theorem scBegin:aB ["_law_script", "_law_seed", "_law_cell"] ["_law_script"] (ar sBegin):=⟨rfl,rfl,rfl,by decide +kernel,rfl,by decide +kernel,by decide +kernel⟩
theorem sJ {f:Addr} {fd:aaT} (F:Fun K "_law_begin" "_law_begin" sBegin f fd) (B:Bt mg):FnOk P w K mg base CX0 1 f fd ["_law_script"] (hU K):=by
 refine F.ok scBegin (fun vs H Q E h=>?_) (fun cdv A outer s H vs Q E hr h=>?_)
 ·obtain ⟨a,ns,rfl,_⟩:=h
  rfl
 ·obtain ⟨a,ns,rfl,hS,hlen,k⟩:=h
  refine ⟨_,bQ (dZ (i:=1) scBegin.nd rfl (Or.inl rfl) (bv gK (bC gY (by rfl) B.len aaW (bb (pv 0) bG)) aG))
   (bQ (qx abU rfl (oI (i8 j6 (pv 0) ku (ko aG))) (aM (i:=2) scBegin.nd rfl (Or.inl rfl))
    (da (dZ (i:=1) scBegin.nd rfl (Or.inl rfl) (bv eg (bv gK (bv gK (bv jM (pv 1) aG) (bv eg (pv 2) (bv mT aG aG))) aG) aG))))
   (da (gH (jH (bb (tL (N:=["_law_cell"]) (js:=[none]) (oI (i8 j6 (pv 0) ku (ko aG))) (fun _ _ _ _ _=>aM (i:=0) uN rfl (Or.inl rfl))
    (fun _ _ _ _ _=>qD (fA xz (bC nI (by rfl) B.abs PyProof.Rows.boot_abs (bb (pv 0) bG)) (bv mT aG aG) (nomark _)))
    (fun _ _ _ _ _=>bC nI (by rfl) B.abs PyProof.Rows.boot_abs (bb (pv 0) bG)) kN) (bb (pv 1) bG)))))),?_⟩
  refine ⟨_,rfl,a,_,rfl,.inl hS,_,_,rfl,rfl,?_⟩
  have cut:∀ (H':Hp),Same H H'->cutV (ns.map V.int) none (some 63)=ns.map V.int:=fun _ _=>by
   unfold cutV
   rw [HT.sIx_none]
   have e:HT.sIx (ns.map V.int).length (ns.map V.int).length (some 63)=(ns.map V.int).length:=by
    have:=HT.sIx_nat (ns.map V.int).length (ns.map V.int).length 63
    refine this.trans ?_
    rw [aae]; omega
   rw [e,Nat.sub_zero,afj,acQ]
  have grow:∀ {H':Hp} {p:Addr} {o:HO},Same H H'->H' p=none->Same H (upd H' p o):=fun {H' p o} hs hp c u h=>by
   have q:=hs c u h
   rw [ak (ax q hp)]; exact q
  refine ⟨_,rfl,63,rfl,a,_,rfl,hS,fun p hp=>?_⟩
  rw [cut H (Same.refl H)]
  have hp1:SqL K (upd H p (.lst (ns.map V.int))) p (ns.map V.int):=sq ao
  refine ⟨p,rfl,⟨_,hp1⟩,sW (K:=K) (a:=p) (xs:=ns.map V.int) (fun i σ H2=>∃ (z:Int) (v:Option V),σ=[some (.ref a),some (.int z),v]/\H2=upd H p (.lst (ns.map V.int))/\0<=z/\z<2305843009213693951)
   ⟨_,none,rfl,rfl,by show (0:Int)<=((ns.map V.int).length:Nat)+3; omega,by show ((ns.map V.int).length:Nat)+(3:Int)<_; rw [aae]; omega⟩ (fun i σ H2 _ ⟨_,_,_,e,_⟩=>by rw [e]; exact hp1) ?_ ?_⟩
  ·rintro i y σ H2 hi ⟨z,v,rfl,rfl,z0,z1⟩
   obtain ⟨c,rfl⟩:∃ c,y=V.int c:=by
    rw [aal] at hi
    cases e:ns[i]? with
    | none=>rw [e] at hi; cases hi
    | some c=>rw [e] at hi; exact ⟨c,(aar hi).symm⟩
   refine ⟨_,rfl,_,_,rfl,rfl,.inr ⟨by decide,by decide⟩,_,rfl,_,_,rfl,rfl,⟨by decide,by decide,by decide⟩,_,_,rfl,rfl,(by show (0:Int)<10 ^ 30; decide),_,_,rfl,rfl,_,_,rfl,rfl,_,_,rfl,rfl,(by show (0:Int)<_; decide),?_⟩
   exact ⟨_,_,rfl,rfl,abY _ (by decide),abE _ (by decide)⟩
  ·rintro σ H2 ⟨z,v,rfl,rfl,z0,z1⟩
   have hs1:Same H (upd H p (.lst (ns.map V.int))):=grow (Same.refl H) hp
   refine ⟨_,rfl,63,rfl,a,_,rfl,hs1.seq hS,fun p2 hp2=>?_⟩
   rw [cut H (Same.refl H)]
   have hs2:Same H (upd (upd H p (.lst (ns.map V.int))) p2 (.lst (ns.map V.int))):=grow hs1 hp2
   refine ⟨p2,rfl,⟨_,sq ao⟩,fun l hl=>?_⟩
   generalize hH3:upd (upd H p (.lst (ns.map V.int))) p2 (.lst (ns.map V.int))=H3 at hs2 hl ⊢
   have hp2':H3 p2=some (.lst (ns.map V.int)):=by rw [<- hH3]; exact ao
   refine uV (K:=K) (a:=p2) (l:=l) (xs:=ns.map V.int) (fun i ys H4=>∃ ms:List Int,ys=ms.map V.int/\(∀ n∈ms,0<=n)/\ms.length<=i/\H4=upd H3 l (.lst ys))
    ⟨[],rfl,(fun _ h=>nomatch h),aaj _,rfl⟩ (fun i ys H4 _ ⟨_,_,_,_,e⟩=>by rw [e]; exact sq (by rw [ak (ax hp2' hl)]; exact hp2')) ?_ ?_
   ·rintro i x ys H4 N hi ⟨ms,rfl,hm,hml,rfl⟩ hN
    obtain ⟨c,rfl⟩:∃ c,x=V.int c:=by
     rw [aal] at hi
     cases e:ns[i]? with
     | none=>rw [e] at hi; cases hi
     | some c=>rw [e] at hi; exact ⟨c,(aar hi).symm⟩
    have hil:i<(ns.map V.int).length:=(List.getElem?_eq_some_iff.mp hi).1
    rw [aae] at hil
    refine ⟨_,rfl,_,rfl,_,_,rfl,rfl,⟨by decide,by decide,by decide⟩,_,_,rfl,rfl,_,rfl,?_⟩
    refine ite2 (fun _=>?_) (fun _=>hN _ _ ⟨ms,rfl,hm,by omega,rfl⟩)
    refine ⟨_,rfl,c,rfl,ao,by rw [aae,aaA]; omega,hN _ _ ⟨ms++[if c<0 then -c else c],by simp,fun n hn=>?_,by rw [aau,List.length_singleton]; omega,by rw [tY]⟩⟩
    rcases List.mem_append.mp hn with q | q
    ·exact hm n q
    ·have:n=if c<0 then -c else c:=by simpa using q
     rw [this]; split <;> omega
   ·rintro ys H4 ⟨ms,rfl,hm,hml,rfl⟩
    refine ⟨_,rfl,(by show 2<=sizeLine; decide),fun q hq=>?_⟩
    have hlq:l≠q:=fun e=>by rw [e,ao] at hq; cases hq
    refine k q l _ ((grow hs2 hl).free hq) (hs2.free hl) ⟨ms,z,ao,by rw [ak hlq,ao],hm,z0,z1⟩ (grow (grow hs2 hl) hq)
end
end Pre
namespace Pre
open PySem L2 Q
structure IsWord (x:Str):Prop where
 lo:1<=x.cps.toList.length
 hi:x.cps.toList.length<=8
 ok:∀ c∈x.cps.toList,97<=c/\c<=122
noncomputable def ch (i:Nat):Str:=⟨#[97+i]⟩
noncomputable def wl (b s t f n k:Nat):List Nat:=if n<8/\s=6 then aaC (k+1) (97+b) else (aaC t (97+b)++[97+(f+5*k) % 26,97+(f+k / 26) % 26])++aaC (s - t) (97+b)
noncomputable def wd (b s t f n k:Nat):Str:=⟨(wl b s t f n k).toArray⟩
theorem tU {b s t f n k:Nat} (hb:b<26) (hs:s<7) (ht:t<=s) (hk:k<n):IsWord (wd b s t f n k):=by
 have e:(wd b s t f n k).cps.toList=wl b s t f n k:=by simp [wd]
 refine ⟨?_,?_,?_⟩
 ·rw [e]; unfold wl; split
  ·simp
  ·simp; omega
 ·rw [e]; unfold wl; split
  ·simp; omega
  ·simp; omega
 ·rw [e]; unfold wl
  intro c hc
  split at hc
  ·have:=ado hc
   omega
  ·rcases List.mem_append.mp hc with h | h
   ·rcases List.mem_append.mp h with h | h
    ·have:=ado h; omega
    ·simp only [ab4,abH,or_false] at h
     have:=Nat.mod_lt (f+5*k) (show 0<26 by decide)
     have:=Nat.mod_lt (f+k / 26) (show 0<26 by decide)
     omega
   ·have:=ado h; omega
theorem oM (f a b:Nat) (h:(f+a) % 26=(f+b) % 26):a % 26=b % 26:=by omega
theorem vG:∀ k:Nat,k<60->∀ k':Nat,k'<60->(5*k) % 26=(5*k') % 26->(k / 26) % 26=(k' / 26) % 26->k=k':=by decide +kernel
theorem vF {b s t f n k k':Nat} (hk:k<60) (hk':k'<60) (h:wd b s t f n k=wd b s t f n k'):k=k':=by
 have e:wl b s t f n k=wl b s t f n k':=by
  have:=congrArg (fun x:Str=>x.cps.toList) h
  simpa [wd] using this
 unfold wl at e
 split at e
 ·have:=congrArg acw e
  rw [abO,abO] at this
  exact aaU this
 ·have e1:=List.append_cancel_right e
  have e2:=List.append_cancel_left e1
  simp only [ae9,and_true] at e2
  exact vG k hk k' hk' (oM f _ _ (Nat.add_left_cancel e2.1)) (oM f _ _ (Nat.add_left_cancel e2.2))
noncomputable def wds (b s t f n:Nat) (m:Nat):List Str:=(aaM m).map (wd b s t f n)
theorem qb {b s t f n m:Nat} (hm:m<=60):(wds b s t f n m).Nodup:=by
 unfold wds
 rw [ac6,List.pairwise_map]
 have:=(List.nodup_iff_pairwise_ne.mp (adB (n:=m)))
 refine List.Pairwise.imp_of_mem (fun {x y} hx hy hne e=>?_) this
 exact hne (vF (by have:=List.mem_range.mp hx; omega) (by have:=List.mem_range.mp hy; omega) e)
theorem rP {b s t f n:Nat} (hb:b<26) (hs:s<7) (ht:t<=s):∀ x∈wds b s t f n n,IsWord x:=fun x hx=>by
 obtain ⟨k,hk,rfl⟩:=List.mem_map.mp hx
 exact tU hb hs ht (List.mem_range.mp hk)
theorem rQ (b s t f n m:Nat):wds b s t f n (m+1)=wds b s t f n m++[wd b s t f n m]:=by
 unfold wds
 rw [adL,aa4]; rfl
theorem j4 {x y:Str} (h:x.cps.toList=y.cps.toList):x=y:=by
 obtain ⟨x⟩:=x
 obtain ⟨y⟩:=y
 exact congrArg Str.mk (Array.toList_inj.mp h)
theorem jE (b m:Nat):(repS (ch b) m).cps.toList=aaC m (97+b):=by
 unfold repS ch
 induction m with
 | zero=>rfl
 | succ m ih =>
  simp only [abh,abK] at ih ⊢
  simpa using ih
theorem gh (x y:Str):(x++y).cps.toList=x.cps.toList++y.cps.toList:=by
 show (x.cps++y.cps).toList=_
 simp
noncomputable def abc:Str := "abcdefghijklmnopqrstuvwxyz"
theorem xn:∀ i:Nat,i<26->abc.cps.toList[i]?=some (97+i):=by decide +kernel
structure Tie where
 nm:Str
 one:Str
 oth:Str
 cost:Int
noncomputable def t0:Tie:=⟨⟨#[]⟩,⟨#[]⟩,⟨#[]⟩,0⟩
structure TieOk (t:Tie):Prop where
 nm:IsWord t.nm
 one:IsWord t.one
 oth:IsWord t.oth
 lt:ltS t.one t.oth
 lo : -(10 ^ 30)<t.cost
 hi:t.cost<10 ^ 30
structure NetOk (ps:List Str) (ts:List Tie):Prop where
 rise:ps.Pairwise ltS
 word:∀ x∈ps,IsWord x
 names:(ts.map Tie.nm).Pairwise ltS
 tie:∀ t∈ts,TieOk t
theorem nh {x y:Str} (h1:¬ ltS y x) (h2:x≠y):ltS x y:=by
 unfold ltS at *
 rcases List.le_iff_lt_or_eq.mp (List.not_lt.mp h1) with z | z
 ·exact z
 ·exact absurd (j4 z) h2
theorem vK {x y:Str} {l:List Str} (hp:l.Perm [x,y]) (hs:l.Pairwise fun a b=>¬ ltS b a) (hn:x≠y):∃ u v,l=[u,v]/\ltS u v/\(u=x\/u=y)/\(v=x\/v=y):=by
 have hl:=hp.length_eq
 match l,hl with
 | [u,v],_ =>
  have hu:u=x\/u=y:=by simpa using hp.mem_iff.mp (show u∈[u,v] by simp)
  have hv:v=x\/v=y:=by simpa using hp.mem_iff.mp (show v∈[u,v] by simp)
  have nd:[u,v].Nodup:=hp.nodup_iff.mpr (by simp [hn])
  have hne:u≠v:=by simpa using nd
  refine ⟨u,v,rfl,nh ?_ hne,hu,hv⟩
  have:=List.rel_of_pairwise_cons hs (show v∈[v] by simp)
  exact this
theorem kj {l:List Str} (hs:l.Pairwise fun a b=>¬ ltS b a) (hn:l.Nodup):l.Pairwise ltS:=by
 have:=List.nodup_iff_pairwise_ne.mp hn
 exact (hs.and this).imp fun ⟨h1,h2⟩=>nh h1 h2
noncomputable def tiePV (t:Tie):PV:=.tup [.str t.nm,.str t.one,.str t.oth,.int t.cost]
noncomputable def netPV (ps:List Str) (ts:List Tie):PV:=.tup [.tup (ps.map .str),.tup (ts.map tiePV)]
noncomputable def cE:FdO:=fun c xs P=>c=.non/\∃ n:Nat,xs=[.int n]/\n<=60/\∀ ws:List Str,ws.length=n->ws.Nodup->(∀ x∈ws,IsWord x)->P (.lst (ws.map .str)) .non
noncomputable def eH:FdO:=fun c xs P=>c=.non/\∃ q:Int,xs=[.int q]/\∀ c:Int,-(10 ^ 30)<c->c<10 ^ 30->P (.int c) .non
noncomputable def li:FdO:=fun c xs P=>c=.non/\∃ M T:Int,xs=[.int M,.int T]/\0<=M/\M<=40/\0<=T/\T<=50/\∀ (ps:List Str) (ts:List Tie),NetOk ps ts->(ps.length:Int)<=M->(ts.length:Int)<=T->P (netPV ps ts) .non
noncomputable def ju:FdO:=fun c xs P=>c=.non/\∃ f m k:Int,xs=[.int f,.int m,.int k]/\2<=m/\m<=100/\∀ i j:Int,0<=i->i<m->0<=j->j<m->i≠j->P (.tup [.int i,.int j]) .non
section
variable {P:aaq} {w:World} {K:aad} {mg:Str->Option Value} {base:Heap}
theorem vB (Y:Ev K mg):Bt mg:=⟨Y.b_len,Y.b_abs,Y.b_range,Y.b_max,Y.b_sorted,Y.b_tuple⟩
theorem aF (Y:Ev K mg):FnOk P w K mg base CX0 1 Y.fNext.f Y.fNext.fd ["_law_state", "_law_many"] (spO ⟨P,w,K,obG K⟩ 2 aD):=sL (uF Y.fNext.F)
theorem rg (Y:Ev K mg):FnOk P w K mg base CX0 1 Y.fBegin.f Y.fBegin.fd ["_law_script"] (hU K):=sJ Y.fBegin.F (vB Y)
end
end Pre
namespace Pre
open PySem L2 Q
noncomputable def okc (c:Nat):Bool:=decide (97<=c) && decide (c<=122)
noncomputable def wordB (x:Str):Bool:=decide (1<=x.length) && decide (x.length<=8) && x.cps.toList.all okc
theorem wordB_iff {x:Str}:wordB x=true↔IsWord x:=by
 unfold wordB okc
 rw [aaK,aaK,decide_eq_true_eq,decide_eq_true_eq,acT]
 have e:x.length=x.cps.toList.length:=by simp [aew]
 rw [e]
 constructor
 ·rintro ⟨⟨a,b⟩,c⟩
  exact ⟨a,b,fun d hd=>by have:=c d hd; rw [aaK,decide_eq_true_eq,decide_eq_true_eq] at this; exact this⟩
 ·rintro ⟨a,b,c⟩
  exact ⟨⟨a,b⟩,fun d hd=>by rw [aaK,decide_eq_true_eq,decide_eq_true_eq]; exact c d hd⟩
noncomputable def Plain:PV->Prop
 | .str s=>s.length<=1000
 | .set _=>False
 | .scr _=>False
 | _=>True
noncomputable def wordP:PV->Bool
 | .str x=>wordB x
 | _=>false
noncomputable def wholeP:PV->Bool
 | .int _=>true
 | _=>false
noncomputable def bD:Fd:=fun xs P=>∃ x,xs=[x]/\Plain x/\P (.bl (wordP x))
noncomputable def cX:Fd:=fun xs P=>∃ x,xs=[x]/\Plain x/\P (.bl (wholeP x))
end Pre
namespace Pre
open PySem L2 Q
theorem jP {x y:Str} (h:ltS x y):x≠y:=fun e=>by subst e; exact ad3 _ h
theorem aW {ps:List Str} {ts:List Tie} (h:NetOk ps ts):(ts.map Tie.nm).Nodup:=List.nodup_iff_pairwise_ne.mpr (h.names.imp fun z=>jP z)
theorem dy {α:Type} [DecidableEq α]:∀ {xs ys:List α},xs.Nodup->(∀ x∈xs,x∈ys)->xs.length<=ys.length
 | [],_,_,_=>abl _
 | x::r,ys,nd,h=>by
  obtain ⟨n1,n2⟩:=List.nodup_cons.mp nd
  have hx:=h x aat
  have:=dy (xs:=r) (ys:=ys.erase x) n2 fun z hz=>by
   have hzx:z≠x:=fun e=>n1 (by rw [<- e]; exact hz)
   exact (List.mem_erase_of_ne hzx).mpr (h z (aav _ hz))
  rw [List.length_erase_of_mem hx] at this
  have hp:=List.length_pos_of_mem hx
  rw [abj]
  omega
theorem fG {x y z:Str} (a:ltS x y) (b:ltS y z):ltS x z:=List.lt_trans a b
theorem ib (x:Str):¬ ltS x x:=ad3 _
theorem ni {x y:Str} (a:ltS x y):¬ ltS y x:=fun b=>ib x (fG a b)
theorem oN (x y:Str):ltS x y\/x=y\/ltS y x:=by
 by_cases h:ltS y x
 ·exact .inr (.inr h)
 ·by_cases e:x=y
  ·exact .inr (.inl e)
  ·exact .inl (nh h e)
theorem dM {xs:List Str} (h:xs.Pairwise ltS):xs.Nodup:=List.nodup_iff_pairwise_ne.mpr (h.imp fun z=>jP z)
open Classical in
theorem hV:∀ {a b:List Str},a.Perm b->a.Pairwise ltS->b.Pairwise ltS->a=b
 | [],b,p,_,_=>(List.nil_perm.mp p).symm
 | x::a,[],p,_,_=>by have:=p.length_eq; simp at this
 | x::a,y::b,p,ha,hb=>by
  have e:x=y:=abR fun ne=>by
   rw [adb] at ha hb
   have h1:x∈b:=by
    rcases List.mem_cons.mp (p.mem_iff.mp aat) with z | z
    ·exact absurd z ne
    ·exact z
   have h2:y∈a:=by
    rcases List.mem_cons.mp (p.mem_iff.mpr aat) with z | z
    ·exact absurd z.symm ne
    ·exact z
   exact ib _ (fG (ha.1 y h2) (hb.1 x h1))
  subst e
  rw [hV (afh _ |>.mp p) (List.pairwise_cons.mp ha).2 (List.pairwise_cons.mp hb).2]
theorem iV:∀ {a b:List Tie},a.Perm b->(a.map Tie.nm).Pairwise ltS->(b.map Tie.nm).Pairwise ltS->a=b
 | [],b,p,_,_=>(List.nil_perm.mp p).symm
 | x::a,[],p,_,_=>by have:=p.length_eq; simp at this
 | x::a,y::b,p,ha,hb=>by
  have e:x=y:=abR fun ne=>by
   rw [aao,adb] at ha hb
   have h1:x∈b:=by
    rcases List.mem_cons.mp (p.mem_iff.mp aat) with z | z
    ·exact absurd z ne
    ·exact z
   have h2:y∈a:=by
    rcases List.mem_cons.mp (p.mem_iff.mpr aat) with z | z
    ·exact absurd z.symm ne
    ·exact z
   exact ib _ (fG (ha.1 y.nm (abt h2)) (hb.1 x.nm (abt h1)))
  subst e
  rw [aao,adb] at ha hb
  rw [iV (afh _ |>.mp p) ha.2 hb.2]
theorem oV {us:List Tie} {ix:List Nat} (hl:ix.length=us.length) (nd:ix.Nodup) (lt:∀ i∈ix,i<us.length):(ix.map fun i=>us.getD i t0).Perm us:=by
 have h1:ix.Perm (aaM us.length):=by
  refine (ac5 nd adB).mpr fun i=>?_
  rw [List.mem_range]
  refine ⟨lt i,fun hi=>?_⟩
  have:=dy nd (fun x hx=>List.mem_range.mpr (lt x hx))
  exact abR fun hn=>by
   have h2:(i::ix).Nodup:=List.nodup_cons.mpr ⟨hn,nd⟩
   have h3:=dy (ys:=aaM us.length) h2 (fun x hx=>by
    rcases List.mem_cons.mp hx with rfl | hx
    ·exact List.mem_range.mpr hi
    ·exact List.mem_range.mpr (lt x hx))
   simp at h3; omega
 have h2:((aaM us.length).map fun i=>us.getD i t0)=us:=by
  apply abX
  intro i
  rw [aal]
  by_cases hi:i<us.length
  ·rw [abM hi]; simp [hi]
  ·rw [aam (by simpa using hi),aam (by omega)]; rfl
 have h3:=h1.map fun i=>us.getD i t0
 rw [h2] at h3
 exact h3
end Pre
namespace Pre
open PySem L2 Q
inductive Deed where
 | pla (p:Str)
 | lea (p:Str)
 | tie (n a b:Str) (c:Int)
 | unt (n:Str)
 | cos (n:Str) (c:Int)
noncomputable def deedPV:Deed->PV
 | .pla p=>.tup [.str "place",.str p]
 | .lea p=>.tup [.str "leave",.str p]
 | .tie n a b c=>.tup [.str "tie",.str n,.str a,.str b,.int c]
 | .unt n=>.tup [.str "untie",.str n]
 | .cos n c=>.tup [.str "cost",.str n,.int c]
structure NetS (ps:List Str) (ts:List Tie):Prop where
 ok:NetOk ps ts
 pl:ps.length<=60
 tl:ts.length<=60
noncomputable def Bd (n:Int):Prop := -(10 ^ 30)<n/\n<10 ^ 30
noncomputable def DOk (ps:List Str) (ts:List Tie):Deed->Prop
 | .pla p=>IsWord p/\p∉ps
 | .lea p=>p∈ps
 | .tie n a b c=>IsWord n/\IsWord a/\IsWord b/\a≠b/\n∉ts.map Tie.nm/\Bd c
 | .unt n=>n∈ts.map Tie.nm
 | .cos n c=>n∈ts.map Tie.nm/\Bd c
noncomputable def insS (p:Str) (ps:List Str):List Str:=ps.filter (fun q=>decide (ltS q p))++p::ps.filter (fun q=>!decide (ltS q p))
noncomputable def insT (t:Tie) (ts:List Tie):List Tie:=ts.filter (fun q=>decide (ltS q.nm t.nm))++t::ts.filter (fun q=>!decide (ltS q.nm t.nm))
noncomputable def mkT (n a b:Str) (c:Int):Tie:=⟨n,minS a b,maxS a b,c⟩
noncomputable def chgP (ps:List Str):Deed->List Str
 | .pla p=>insS p ps
 | .lea p=>ps.filter fun q=>!decide (q=p)
 | _=>ps
noncomputable def chgT (ts:List Tie):Deed->List Tie
 | .tie n a b c=>insT (mkT n a b c) ts
 | .unt n=>ts.filter fun t=>!decide (t.nm=n)
 | .cos n c=>ts.map fun t=>if t.nm=n then { t with cost:=c } else t
 | _=>ts
theorem eU (p:Str) (ps:List Str):(insS p ps).Perm (ps++[p]):=by
 unfold insS
 refine List.perm_middle.trans ?_
 refine ((adz (fun q=>decide (ltS q p)) ps).cons p).trans ?_
 exact (List.perm_append_comm (l₁:=[p]) (l₂:=ps))
theorem eS (t:Tie) (ts:List Tie):(insT t ts).Perm (ts++[t]):=by
 unfold insT
 refine List.perm_middle.trans ?_
 refine ((adz (fun q:Tie=>decide (ltS q.nm t.nm)) ts).cons t).trans ?_
 exact (List.perm_append_comm (l₁:=[t]) (l₂:=ts))
theorem mt {x y:Str} (h1:¬ ltS x y) (h2:x≠y):ltS y x:=by
 rcases oN x y with h | h | h
 ·exact absurd h h1
 ·exact absurd h h2
 ·exact h
theorem lD {p:Str} {ps:List Str} (h:ps.Pairwise ltS) (hp:p∉ps):(insS p ps).Pairwise ltS:=by
 unfold insS
 rw [List.pairwise_append]
 refine ⟨h.sublist ab6,List.pairwise_cons.mpr ⟨fun y hy=>?_,h.sublist ab6⟩,fun x hx y hy=>?_⟩
 ·obtain ⟨h1,h2⟩:=List.mem_filter.mp hy
  exact mt (by simpa using h2) (fun e=>hp (e ▸ h1))
 ·have hx2:ltS x p:=by simpa using (List.mem_filter.mp hx).2
  rcases List.mem_cons.mp hy with rfl | hy
  ·exact hx2
  ·obtain ⟨h1,h2⟩:=List.mem_filter.mp hy
   exact fG hx2 (mt (by simpa using h2) (fun e=>hp (e ▸ h1)))
theorem lC {t:Tie} {ts:List Tie} (h:(ts.map Tie.nm).Pairwise ltS) (hp:t.nm∉ts.map Tie.nm):((insT t ts).map Tie.nm).Pairwise ltS:=by
 unfold insT
 rw [aa4,aao,List.pairwise_append]
 refine ⟨h.sublist (List.filter_sublist.map _),List.pairwise_cons.mpr ⟨fun y hy=>?_,h.sublist (List.filter_sublist.map _)⟩,fun x hx y hy=>?_⟩
 ·obtain ⟨u,hu,rfl⟩:=List.mem_map.mp hy
  obtain ⟨h1,h2⟩:=List.mem_filter.mp hu
  exact mt (by simpa using h2) (fun e=>hp (e ▸ abt h1))
 ·obtain ⟨v,hv,rfl⟩:=List.mem_map.mp hx
  have hx2:ltS v.nm t.nm:=by simpa using (List.mem_filter.mp hv).2
  rcases List.mem_cons.mp hy with rfl | hy
  ·exact hx2
  ·obtain ⟨u,hu,rfl⟩:=List.mem_map.mp hy
   obtain ⟨h1,h2⟩:=List.mem_filter.mp hu
   exact fG hx2 (mt (by simpa using h2) (fun e=>hp (e ▸ abt h1)))
theorem pK {a b:Str} (h:a≠b):ltS (minS a b) (maxS a b):=by
 unfold minS maxS
 rcases oN a b with z | z | z
 ·rw [if_neg (ni z),if_pos z]; exact z
 ·exact absurd z h
 ·rw [if_pos z,if_neg (ni z)]; exact z
theorem na {a b:Str} (ha:IsWord a) (hb:IsWord b):IsWord (minS a b)/\IsWord (maxS a b):=by
 unfold minS maxS
 constructor <;> split <;> assumption
theorem xi (ts:List Tie) (n:Str) (c:Int):(ts.map fun t=>if t.nm=n then { t with cost:=c } else t).map Tie.nm=ts.map Tie.nm:=by
 rw [aaJ]
 refine aa7 fun t _=>?_
 show Tie.nm (if t.nm=n then { t with cost:=c } else t)=t.nm
 split <;> rfl
theorem bH {ps:List Str} {ts:List Tie} {d:Deed} (h:NetOk ps ts) (hd:DOk ps ts d):NetOk (chgP ps d) (chgT ts d):=by
 cases d with
 | pla p =>
  refine ⟨lD h.rise hd.2,fun x hx=>?_,h.names,h.tie⟩
  rcases List.mem_append.mp ((eU p ps).mem_iff.mp hx) with z | z
  ·exact h.word x z
  ·rw [List.mem_singleton.mp z]; exact hd.1
 | lea p=>exact ⟨h.rise.sublist ab6,fun x hx=>h.word x (List.mem_filter.mp hx).1,h.names,h.tie⟩
 | tie n a b c =>
  obtain ⟨h1,h2,h3,h4,h5,h6⟩:=hd
  refine ⟨h.rise,h.word,lC h.names h5,fun t ht=>?_⟩
  rcases List.mem_append.mp ((eS (mkT n a b c) ts).mem_iff.mp ht) with z | z
  ·exact h.tie t z
  ·rw [List.mem_singleton.mp z]
   exact ⟨h1,(na h2 h3).1,(na h2 h3).2,pK h4,h6.1,h6.2⟩
 | unt n=>exact ⟨h.rise,h.word,h.names.sublist (List.filter_sublist.map _),fun t ht=>h.tie t (List.mem_filter.mp ht).1⟩
 | cos n c =>
  refine ⟨h.rise,h.word,(by show (List.map Tie.nm (ts.map fun t=>if t.nm=n then { t with cost:=c } else t)).Pairwise ltS; rw [xi]; exact h.names),fun t ht=>?_⟩
  obtain ⟨u,hu,rfl⟩:=List.mem_map.mp ht
  have q:=h.tie u hu
  split
  ·exact ⟨q.nm,q.one,q.oth,q.lt,hd.2.1,hd.2.2⟩
  ·exact q
theorem dS {ps:List Str} {ts:List Tie} (d:Deed):(chgP ps d).length<=ps.length+1/\(chgT ts d).length<=ts.length+1:=by
 cases d with
 | pla p=>exact ⟨by show (insS p ps).length<=_; rw [(eU p ps).length_eq,aau]; exact aaj _,abP _⟩
 | lea p=>exact ⟨aeB (aa5 _ _),abP _⟩
 | tie n a b c=>exact ⟨abP _,by show (insT _ ts).length<=_; rw [(eS _ ts).length_eq,aau]; exact aaj _⟩
 | unt n=>exact ⟨abP _,aeB (aa5 _ _)⟩
 | cos n c=>exact ⟨abP _,by show (ts.map _).length<=_; rw [aae]; exact abP _⟩
end Pre
namespace Pre
open PySem L2 Q
theorem mY {ts:List Tie} (nd:(ts.map Tie.nm).Nodup):∀ {t u:Tie},t∈ts->u∈ts->t.nm=u.nm->t=u:=by
 induction ts with
 | nil=>intro t u h; cases h
 | cons a ts ih =>
  rw [aao,List.nodup_cons] at nd
  intro t u ht hu e
  rcases List.mem_cons.mp ht with z1 | z1 <;> rcases List.mem_cons.mp hu with z2 | z2
  ·rw [z1,z2]
  ·exact absurd (List.mem_map.mpr ⟨u,z2,(z1 ▸ e).symm⟩) nd.1
  ·exact absurd (List.mem_map.mpr ⟨t,z1,z2 ▸ e⟩) nd.1
  ·exact ih nd.2 z1 z2 e
end Pre
namespace Pre
open PySem L2 Q
theorem mF {a b:List Str} (ha:a.Pairwise ltS) (hb:b.Pairwise ltS) (h:∀ x,x∈a↔x∈b):a=b :=
 hV ((ac5 (dM ha) (dM hb)).mpr h) ha hb
theorem m5 {a:List Tie} (h:(a.map Tie.nm).Pairwise ltS):a.Nodup:=List.Pairwise.imp (fun {x y} (z:ltS x.nm y.nm) (e:x=y)=>jP z (by rw [e])) (List.pairwise_map.mp h)
theorem gC {a b:List Tie} (ha:(a.map Tie.nm).Pairwise ltS) (hb:(b.map Tie.nm).Pairwise ltS) (h:∀ x,x∈a↔x∈b):a=b :=
 iV ((ac5 (m5 ha) (m5 hb)).mpr h) ha hb
theorem mem_insS {p x:Str} {ps:List Str}:x∈insS p ps↔x∈ps\/x=p:=by
 rw [(eU p ps).mem_iff,ac1,adc]
theorem mem_insT {t x:Tie} {ts:List Tie}:x∈insT t ts↔x∈ts\/x=t:=by
 rw [(eS t ts).mem_iff,ac1,adc]
theorem uO {t:Tie} (h:ltS t.one t.oth):mkT t.nm t.oth t.one t.cost=t:=by
 unfold mkT minS maxS
 have h1:¬ ltS t.oth t.one:=ni h
 simp [h,h1]
noncomputable def backOf (t:Tie):Deed->Deed
 | .pla p=>.lea p
 | .lea p=>.pla p
 | .tie n _ _ _=>.unt n
 | .unt _=>.tie t.nm t.oth t.one t.cost
 | .cos _ _=>.cos t.nm t.cost
noncomputable def dnm:Deed->Option Str
 | .unt n=>some n
 | .cos n _=>some n
 | _=>none
theorem vE {ps:List Str} {ts:List Tie} {d:Deed} {t:Tie} (ok:NetOk ps ts) (hd:DOk ps ts d) (ht:∀ n,dnm d=some n->t∈ts/\t.nm=n) :
  DOk (chgP ps d) (chgT ts d) (backOf t d)/\chgP (chgP ps d) (backOf t d)=ps/\chgT (chgT ts d) (backOf t d)=ts:=by
 have ok2:=bH ok hd
 cases d with
 | pla p =>
  have m:p∈insS p ps:=mem_insS.mpr (.inr rfl)
  refine ⟨m,?_,rfl⟩
  have ok3:=bH (d:=.lea p) ok2 m
  refine mF ok3.rise ok.rise fun x=>?_
  show x∈(insS p ps).filter (fun q=>!decide (q=p))↔_
  rw [adM,mem_insS]
  simp only [adr,decide_eq_false_iff_not]
  exact ⟨fun ⟨h,n⟩=>h.resolve_right n,fun h=>⟨.inl h,fun e=>hd.2 (e ▸ h)⟩⟩
 | lea p =>
  have hd:p∈ps:=hd
  have m:DOk (ps.filter fun q=>!decide (q=p)) ts (.pla p):=⟨ok.word p hd,fun h=>by simpa using (List.mem_filter.mp h).2⟩
  refine ⟨m,?_,rfl⟩
  have ok3:=bH (d:=.pla p) ok2 m
  refine mF ok3.rise ok.rise fun x=>?_
  show x∈insS p (ps.filter fun q=>!decide (q=p))↔_
  rw [mem_insS,adM]
  simp only [adr,decide_eq_false_iff_not]
  refine ⟨fun h=>h.elim (fun z=>z.1) fun e=>e ▸ hd,fun h=>?_⟩
  by_cases e:x=p
  ·exact .inr e
  ·exact .inl ⟨h,e⟩
 | tie n a b c =>
  have m:n∈(insT (mkT n a b c) ts).map Tie.nm:=List.mem_map.mpr ⟨mkT n a b c,mem_insT.mpr (.inr rfl),rfl⟩
  refine ⟨m,rfl,?_⟩
  have ok3:=bH (d:=.unt n) ok2 m
  refine gC ok3.names ok.names fun x=>?_
  show x∈(insT (mkT n a b c) ts).filter (fun t=>!decide (t.nm=n))↔_
  rw [adM,mem_insT]
  simp only [adr,decide_eq_false_iff_not]
  refine ⟨fun ⟨h,z⟩=>h.resolve_right fun e=>z (by rw [e]; rfl),fun h=>⟨.inl h,fun e=>hd.2.2.2.2.1 (e ▸ abt h)⟩⟩
 | unt n =>
  obtain ⟨h1,h2⟩:=ht n rfl
  have T:=ok.tie t h1
  have m:DOk ps (ts.filter fun t=>!decide (t.nm=n)) (.tie t.nm t.oth t.one t.cost):=⟨T.nm,T.oth,T.one,fun e=>jP T.lt e.symm,fun h=>by
   obtain ⟨u,hu,e⟩:=List.mem_map.mp h
   have:=(List.mem_filter.mp hu).2
   rw [e,h2] at this
   simp at this,T.lo,T.hi⟩
  refine ⟨m,rfl,?_⟩
  have ok3:=bH (d:=.tie t.nm t.oth t.one t.cost) ok2 m
  refine gC ok3.names ok.names fun x=>?_
  show x∈insT (mkT t.nm t.oth t.one t.cost) (ts.filter fun t=>!decide (t.nm=n))↔_
  rw [uO T.lt,mem_insT,adM]
  simp only [adr,decide_eq_false_iff_not]
  refine ⟨fun h=>h.elim (fun z=>z.1) fun e=>e ▸ h1,fun h=>?_⟩
  by_cases e:x.nm=n
  ·exact .inr (mY (aW ok) h h1 (e.trans h2.symm))
  ·exact .inl ⟨h,e⟩
 | cos n c =>
  obtain ⟨h1,h2⟩:=ht n rfl
  have T:=ok.tie t h1
  have e1:(chgT ts (.cos n c)).map Tie.nm=ts.map Tie.nm:=by
   show (ts.map fun t=>if t.nm=n then { t with cost:=c } else t).map Tie.nm=_
   rw [aaJ]
   exact aa7 fun u _=>by show Tie.nm (if u.nm=n then _ else _)=_; split <;> rfl
  refine ⟨⟨by rw [e1]; exact abt h1,T.lo,T.hi⟩,rfl,?_⟩
  show (ts.map fun t=>if t.nm=n then { t with cost:=c } else t).map (fun u=>if u.nm=t.nm then { u with cost:=t.cost } else u)=ts
  rw [aaJ]
  refine (aa7 (g:=id) fun u hu=>?_).trans (List.map_id _)
  show (if (if u.nm=n then ({ u with cost:=c }:Tie) else u).nm=t.nm then _ else _)=u
  by_cases e:u.nm=n
  ·have:=mY (aW ok) hu h1 (e.trans h2.symm)
   subst this
   rw [if_pos e,if_pos rfl]
   dsimp only
   rw [if_pos e]
  ·rw [if_neg e,if_neg (by rw [h2]; exact e)]
theorem rS {ps:List Str} {ts:List Tie} {n1 a1 b1 n2 a2 b2:Str} {c1 c2:Int} (ok:NetOk ps ts) (h1:DOk ps ts (.tie n1 a1 b1 c1)) (h2:DOk ps (chgT ts (.tie n1 a1 b1 c1)) (.tie n2 a2 b2 c2)) :
  DOk ps ts (.tie n2 a2 b2 c2)/\DOk ps (chgT ts (.tie n2 a2 b2 c2)) (.tie n1 a1 b1 c1)/\chgT (chgT ts (.tie n1 a1 b1 c1)) (.tie n2 a2 b2 c2)=chgT (chgT ts (.tie n2 a2 b2 c2)) (.tie n1 a1 b1 c1):=by
 obtain ⟨w1,w2,w3,w4,w5,w6⟩:=h2
 have w5':n2∉(insT (mkT n1 a1 b1 c1) ts).map Tie.nm:=w5
 have q1:n2∉ts.map Tie.nm:=fun h=>w5' (by
  obtain ⟨u,hu,e⟩:=List.mem_map.mp h
  exact List.mem_map.mpr ⟨u,mem_insT.mpr (.inl hu),e⟩)
 have ne:n2≠n1:=fun e=>w5' (List.mem_map.mpr ⟨mkT n1 a1 b1 c1,mem_insT.mpr (.inr rfl),e.symm⟩)
 have d2:DOk ps ts (.tie n2 a2 b2 c2):=⟨w1,w2,w3,w4,q1,w6⟩
 have d1:DOk ps (chgT ts (.tie n2 a2 b2 c2)) (.tie n1 a1 b1 c1):=by
  obtain ⟨z1,z2,z3,z4,z5,z6⟩:=h1
  refine ⟨z1,z2,z3,z4,fun h=>?_,z6⟩
  obtain ⟨u,hu,e⟩:=List.mem_map.mp h
  rcases mem_insT.mp hu with z | z
  ·exact z5 (List.mem_map.mpr ⟨u,z,e⟩)
  ·rw [z] at e; exact ne e
 refine ⟨d2,d1,?_⟩
 have o1:=bH (d:=.tie n2 a2 b2 c2) (bH ok h1) ⟨w1,w2,w3,w4,w5,w6⟩
 have o2:=bH (bH ok d2) d1
 refine gC o1.names o2.names fun x=>?_
 show x∈insT _ (insT _ ts)↔x∈insT _ (insT _ ts)
 rw [mem_insT,mem_insT,mem_insT,mem_insT]
 constructor
 ·rintro ((h | h) | h)
  ·exact .inl (.inl h)
  ·exact .inr h
  ·exact .inl (.inr h)
 ·rintro ((h | h) | h)
  ·exact .inl (.inl h)
  ·exact .inr h
  ·exact .inl (.inr h)
theorem xk {ps:List Str} {ts:List Tie} {d:Deed} (hd:DOk ps ts d) (hc:∀ n c,d≠.cos n c):¬ (chgP ps d=ps/\chgT ts d=ts):=fun ⟨e1,e2⟩=>by
 cases d with
 | pla p =>
  have:p∈insS p ps:=mem_insS.mpr (.inr rfl)
  rw [show insS p ps=ps from e1] at this
  exact hd.2 this
 | lea p =>
  have hd:p∈ps:=hd
  rw [<- e1] at hd
  simpa using (List.mem_filter.mp hd).2
 | tie n a b c =>
  have:mkT n a b c∈insT (mkT n a b c) ts:=mem_insT.mpr (.inr rfl)
  rw [show insT (mkT n a b c) ts=ts from e2] at this
  exact hd.2.2.2.2.1 (List.mem_map.mpr ⟨_,this,rfl⟩)
 | unt n =>
  have hd:n∈ts.map Tie.nm:=hd
  rw [<- e2] at hd
  obtain ⟨u,hu,e⟩:=List.mem_map.mp hd
  have:=(List.mem_filter.mp hu).2
  rw [e] at this
  simp at this
 | cos n c=>exact hc n c rfl
end Pre
namespace Pre
open PySem L2 Q
noncomputable def opn (ps:List Str) (t:Tie):Bool:=decide (t.one∈ps) && decide (t.oth∈ps)
theorem opn_iff {ps:List Str} {t:Tie}:opn ps t=true↔t.one∈ps/\t.oth∈ps:=by unfold opn; simp
noncomputable def ia (ps:List Str) (ts:List Tie):List Str:=(ts.filter (opn ps)).map Tie.nm
noncomputable def fu:Fd:=fun xs P=>∃ (ps:List Str) (ts:List Tie) (t:Tie),xs=[netPV ps ts,tiePV t]/\P (.bl (opn ps t))
noncomputable def dG:Fd:=fun xs P=>∃ (ps:List Str) (ts:List Tie),xs=[netPV ps ts]/\ts.length<=1000/\P (.tup ((ia ps ts).map .str))
noncomputable def labPV (ps:List Str) (L:Str->Str):PV:=.dic (ps.map fun p=>(aaG p,.str (L p)))
section
variable {ps:List Str}
noncomputable def chp (t u:Tie):Prop:=t.cost<u.cost\/(t.cost=u.cost/\ltS t.nm u.nm)
theorem vA (t:Tie):¬ chp t t:=by
 rintro (h | ⟨_,h⟩)
 ·omega
 ·exact ib _ h
theorem xj {t u v:Tie} (h:chp t u) (k:chp u v):chp t v:=by
 rcases h with h | ⟨h1,h2⟩ <;> rcases k with k | ⟨k1,k2⟩
 ·exact .inl (by omega)
 ·exact .inl (by omega)
 ·exact .inl (by omega)
 ·exact .inr ⟨by omega,fG h2 k2⟩
instance (t u:Tie):Decidable (chp t u):=inferInstanceAs (Decidable (t.cost<u.cost\/(t.cost=u.cost/\ltS t.nm u.nm)))
end
theorem eB {α:Type} {g:WG} {fk ff:WE} {js:List (Option Nat)} {P:PV->En->Prop} {env:En} (f:α->Str) (v:α->PV) (X:α->PV):∀ {l done:List α},((done++l).map f).Nodup ->
  (∀ a∈l,∀ R:PV->PV->En->Prop,R (.str (f a)) (v a) env->g (X a) (capE js env) fun b1=>fk b1 fun kk b3=>ff b3 fun y b4=>R kk y (backE js env b4))->done.length+l.length<=100000 ->
  P (.dic ((done++l).map fun x=>((aaG (f x):Key),v x))) env->dcGo g tYs fk ff js P (l.map X) env (done.map fun x=>((aaG (f x):Key),v x))
 | [],done,_,_,_,k=>by rw [aby] at k; exact k
 | a::l,done,nd,h,hl,k=>by
  have hl':done.length+l.length+1<=100000:=by simpa [acW] using hl
  rw [aao]
  simp only [dcGo,tYs,if_true]
  refine h a (by simp) (fun kk y e=>(done.map fun x=>((aaG (f x):Key),v x)).length<=100000/\opt (keyP kk) fun key=>dcGo g tYs fk ff js P (l.map X) e (putP (done.map fun x=>((aaG (f x):Key),v x)) key y)) ⟨by rw [aae]; omega,aa (z:=aaG (f a)) rfl ?_⟩
  have hn:f a∉done.map f:=fun z=>by
   rw [aa4,ack] at nd
   exact nd.2.2 _ z _ (by simp) rfl
  rw [sg hn]
  have e:(done.map fun x=>((aaG (f x):Key),v x))++[(aaG (f a),v a)]=(done++[a]).map fun x=>((aaG (f x):Key),v x):=by rw [aa4]; rfl
  rw [e]
  refine eB f v X (by rwa [adp]) (fun b hb=>h b (aav _ hb)) (by simp; omega) ?_
  rw [adp]; exact k
end Pre
namespace Pre
open PySem L2 Q
noncomputable def Tr:Nat->PV->Prop
 | 0,_=>False
 | d+1,x=>(∃ s,x=.str s)\/(∃ n,x=.int n)\/∃ l,x=.tup l/\l.length<=1000/\∀ y∈l,Tr d y
noncomputable def be:Fd:=fun xs P=>∃ (ps:List Str) (ts:List Tie),xs=[netPV ps ts]/\ts.length<=1000/\(ts.map Tie.nm).Nodup/\P (.dic (ts.map fun t=>(aaG t.nm,tiePV t)))
noncomputable def bj:Fd:=fun xs P=>∃ (a b:Str) (c:Int),xs=[.tup [.str a,.str b,.int c]]/\IsWord a/\IsWord b/\a≠b/\P (.bl true)
noncomputable def DW:Deed->Prop
 | .pla p=>IsWord p
 | .lea p=>IsWord p
 | .tie n a b _=>IsWord n/\IsWord a/\IsWord b/\a≠b
 | .unt n=>IsWord n
 | .cos n _=>IsWord n
noncomputable def fx:Fd:=fun xs P=>∃ d:Deed,xs=[deedPV d]/\DW d/\P (.bl true)
noncomputable def bZ:Fd:=fun xs P=>∃ (ps:List Str) (ts:List Tie) (p:Str),xs=[netPV ps ts,deedPV (.pla p)]/\NetS ps ts/\DOk ps ts (.pla p)/\P (netPV (insS p ps) ts)
noncomputable def bV:Fd:=fun xs P=>∃ (ps:List Str) (ts:List Tie) (p:Str),xs=[netPV ps ts,deedPV (.lea p)]/\NetS ps ts/\DOk ps ts (.lea p)/\P (netPV (chgP ps (.lea p)) ts)
noncomputable def cq:Fd:=fun xs P=>∃ (ps:List Str) (ts:List Tie) (n a b:Str) (c:Int),xs=[netPV ps ts,deedPV (.tie n a b c)]/\NetS ps ts/\DOk ps ts (.tie n a b c)/\P (netPV ps (insT (mkT n a b c) ts))
noncomputable def cW:Fd:=fun xs P=>∃ (ps:List Str) (ts:List Tie) (n:Str),xs=[netPV ps ts,deedPV (.unt n)]/\NetS ps ts/\DOk ps ts (.unt n)/\P (netPV ps (chgT ts (.unt n)))
noncomputable def cp:Fd:=fun xs P=>∃ (ps:List Str) (ts:List Tie) (n:Str) (c:Int),xs=[netPV ps ts,deedPV (.cos n c)]/\NetS ps ts/\DOk ps ts (.cos n c)/\P (netPV ps (chgT ts (.cos n c)))
noncomputable def aV:Fd:=fun xs P=>∃ (ps:List Str) (ts:List Tie) (d:Deed),xs=[netPV ps ts,deedPV d]/\NetS ps ts/\DOk ps ts d/\P (netPV (chgP ps d) (chgT ts d))
noncomputable def eG:FdO:=fun c xs P=>c=.non/\∃ ys:List PV,(xs=[.lst ys]\/xs=[.tup ys])/\ys≠[]/\ys.length<=1000/\∀ y∈ys,P y .non
noncomputable def fg:FdO:=fun c xs P=>c=.non/\∃ tk:List Str,(xs=[.lst (tk.map .str)]\/xs=[.tup (tk.map .str)])/\tk.length<=30/\∀ x:Str,IsWord x->x∉tk->P (.str x) .non
noncomputable def cj:FdO:=fun c xs P=>c=.non/\∃ (ps:List Str) (ts:List Tie) (far:List Str),xs=[netPV ps ts,.lst (far.map .str)]/\NetOk ps ts/\ps.length<=12/\ts.length<30/\far.length<=60/\far.Nodup/\(∀ x∈far,IsWord x/\x∉ps) /\
 ∀ (n a b:Str) (c:Int),DOk ps ts (.tie n a b c)->P (deedPV (.tie n a b c)) .non
noncomputable def jv:FdO:=fun c xs P=>c=.non/\∃ (ps:List Str) (ts:List Tie),xs=[netPV ps ts]/\NetOk ps ts/\ps.length<=12/\ts.length<=30/\∀ d:Deed,DOk ps ts d->(chgP ps d).length<=12->(chgT ts d).length<=30->P (deedPV d) .non
end Pre
namespace Pre
open PySem L2 Q
noncomputable abbrev lamq:Str := "cheaper_first.<locals>.<lambda>"
noncomputable abbrev tabT (T:Addr):PV:=tabPV lamq lamL lamC T
noncomputable def wrStep (s:(Str->Str)×List Str) (t:Tie):(Str->Str)×List Str:=if s.1 t.one=s.1 t.oth then s else (fun p=>if s.1 p=s.1 t.oth then s.1 t.one else s.1 p,s.2++[t.nm])
noncomputable def wr (vs:List Tie):(Str->Str)×List Str:=vs.foldl wrStep (id,[])
theorem qa:∀ (vs:List Tie) (s:(Str->Str)×List Str),∃ l,l.Sublist (vs.map Tie.nm)/\(vs.foldl wrStep s).2=s.2++l
 | [],s=>⟨[],.slnil,by simp⟩
 | t::vs,s=>by
  obtain ⟨l,h1,h2⟩:=qa vs (wrStep s t)
  by_cases e:s.1 t.one=s.1 t.oth
  ·refine ⟨l,h1.cons _,?_⟩
   rw [adN,h2]
   unfold wrStep; rw [if_pos e]
  ·refine ⟨t.nm::l,h1.cons₂ _,?_⟩
   rw [adN,h2]
   unfold wrStep; rw [if_neg e]; simp
theorem mn {vs:List Tie} (h:(vs.map Tie.nm).Nodup):(wr vs).2.Nodup/\(wr vs).2.length<=vs.length:=by
 obtain ⟨l,h1,h2⟩:=qa vs (id,[])
 have e:(wr vs).2=l:=by unfold wr; rw [h2]; rfl
 rw [e]
 exact ⟨h1.nodup h,by have:=h1.length_le; rwa [aae] at this⟩
theorem tT (vs:List Tie) (t:Tie):wr (vs++[t])=wrStep (wr vs) t:=by unfold wr; rw [List.foldl_append]; rfl
theorem nA:∀ {a b:List Tie},a.Perm b->a.Pairwise chp->b.Pairwise chp->a=b
 | [],b,p,_,_=>(List.nil_perm.mp p).symm
 | x::a,[],p,_,_=>by have:=p.length_eq; simp at this
 | x::a,y::b,p,ha,hb=>by
  have e:x=y:=abR fun ne=>by
   rw [adb] at ha hb
   have h1:x∈b:=by
    rcases List.mem_cons.mp (p.mem_iff.mp aat) with z | z
    ·exact absurd z ne
    ·exact z
   have h2:y∈a:=by
    rcases List.mem_cons.mp (p.mem_iff.mpr aat) with z | z
    ·exact absurd z.symm ne
    ·exact z
   exact vA _ (xj (ha.1 y h2) (hb.1 x h1))
  subst e
  rw [nA (afh _ |>.mp p) (List.pairwise_cons.mp ha).2 (List.pairwise_cons.mp hb).2]
noncomputable def ChpOf (ps:List Str) (ts:List Tie) (gs:List Str):Prop:=∃ vs:List Tie,vs.Perm (ts.filter (opn ps))/\vs.Pairwise chp/\gs.Perm (wr vs).2/\gs.Pairwise ltS
theorem ChpOf.uniq {ps:List Str} {ts:List Tie} {a b:List Str} (x:ChpOf ps ts a) (y:ChpOf ps ts b):a=b:=by
 obtain ⟨v,p1,p2,p3,p4⟩:=x
 obtain ⟨u,q1,q2,q3,q4⟩:=y
 obtain rfl:=nA (p1.trans q1.symm) p2 q2
 exact hV (p3.trans q3.symm) p4 q4
open Classical in
noncomputable def cheap (ps:List Str) (ts:List Tie):List Str:=if h:∃ gs,ChpOf ps ts gs then Classical.choose h else []
theorem tE {ps:List Str} {ts:List Tie} {gs:List Str} (h:ChpOf ps ts gs):gs=cheap ps ts:=by
 unfold cheap
 rw [dif_pos ⟨gs,h⟩]
 exact h.uniq (Classical.choose_spec (⟨gs,h⟩:∃ gs,ChpOf ps ts gs))
theorem dC (ps:List Str) (ts:List Tie) (hn:(ts.map Tie.nm).Nodup):(cheap ps ts).length<=ts.length:=by
 unfold cheap
 split
 ·rename_i h
  obtain ⟨vs,p1,p2,p3,p4⟩:=Classical.choose_spec h
  rw [p3.length_eq]
  have hv:(vs.map Tie.nm).Nodup:=(p1.map Tie.nm).nodup_iff.mpr (hn.sublist (List.filter_sublist.map _))
  have:=(mn hv).2
  rw [p1.length_eq] at this
  exact aa1 this (aa5 _ _)
 ·exact abl _
noncomputable def g5:Fd:=fun xs P=>∃ (ps:List Str) (ts:List Tie),xs=[netPV ps ts]/\ts.length<=1000/\(ts.map Tie.nm).Nodup/\P (.dic (ts.map fun t=>(aaG t.nm,.tup [.int t.cost,.str t.nm])))
noncomputable def cf (T:Addr):FdO:=fun c xs P=>c=tabT T/\∃ (ps:List Str) (ts us:List Tie),xs=[netPV ps ts,.tup ((us.map Tie.nm).map .str)]/\ts.length<=1000/\(ts.map Tie.nm).Nodup/\us.length<64/\(us.map Tie.nm).Nodup/\(∀ u∈us,u∈ts) /\
 ∀ vs:List Tie,vs.Perm us->vs.Pairwise chp->P (.lst ((vs.map Tie.nm).map .str)) (tabT T)
noncomputable def ce:Fd:=fun xs P=>∃ (ps:List Str) (ts vs:List Tie),xs=[netPV ps ts,.lst ((vs.map Tie.nm).map .str)]/\NetOk ps ts/\ps.length<=60/\ts.length<=60/\vs.Perm (ts.filter (opn ps))/\vs.Pairwise chp/\P (.tup ((cheap ps ts).map .str))
noncomputable def bI (T:Addr):FdO:=fun c xs P=>c=tabT T/\∃ (ps:List Str) (ts:List Tie),xs=[netPV ps ts]/\NetOk ps ts/\ps.length<=60/\ts.length<=60/\P (.tup ((cheap ps ts).map .str)) (tabT T)
noncomputable def btw (as bs:List Str):PV:=.tup [.tup ((as.filter fun a=>!decide (a∈bs)).map .str),.tup ((bs.filter fun b=>!decide (b∈as)).map .str)]
noncomputable def fy:Fd:=fun xs P=>∃ as bs:List Str,xs=[.tup (as.map .str),.tup (bs.map .str)]/\as.length<=1000/\bs.length<=1000/\P (btw as bs)
noncomputable def cY (T:Addr):FdO:=fun c xs P=>c=tabT T/\∃ (ps:List Str) (ts:List Tie) (d:Deed),xs=[netPV ps ts,deedPV d]/\NetS ps ts/\DOk ps ts d/\NetS (chgP ps d) (chgT ts d)/\P (btw (cheap ps ts) (cheap (chgP ps d) (chgT ts d))) (tabT T)
noncomputable def cv:Fd:=fun xs P=>∃ (ps:List Str) (ts:List Tie) (d:Deed),xs=[netPV ps ts,deedPV d]/\NetS ps ts/\DOk ps ts d/\∀ t,(∀ n,dnm d=some n->t∈ts/\t.nm=n)->P (deedPV (backOf t d))
noncomputable def cw (T:Addr):FdOT:=fun c d xs P=>c=.non/\d=tabT T/\∃ (ps:List Str) (ts:List Tie),xs=[netPV ps ts]/\NetOk ps ts/\ps.length<=12/\ts.length<=30/\P (.bl true) .non (tabT T)
end Pre
namespace Pre
open PySem L2 Q
noncomputable def di:WS :=
  (sSeq (sIf (tOr (tNot (tTru (eIsi "str" (eVW 0)))) (tNot (tBool (eChain lePV lePV (eC (.int 1)) (eCB lenPV (a1 (eVW 0))) (eC (.int 8)))))) (sRet (eC (.bl false))) sNil)
  (sRet (eCB allPV (aCons (eLC (iStrP (eV 0)) (.nm 0) tYs (eChain lePV lePV (eC (.str "a")) (eV 0) (eC (.str "z"))) [none]) aNil))))
noncomputable def cG:WS :=
  (sRet (eAnd (eIsi "int" (eVW 0)) (eNot (eIsi "bool" (eVW 0)))))
noncomputable def dk:WS :=
  (sRet (eAnd (eOp inPV (eOp ixPV (eV 1) (eC (.int 1))) (eOp ixPV (eV 0) (eC (.int 0)))) (eOp inPV (eOp ixPV (eV 1) (eC (.int 2))) (eOp ixPV (eV 0) (eC (.int 0))))))
noncomputable def bL:WS :=
  (sRet (eDC (iS (eOp ixPV (eV 0) (eC (.int 1)))) (.nm 0) tYs (eOp ixPV (eV 0) (eC (.int 0))) (eV 0) [none]))
noncomputable def cn:WS :=
  (sRet (eCB bq (aCons (eLC (iS (eOp ixPV (eV 0) (eC (.int 1)))) (.nm 0) (tTru (eCall fu (aCons (eV 1) (aCons (eV 0) aNil)))) (eOp ixPV (eV 0) (eC (.int 0))) [none,some 0]) aNil)))
noncomputable def eJ:WS :=
  (sRet (eDC (iS (eOp ixPV (eV 0) (eC (.int 1)))) (.nm 0) tYs (eOp ixPV (eV 0) (eC (.int 0))) (eTup (aCons (eOp ixPV (eV 0) (eC (.int 3))) (aCons (eOp ixPV (eV 0) (eC (.int 0))) aNil))) [none]))
noncomputable def bh:WS :=
  (sSeq (sIf (tOr (tBool (eOp nePV (eCB lenPV (a1 (eVW 0))) (eC (.int 3)))) (tOr (tNot (tTru (eCall bD (aCons (eOp ixPV (eV 0) (eC (.int 0))) aNil)))) (tNot (tTru (eCall bD (aCons (eOp ixPV (eV 0) (eC (.int 1))) aNil)))))) (sRet (eC (.bl false))) sNil)
  (sRet (eAnd (eOp nePV (eOp ixPV (eV 0) (eC (.int 0))) (eOp ixPV (eV 0) (eC (.int 1)))) (eCall cX (aCons (eOp ixPV (eV 0) (eC (.int 2))) aNil)))))
noncomputable def cg:WS :=
  (sSeq (sIf (tOr (tNot (tTru (eIsi "tuple" (eVW 0)))) (tOr (tBool (eOp ltPV (eCB lenPV (a1 (eVW 0))) (eC (.int 2)))) (tOr (tNot (tTru (eCall bD (aCons (eOp ixPV (eV 0) (eC (.int 0))) aNil)))) (tNot (tTru (eCall bD (aCons (eOp ixPV (eV 0) (eC (.int 1))) aNil))))))) (sRet (eC (.bl false))) sNil)
  (sSeq (sSet 1 (eSl (eV 0) (oSome (eC (.int 2))) oNone))
  (sSeq (sIf (tBool (eOp eqqPV (eOp ixPV (eV 0) (eC (.int 0))) (eC (.str "tie")))) (sRet (eCall bj (aCons (eV 1) aNil))) sNil)
  (sSeq (sIf (tBool (eOp eqqPV (eOp ixPV (eV 0) (eC (.int 0))) (eC (.str "cost")))) (sRet (eAnd (eOp eqqPV (eCB lenPV (a1 (eVW 1))) (eC (.int 1))) (eCall cX (aCons (eOp ixPV (eV 1) (eC (.int 0))) aNil)))) sNil)
  (sRet (eAnd (eOp inPV (eOp ixPV (eV 0) (eC (.int 0))) (eTup (aCons (eC (.str "place")) (aCons (eC (.str "leave")) (aCons (eC (.str "untie")) aNil))))) (eOp eqqPV (eCB lenPV (a1 (eVW 1))) (eC (.int 0)))))))))
noncomputable def bX:WS :=
  (sSeq (sSet 2 (eOp ixPV (eV 1) (eC (.int 1))))
  (sSeq (sIf (tBool (eOp inPV (eV 2) (eOp ixPV (eV 0) (eC (.int 0))))) sBot sNil)
  (sRet (eTup (aCons (eCB bq (aCons (eSortT (aCons (eOp addPV (eOp ixPV (eV 0) (eC (.int 0))) (eTup (aCons (eV 2) aNil))) aNil)) aNil)) (aCons (eOp ixPV (eV 0) (eC (.int 1))) aNil))))))
noncomputable def bM:WS :=
  (sSeq (sSet 2 (eOp ixPV (eV 1) (eC (.int 1))))
  (sSeq (sIf (tBool (eOp ninPV (eV 2) (eOp ixPV (eV 0) (eC (.int 0))))) sBot sNil)
  (sRet (eTup (aCons (eCB bq (aCons (eLC (iS (eOp ixPV (eV 0) (eC (.int 0)))) (.nm 0) (tBool (eOp nePV (eV 0) (eVW 1))) (eV 0) [none,some 2]) aNil)) (aCons (eOp ixPV (eV 0) (eC (.int 1))) aNil))))))
noncomputable def cm:WS :=
  (sSeq (sAsg (eSl (eV 1) (oSome (eC (.int 1))) oNone) (gT (gsCons (gN 2) (gsCons (gN 3) (gsCons (gN 4) (gsCons (gN 5) gsNil))))))
  (sSeq (sIf (tBool (eOp inPV (eV 2) (eCall be (aCons (eV 0) aNil)))) sBot sNil)
  (sSeq (sSet 6 (eTup (aCons (eV 2) (aCons (eCB minPV (aCons (eV 3) (aCons (eV 4) aNil))) (aCons (eCB maxPV (aCons (eV 3) (aCons (eV 4) aNil))) (aCons (eV 5) aNil))))))
  (sRet (eTup (aCons (eOp ixPV (eV 0) (eC (.int 0))) (aCons (eCB bq (aCons (kW (aCons (eOp addPV (eOp ixPV (eV 0) (eC (.int 1))) (eTup (aCons (eV 6) aNil))) aNil)) aNil)) aNil)))))))
noncomputable def cF:WS :=
  (sSeq (sSet 2 (eOp ixPV (eV 1) (eC (.int 1))))
  (sSeq (sIf (tBool (eOp ninPV (eV 2) (eCall be (aCons (eV 0) aNil)))) sBot sNil)
  (sRet (eTup (aCons (eOp ixPV (eV 0) (eC (.int 0))) (aCons (eCB bq (aCons (eLC (iS (eOp ixPV (eV 0) (eC (.int 1)))) (.nm 0) (tBool (eOp nePV (eOp ixPV (eV 0) (eC (.int 0))) (eVW 1))) (eV 0) [none,some 2]) aNil)) aNil))))))
noncomputable def ck:WS :=
  (sSeq (sAsg (eSl (eV 1) (oSome (eC (.int 1))) oNone) (gT (gsCons (gN 2) (gsCons (gN 3) gsNil))))
  (sSeq (sIf (tBool (eOp ninPV (eV 2) (eCall be (aCons (eV 0) aNil)))) sBot sNil)
  (sRet (eTup (aCons (eOp ixPV (eV 0) (eC (.int 0))) (aCons (eCB bq (aCons (eLC (iS (eOp ixPV (eV 0) (eC (.int 1)))) (.nm 0) tYs (eIf (tBool (eOp eqqPV (eOp ixPV (eV 0) (eC (.int 0))) (eVW 1))) (eOp addPV (eSl (eV 0) oNone (oSome (eC (.int 3)))) (eTup (aCons (eV 2) aNil))) (eV 0)) [none,some 2,some 3]) aNil)) aNil))))))
noncomputable def dl:WS :=
  (sSeq (sIf (tNot (tTru (eCall fx (aCons (eV 1) aNil)))) sBot sNil)
  (sDisp 2 [("place",bZ),("leave",bV),("tie",cq),("untie",cW),("cost",cp)] (eOp ixPV (eV 1) (eC (.int 0))) (aCons (eV 0) (aCons (eV 1) aNil))))
noncomputable def bF (T:Addr):WS :=
  (sSeq (sSet 2 (eCall g5 (aCons (eV 0) aNil)))
  (sRet (eSortK 3 2 "cheaper_first.<locals>.<lambda>" 77 29 T (eV 1))))
noncomputable def bE:WS :=
  (sSeq (sSet 2 (eCall be (aCons (eV 0) aNil)))
  (sSeq (sSetO 3 (eDC (iS (eOp ixPV (eV 0) (eC (.int 0)))) (.nm 0) tYs (eV 0) (eV 0) [none]))
  (sSeq (sSetO 4 (eLst aNil))
  (sSeq (sFor (iS (eV 1)) (gN 5) (sSeq (sSet 6 (eOp ixPV (eV 2) (eVW 5)))
  (sSeq (sAsg (eTup (aCons (eOpS ixPV 3 (eOp ixPV (eV 6) (eC (.int 1)))) (aCons (eOpS ixPV 3 (eOp ixPV (eV 6) (eC (.int 2)))) aNil))) (gT (gsCons (gN 7) (gsCons (gN 8) gsNil))))
  (sIf (tBool (eOp nePV (eV 7) (eVW 8))) (sSeq (sDrop (eLM ca 4 (aCons (eV 5) aNil)))
  (sSetO 3 (eDC (kM 3) (.tp [0,1]) tYs (eV 0) (eIf (tBool (eOp eqqPV (eV 1) (eVW 3))) (eV 2) (eV 1)) [none,none,some 7,some 8]))) sNil))))
  (sRet (eCB bq (aCons (eSortS (a1 (eVW 4))) aNil)))))))
noncomputable def cI (T:Addr):WS :=
  (sRet (eCall ce (aCons (eV 0) (aCons (eCallT (cf T) 1 (aCons (eV 0) (aCons (eCall dG (aCons (eV 0) aNil)) aNil))) aNil))))
noncomputable def dm:WS :=
  (sSeq (sSet 2 (eCB bq (aCons (eLC (iS (eV 0)) (.nm 0) (tBool (eOp ninPV (eV 0) (eVW 1))) (eV 0) [none,some 1]) aNil)))
  (sSeq (sSet 3 (eCB bq (aCons (eLC (iS (eV 1)) (.nm 0) (tBool (eOp ninPV (eV 0) (eVW 1))) (eV 0) [none,some 0]) aNil)))
  (sRet (eTup (aCons (eV 2) (aCons (eV 3) aNil))))))
noncomputable def cH (T:Addr):WS :=
  (sRet (eCall fy (aCons (eCallT (bI T) 2 (aCons (eV 0) aNil)) (aCons (eCallT (bI T) 2 (aCons (eCall aV (aCons (eV 0) (aCons (eV 1) aNil))) aNil)) aNil))))
noncomputable def eM:WS :=
  (sSeq (sSet 2 (eC (.str "abcdefghijklmnopqrstuvwxyz")))
  (sSeq (sSet 3 (eOp ixPV (eV 2) (eCallO aD 0 (aCons (eC (.int 26)) aNil))))
  (sSeq (sSet 4 (eCallO aD 0 (aCons (eC (.int 7)) aNil)))
  (sSeq (sSet 5 (eCallO aD 0 (aCons (eOp addPV (eV 4) (eC (.int 1))) aNil)))
  (sSeq (sSet 6 (eCallO aD 0 (aCons (eC (.int 26)) aNil)))
  (sSeq (sSetO 7 (eLst aNil))
  (sSeq (sFor (iR1 (aCons (eV 1) aNil)) (gN 8) (sSeq (sSet 9 (eOp addPV (eOp ixPV (eV 2) (eOp modPV (eOp addPV (eV 6) (eOp mulPV (eC (.int 5)) (eVW 8))) (eC (.int 26)))) (eOp ixPV (eV 2) (eOp modPV (eOp addPV (eV 6) (eOp divPV (eV 8) (eC (.int 26)))) (eC (.int 26))))))
  (sIf (tAnd (tBool (eOp ltPV (eV 1) (eC (.int 8)))) (tBool (eOp eqqPV (eV 4) (eC (.int 6))))) (sDrop (eLM ca 7 (aCons (eOp mulPV (eV 3) (eOp addPV (eV 8) (eC (.int 1)))) aNil))) (sDrop (eLM ca 7 (aCons (eOp addPV (eOp addPV (eOp mulPV (eV 3) (eVW 5)) (eVW 9)) (eOp mulPV (eV 3) (eOp subPV (eV 4) (eVW 5)))) aNil))))))
  (sRet (eV 7)))))))))
noncomputable def fV:WS :=
  (sSeq (sIf (tBool (eOp eqqPV (eV 1) (eC (.int 0)))) (sRet (eC (.int 5))) sNil)
  (sSeq (sIf (tBool (eOp eqqPV (eV 1) (eC (.int 1)))) (sRet (eOp subPV (eCallO aD 0 (aCons (eC (.int 3)) aNil)) (eC (.int 1)))) sNil)
  (sSeq (sIf (tBool (eOp eqqPV (eV 1) (eC (.int 2)))) (sRet (eOp subPV (eCallO aD 0 (aCons (eC (.int 200)) aNil)) (eC (.int 100)))) sNil)
  (sRet (eOp ixPV (eLst (aCons (eOp subPV (eOp powPV (eC (.int 10)) (eC (.int 30))) (eC (.int 1))) (aCons (eOp subPV (eC (.int 1)) (eOp powPV (eC (.int 10)) (eC (.int 30)))) (aCons (eC (.int 0)) (aCons (eCallO aD 0 (aCons (eOp powPV (eC (.int 10)) (eC (.int 9))) aNil)) aNil))))) (eCallO aD 0 (aCons (eC (.int 4)) aNil)))))))
noncomputable def fT:WS :=
  (sSeq (sIf (tBool (eOp eqqPV (eV 1) (eC (.int 2)))) (sRet (eTup (aCons (eOp modPV (eV 3) (eVW 2)) (aCons (eOp modPV (eOp addPV (eV 3) (eC (.int 1))) (eVW 2)) aNil)))) sNil)
  (sSeq (sIf (tBool (eOp eqqPV (eV 1) (eC (.int 3)))) (sRet (eTup (aCons (eC (.int 0)) (aCons (eOp addPV (eC (.int 1)) (eCallO aD 0 (aCons (eOp subPV (eV 2) (eC (.int 1))) aNil))) aNil)))) sNil)
  (sSeq (sIf (tAnd (tBool (eOp eqqPV (eV 1) (eC (.int 4)))) (tBool (eOp gtPV (eV 2) (eC (.int 3))))) (sSeq (sSet 4 (eOp divPV (eV 2) (eC (.int 2))))
  (sSeq (sSet 5 (eCallO aD 0 (aCons (eC (.int 2)) aNil)))
  (sSeq (sSet 6 (eCallO aD 0 (aCons (eV 4) aNil)))
  (sRet (eTup (aCons (eOp addPV (eOp mulPV (eV 5) (eVW 4)) (eVW 6)) (aCons (eOp addPV (eOp mulPV (eV 5) (eVW 4)) (eOp modPV (eOp addPV (eOp addPV (eV 6) (eC (.int 1))) (eCallO aD 0 (aCons (eOp subPV (eV 4) (eC (.int 1))) aNil))) (eVW 4))) aNil))))))) sNil)
  (sSeq (sSet 6 (eCallO aD 0 (aCons (eV 2) aNil)))
  (sRet (eTup (aCons (eV 6) (aCons (eOp modPV (eOp addPV (eOp addPV (eV 6) (eC (.int 1))) (eCallO aD 0 (aCons (eOp subPV (eV 2) (eC (.int 1))) aNil))) (eVW 2)) aNil))))))))
noncomputable def g6:WS :=
  (sSeq (sSet 3 (eCallO aD 0 (aCons (eOp addPV (eV 1) (eC (.int 1))) aNil)))
  (sSeq (sSet 4 (eCallO cE 0 (aCons (eOp addPV (eV 3) (eC (.int 2))) aNil)))
  (sSeq (sSet 5 (eSl (eV 4) oNone (oSome (eCB maxPV (aCons (eC (.int 2)) (aCons (eOp addPV (eV 3) (eCallO aD 0 (aCons (eC (.int 3)) aNil))) aNil))))))
  (sSeq (sSet 6 (eCallO aD 0 (aCons (eOp addPV (eV 2) (eC (.int 1))) aNil)))
  (sSeq (sSet 7 (eCallO cE 0 (aCons (eV 6) aNil)))
  (sSeq (sPar 8 9 (aCons (eCallO aD 0 (aCons (eC (.int 5)) aNil)) (aCons (eCallO aD 0 (aCons (eC (.int 4)) aNil)) aNil)))
  (sSeq (sSetO 10 (eLst aNil))
  (sSeq (sFor (iR1 (aCons (eV 6) aNil)) (gN 11) (sSeq (sAsg (eCallO ju 0 (aCons (eV 8) (aCons (eCB lenPV (a1 (eVW 5))) (aCons (eV 11) aNil)))) (gT (gsCons (gN 12) (gsCons (gN 13) gsNil))))
  (sSeq (sSet 14 (eSortS (aCons (eLst (aCons (eOp ixPV (eV 5) (eVW 12)) (aCons (eOp ixPV (eV 5) (eVW 13)) aNil))) aNil)))
  (sDrop (eLM ca 10 (aCons (eTup (aCons (eOp ixPV (eV 7) (eVW 11)) (aCons (eOp ixPV (eV 14) (eC (.int 0))) (aCons (eOp ixPV (eV 14) (eC (.int 1))) (aCons (eCallO eH 0 (aCons (eV 9) aNil)) aNil))))) aNil))))))
  (sRet (eTup (aCons (eCB bq (aCons (eSortS (aCons (eSl (eV 4) oNone (oSome (eVW 3))) aNil)) aNil)) (aCons (eCB bq (aCons (eSortR (a1 (eVW 10))) aNil)) aNil))))))))))))
noncomputable def jz:WS :=
  (sRet (eOp ixPV (eV 1) (eCallO aD 0 (aCons (eCB lenPV (a1 (eVW 1))) aNil))))
noncomputable def eN:WS :=
  (sRet (eOp ixPV (eLC (iS (eCallO cE 0 (aCons (eC (.int 31)) aNil))) (.nm 0) (tBool (eOp ninPV (eV 0) (eVW 1))) (eV 0) [none,some 1]) (eC (.int 0))))
noncomputable def dn:WS :=
  (sSeq (sSet 3 (eOp addPV (eCB listPV (aCons (eOp ixPV (eV 1) (eC (.int 0))) aNil)) (eVW 2)))
  (sSeq (sIf (tOr (tBool (eOp ltPV (eCB lenPV (a1 (eVW 3))) (eC (.int 2)))) (tBool (eOp eqqPV (eCallO aD 0 (aCons (eC (.int 8)) aNil)) (eC (.int 0))))) (sSet 3 (eOp addPV (eV 3) (eSl (eLC (iS (eCallO cE 0 (aCons (eC (.int 14)) aNil))) (.nm 0) (tBool (eOp ninPV (eV 0) (eVW 1))) (eV 0) [none,some 3]) oNone (oSome (eC (.int 2)))))) sNil)
  (sSeq (sSet 4 (eCallO aD 0 (aCons (eCB lenPV (a1 (eVW 3))) aNil)))
  (sSeq (sSet 5 (eOp ixPV (eV 3) (eOp modPV (eOp addPV (eOp addPV (eV 4) (eC (.int 1))) (eCallO aD 0 (aCons (eOp subPV (eCB lenPV (a1 (eVW 3))) (eC (.int 1))) aNil))) (eCB lenPV (a1 (eVW 3))))))
  (sSeq (sSet 6 (eCallO fg 0 (aCons (eLC (iS (eOp ixPV (eV 1) (eC (.int 1)))) (.nm 0) tYs (eOp ixPV (eV 0) (eC (.int 0))) [none]) aNil)))
  (sRet (eTup (aCons (eC (.str "tie")) (aCons (eV 6) (aCons (eOp ixPV (eV 3) (eVW 4)) (aCons (eV 5) (aCons (eCallO eH 0 (aCons (eCallO aD 0 (aCons (eC (.int 4)) aNil)) aNil)) aNil))))))))))))
noncomputable def fU:WS :=
  (sSeq (sSet 2 (eLC (iS (eOp ixPV (eV 1) (eC (.int 1)))) (.nm 0) tYs (eOp ixPV (eV 0) (eC (.int 0))) [none]))
  (sSeq (sSet 3 (jt (aCons (eOp addPV (eLC (iS (eOp ixPV (eV 1) (eC (.int 1)))) (.nm 0) tYs (eOp ixPV (eV 0) (eC (.int 1))) [none]) (eLC (iS (eOp ixPV (eV 1) (eC (.int 1)))) (.nm 0) tYs (eOp ixPV (eV 0) (eC (.int 2))) [none])) aNil)))
  (sSeq (sSet 4 (eLC (iS (eV 3)) (.nm 0) (tBool (eOp ninPV (eV 0) (eOp ixPV (eV 1) (eC (.int 0))))) (eV 0) [none,some 1]))
  (sSeq (sSet 5 (eCallO aD 0 (aCons (eC (.int 7)) aNil)))
  (sSeq (sIf (tAnd (tBool (eOp eqqPV (eV 5) (eC (.int 0)))) (tBool (eOp ltPV (eCB lenPV (aCons (eOp ixPV (eV 1) (eC (.int 0))) aNil)) (eC (.int 12))))) (sSeq (sIf (tAnd (tBool (eOp nePV (eV 4) (eLst aNil))) (tBool (eOp gtPV (eCallO aD 0 (aCons (eC (.int 4)) aNil)) (eC (.int 0))))) (sRet (eTup (aCons (eC (.str "place")) (aCons (eCallO eG 0 (aCons (eV 4) aNil)) aNil)))) sNil)
  (sRet (eTup (aCons (eC (.str "place")) (aCons (eCallO fg 0 (aCons (eOp ixPV (eV 1) (eC (.int 0))) aNil)) aNil))))) sNil)
  (sSeq (sIf (tAnd (tBool (eOp eqqPV (eV 5) (eC (.int 1)))) (tBool (eOp neT (eOp ixPV (eV 1) (eC (.int 0))) (eTup aNil)))) (sRet (eTup (aCons (eC (.str "leave")) (aCons (eCallO eG 0 (aCons (eOp ixPV (eV 1) (eC (.int 0))) aNil)) aNil)))) sNil)
  (sSeq (sIf (tAnd (tBool (eOp eqqPV (eV 5) (eC (.int 2)))) (tBool (eOp nePV (eV 2) (eLst aNil)))) (sRet (eTup (aCons (eC (.str "untie")) (aCons (eCallO eG 0 (aCons (eV 2) aNil)) aNil)))) sNil)
  (sSeq (sIf (tAnd (tBool (eOp inPV (eV 5) (eTup (aCons (eC (.int 3)) (aCons (eC (.int 4)) aNil))))) (tBool (eOp nePV (eV 2) (eLst aNil)))) (sRet (eTup (aCons (eC (.str "cost")) (aCons (eCallO eG 0 (aCons (eV 2) aNil)) (aCons (eCallO eH 0 (aCons (eCallO aD 0 (aCons (eC (.int 4)) aNil)) aNil)) aNil))))) sNil)
  (sSeq (sIf (tBool (eOp ltPV (eCB lenPV (a1 (eVW 2))) (eC (.int 30)))) (sRet (eCallO cj 0 (aCons (eV 1) (aCons (eV 4) aNil)))) sNil)
  (sRet (eTup (aCons (eC (.str "untie")) (aCons (eCallO eG 0 (aCons (eV 2) aNil)) aNil)))))))))))))
noncomputable def bN:WS :=
  (sSeq (sIf (tBool (eOp eqqPV (eOp ixPV (eV 1) (eC (.int 0))) (eC (.str "place")))) (sRet (eTup (aCons (eC (.str "leave")) (aCons (eOp ixPV (eV 1) (eC (.int 1))) aNil)))) sNil)
  (sSeq (sIf (tBool (eOp eqqPV (eOp ixPV (eV 1) (eC (.int 0))) (eC (.str "leave")))) (sRet (eTup (aCons (eC (.str "place")) (aCons (eOp ixPV (eV 1) (eC (.int 1))) aNil)))) sNil)
  (sSeq (sIf (tBool (eOp eqqPV (eOp ixPV (eV 1) (eC (.int 0))) (eC (.str "tie")))) (sRet (eTup (aCons (eC (.str "untie")) (aCons (eOp ixPV (eV 1) (eC (.int 1))) aNil)))) sNil)
  (sSeq (sSet 2 (eOp ixPV (eLC (iS (eOp ixPV (eV 0) (eC (.int 1)))) (.nm 0) (tBool (eOp eqqPV (eOp ixPV (eV 0) (eC (.int 0))) (eOp ixPV (eV 1) (eC (.int 1))))) (eV 0) [none,some 1]) (eC (.int 0))))
  (sSeq (sIf (tBool (eOp eqqPV (eOp ixPV (eV 1) (eC (.int 0))) (eC (.str "untie")))) (sRet (eTup (aCons (eC (.str "tie")) (aCons (eOp ixPV (eV 2) (eC (.int 0))) (aCons (eOp ixPV (eV 2) (eC (.int 2))) (aCons (eOp ixPV (eV 2) (eC (.int 1))) (aCons (eOp ixPV (eV 2) (eC (.int 3))) aNil))))))) sNil)
  (sRet (eTup (aCons (eC (.str "cost")) (aCons (eOp ixPV (eV 2) (eC (.int 0))) (aCons (eOp ixPV (eV 2) (eC (.int 3))) aNil))))))))))
noncomputable def bO (T:Addr):WS :=
  (sSeq (sIf (tBool (eOp gtPV (eCB lenPV (aCons (eOp ixPV (eV 1) (eC (.int 1))) aNil)) (eC (.int 28)))) (sRet (eC (.bl true))) sNil)
  (sSeq (sSet 2 (eCallO cj 0 (aCons (eV 1) (aCons (eLst aNil) aNil))))
  (sSeq (sSet 3 (eCallO cj 0 (aCons (eCall aV (aCons (eV 1) (aCons (eV 2) aNil))) (aCons (eLst aNil) aNil))))
  (sSeq (sSet 4 (eCall aV (aCons (eCall aV (aCons (eV 1) (aCons (eV 2) aNil))) (aCons (eV 3) aNil))))
  (sSeq (sSet 5 (eCall aV (aCons (eCall aV (aCons (eV 1) (aCons (eV 3) aNil))) (aCons (eV 2) aNil))))
  (sRet (eAnd (eOp eqqPV (eV 4) (eVW 5)) (eOp eqqPV (eCallT (bI T) 6 (aCons (eV 4) aNil)) (eCallT (bI T) 6 (aCons (eV 5) aNil))))))))))
noncomputable def g8 (T:Addr):WS :=
  (sSeq (Q.sBegin 1 0)
  (sSeq (sFor (iR1 (aCons (eOp addPV (eC (.int 2)) (eCB lenPV (aCons (eSl (eV 0) oNone (oSome (eC (.int 9)))) aNil))) aNil)) (gN 2) (sSeq (sSet 3 (eCallO li 1 (aCons (eC (.int 11)) (aCons (eC (.int 29)) aNil))))
  (sSeq (sSetO 4 (eLst aNil))
  (sSeq (sFor (iR1 (aCons (eCallO aD 1 (aCons (eC (.int 7)) aNil)) aNil)) (gN 5) (sSeq (sSet 6 (eCallO jv 1 (aCons (eV 3) aNil)))
  (sSeq (sDrop (eLM ca 4 (aCons (eTup (aCons (eV 3) (aCons (eV 6) (aCons (eCallT (cY T) 10 (aCons (eV 3) (aCons (eV 6) aNil))) aNil)))) aNil)))
  (sSet 3 (eCall aV (aCons (eV 3) (aCons (eV 6) aNil)))))))
  (sSeq (sIf (tNot (tTru (kX (cw T) 1 10 (aCons (eV 3) aNil)))) (sRet (eC (.bl false))) sNil)
  (sSeq (sFor (iS (eUn revLP (eV 4))) (gT (gsCons (gN 7) (gsCons (gN 6) (gsCons (gN 8) gsNil)))) (sSeq (sSet 9 (eCall cv (aCons (eV 7) (aCons (eV 6) aNil))))
  (sSeq (sIf (tOr (tBool (eOp neT (eCallT (cY T) 10 (aCons (eV 3) (aCons (eV 9) aNil))) (eUn revPV (eV 8)))) (tBool (eOp neT (eCall aV (aCons (eV 3) (aCons (eV 9) aNil))) (eVW 7)))) (sRet (eC (.bl false))) sNil)
  (sSet 3 (eV 7)))))
  (sIf (tAnd (tBool (eOp gtPV (eCB lenPV (a1 (eVW 4))) (eC (.int 0)))) (tAnd (tBool (eOp eqqPV (eCall aV (aCons (eOp ixPV (eOpS ixPV 4 (eC (.int 0))) (eC (.int 0))) (aCons (eOp ixPV (eOpS ixPV 4 (eC (.int 0))) (eC (.int 1))) aNil))) (eOp ixPV (eOpS ixPV 4 (eC (.int 0))) (eC (.int 0))))) (tBool (eOp nePV (eOp ixPV (eOp ixPV (eOpS ixPV 4 (eC (.int 0))) (eC (.int 1))) (eC (.int 0))) (eC (.str "cost")))))) (sRet (eC (.bl false))) sNil)))))))
  (sRet (eC (.bl true)))))
end Pre
namespace Pre
open PySem L2 Q
theorem bx (i j:Int):eqqPV (.int i) (.int j)=some (.bl (decide (i=j))):=by
 show some (PV.bl (i==j))=_
 rfl
theorem er {i j:Int} (h:0<j):modPV (.int i) (.int j)=some (.int (i % j)):=if_pos (decide_eq_true h)
theorem rC {i j:Int} (h:0<j) (h2:j<1073741824):divPV (.int i) (.int j)=some (.int (i / j)):=if_pos (by simp [h,h2])
theorem m7 {i j:Int} (h : -(2 ^ 64)<j) (h2:j<2 ^ 64):mulPV (.int i) (.int j)=some (.int (i*j)):=if_pos (by unfold cMul; simp only [adP,aaK,decide_eq_true_eq]; exact .inr ⟨h,h2⟩)
theorem qy {i j:Int} (h:(decide (0<=j) && decide (j<=1000000) && decide (i.natAbs<2 ^ 64))=true):powPV (.int i) (.int j)=some (.int (i ^ j.toNat)):=if_pos h
theorem cJ {i j:Int}:subPV (.int i) (.int j)=some (.int (i - j)):=rfl
theorem ba {i j:Int}:addPV (.int i) (.int j)=some (.int (i+j)):=rfl
theorem nL {i:Int} {k:Nat} (h:i=k) (hk:k<26):ixPV (.str abc) (.int i)=some (.str (ch k)):=by
 subst h
 show (if abc.length<=100000 then (atI abc.cps.toList (k:Int)).map (fun c=>PV.str ⟨#[c]⟩) else none)=_
 rw [if_pos (by decide +kernel),aj (xn k hk)]; rfl
theorem km (b m:Nat):(repS (ch b) m).length=m:=by
 have:=congrArg acw (jE b m)
 rw [abO] at this
 show (repS (ch b) m).cps.size=m
 rw [<- aax]; exact this
theorem uT (x y:Str):(x++y).length=x.length+y.length:=by show (x.cps++y.cps).size=_; exact Array.size_append
theorem add_str {x y:Str} (h:x.length+y.length<=100000):addPV (.str x) (.str y)=some (.str (x++y)):=if_pos h
theorem m8 {b m:Nat} {i:Int} (h:i=m) (hm:m<=1000):mulPV (.str (ch b)) (.int i)=some (.str (repS (ch b) m)):=by
 subst h
 refine (if_pos ⟨by omega,by omega,?_⟩).trans ?_
 ·rw [show ((m:Int)).toNat=m by omega]
 ·show 1<=1000; decide
theorem qr {n j:Nat} {x:PV} (h:(rngP 0 n)[j]?=some x):j<n/\x=.int j:=by
 unfold rngP at h
 rw [aal] at h
 rcases aaO j n with z | z
 ·rw [abM z] at h
  refine ⟨z,?_⟩
  have:x=.int (0+(j:Int)):=by simpa using h.symm
  rw [this]; congr 1; omega
 ·rw [aam (by simpa using z)] at h; cases h
theorem ki (n:Nat):(rngP 0 n).length=n:=by unfold rngP; rw [aae,abW]
theorem draw {m:Int} {P:PV->PV->Prop} (h0:0<m) (h1:m<1073741824) (k:∀ r:Nat,(r:Int)<m->P (.int r) .non):aD .non [.int m] P :=
 ⟨rfl,m,rfl,h0,h1,fun r r0 r1=>by
  obtain ⟨i,rfl⟩:∃ i:Nat,r=(i:Int):=⟨r.toNat,by omega⟩
  exact k i r1⟩
theorem qF (c:PV) (xs:List PV) (P:PV->PV->Prop) (h:cE c xs P):Q.runO 10 eM c xs P:=by
 obtain ⟨rfl,n,rfl,hn,h⟩:=h
 unfold eM
 refine ah fun N hN=>?_
 try lia
 subst hN
 refine ah fun N hN=>?_
 lia
 refine draw (by decide) (by decide) fun b hb=>?_
 refine aa (nL rfl (by omega)) ?_
 try lia
 subst hN
 refine ah fun N hN=>?_
 lia
 refine draw (by decide) (by decide) fun s hs=>?_
 try lia
 subst hN
 refine ah fun N hN=>?_
 lia
 refine aa ba ?_
 refine draw (by omega) (by omega) fun t ht=>?_
 try lia
 subst hN
 refine ah fun N hN=>?_
 lia
 refine draw (by decide) (by decide) fun f hf=>?_
 try lia
 subst hN
 refine ah fun N hN=>?_
 try lia
 subst hN
 refine ah fun N hN=>dP fun G B hG hB=>?_
 lia
 refine ⟨by omega,by omega,?_⟩
 subst hG
 refine b7 (fun i e=>∃ v8 v9,e=[some ⟨2,.non⟩,some ⟨0,.int n⟩,some ⟨0,.str abc⟩,some ⟨0,.str (ch b)⟩,some ⟨0,.int s⟩,some ⟨0,.int t⟩,some ⟨0,.int f⟩,some ⟨1,.lst ((wds b s t f n i).map .str)⟩,v8,v9]) (i:=0) ⟨none,none,rfl⟩ ?_ ?_
 case refine_2 =>
  rintro e ⟨v8,v9,rfl⟩
  show N _
  subst hN
  rw [ki,show ((n:Int)).toNat=n by omega,ab0]
  lia
  exact h _ (by unfold wds; rw [aae,abW]) (qb hn) (rP (by omega) (by omega) (by omega))
 rintro j x e M hj ⟨v8,v9,rfl⟩ k
 obtain ⟨hjn,rfl⟩:=qr hj
 rw [ab0] at k ⊢
 subst hB
 have hjn':j<n:=by omega
 refine ah fun N' hN'=>?_
 lia
 refine aa (m7 (by omega) (by omega)) ?_
 refine aa ba ?_
 refine aa (er (by decide)) ?_
 refine aa (nL (k:=(f+5*j) % 26) (by omega) (by omega)) ?_
 refine aa (rC (by decide) (by decide)) ?_
 refine aa ba ?_
 refine aa (er (by decide)) ?_
 refine aa (nL (k:=(f+j / 26) % 26) (by omega) (by omega)) ?_
 refine aa (add_str (by show 1+1<=100000; decide)) ?_
 subst hN'
 have push:∀ y:Str,y=wd b s t f n j->M [some ⟨2,.non⟩,some ⟨0,.int n⟩,some ⟨0,.str abc⟩,some ⟨0,.str (ch b)⟩,some ⟨0,.int s⟩,some ⟨0,.int t⟩,some ⟨0,.int f⟩,some ⟨1,.lst ((wds b s t f n j).map .str++[.str y])⟩,some ⟨0,.int j⟩,some ⟨0,.str (ch ((f+5*j) % 26)++ch ((f+j / 26) % 26))⟩]:=fun y hy=>by
  refine k _ ⟨some ⟨0,.int j⟩,some ⟨0,.str (ch ((f+5*j) % 26)++ch ((f+j / 26) % 26))⟩,?_⟩
  rw [hy,rQ,aa4]; rfl
 have len:((wds b s t f n j).map PV.str).length<=100000:=by rw [aae]; unfold wds; rw [aae,abW]; omega
 have two:(ch ((f+5*j) % 26)++ch ((f+j / 26) % 26)).cps.toList=[97+(f+5*j) % 26,97+(f+j / 26) % 26]:=by rw [gh]; rfl
 lia
 by_cases c:n<8/\s=6
 ·have c1:((n:Int)<8):=by omega
  have c2:((s:Int)=6):=by omega
  rw [decide_eq_true c1]
  lia
  refine aa (bx _ _) ?_
  rw [decide_eq_true c2]
  lia
  refine aa ba ?_
  refine aa (m8 (m:=j+1) (by omega) (by omega)) ?_
  refine aa (mApp len) ?_
  refine push _ (j4 ?_)
  rw [jE]
  unfold wd wl
  rw [if_pos c]
 ·have word:repS (ch b) t++(ch ((f+5*j) % 26)++ch ((f+j / 26) % 26))++repS (ch b) (s - t)=wd b s t f n j:=by
   refine j4 ?_
   rw [gh,gh,two,jE,jE]
   unfold wd wl
   rw [if_neg c]
  have l2:(ch ((f+5*j) % 26)++ch ((f+j / 26) % 26)).length=2:=rfl
  have els:opt (mulPV (.str (ch b)) (.int t)) fun z=>opt (addPV z (.str (ch ((f+5*j) % 26)++ch ((f+j / 26) % 26)))) fun z=>opt (subPV (.int s) (.int t)) fun z1=>opt (mulPV (.str (ch b)) z1) fun z1=>opt (addPV z z1) fun z=>opt (ca ((wds b s t f n j).map .str) [z]) fun r=>M [some ⟨2,.non⟩,some ⟨0,.int n⟩,some ⟨0,.str abc⟩,some ⟨0,.str (ch b)⟩,some ⟨0,.int s⟩,some ⟨0,.int t⟩,some ⟨0,.int f⟩,some ⟨1,.lst r.2⟩,some ⟨0,.int j⟩,some ⟨0,.str (ch ((f+5*j) % 26)++ch ((f+j / 26) % 26))⟩]:=by
   refine aa (m8 rfl (by omega)) (aa (add_str (by rw [km,l2]; omega)) (aa cJ (aa (m8 (m:=s - t) (by omega) (by omega)) (aa (add_str ?_) (aa (mApp len) (push _ word))))))
   rw [uT,km,km,l2]; omega
  by_cases c1:(n:Int)<8
  ·have c2:¬ ((s:Int)=6):=by omega
   rw [decide_eq_true c1]
   lia
   refine aa (bx _ _) ?_
   rw [decide_eq_false c2]
   lia
   exact els
  ·rw [decide_eq_false c1]
   lia
   exact els
theorem sC (c:PV) (xs:List PV) (P:PV->PV->Prop) (h:eH c xs P):Q.runO 2 fV c xs P:=by
 obtain ⟨rfl,q,rfl,h⟩:=h
 have b30:(1000000000:Int)<10 ^ 30:=by decide
 unfold fV
 refine ah fun N hN=>?_
 lia
 refine aa (bx _ _) ?_
 lia
 split
 ·exact h _ (by omega) (by omega)
 subst hN
 refine ah fun N hN=>?_
 lia
 refine aa (bx _ _) ?_
 lia
 split
 ·refine draw (by decide) (by decide) fun r hr=>?_
  exact aa cJ (h _ (by omega) (by omega))
 subst hN
 refine ah fun N hN=>?_
 lia
 refine aa (bx _ _) ?_
 lia
 split
 ·refine draw (by decide) (by decide) fun r hr=>?_
  exact aa cJ (h _ (by omega) (by omega))
 subst hN
 lia
 have c30:(10:Int) ^ (30:Int).toNat=10 ^ 30:=by decide
 have c9:(10:Int) ^ (9:Int).toNat=1000000000:=by decide
 have pw:powPV (.int 10) (.int 30)=some (.int (10 ^ 30)):=(qy (by decide)).trans (by rw [c30])
 have p9:powPV (.int 10) (.int 9)=some (.int 1000000000):=(qy (by decide)).trans (by rw [c9])
 refine aa pw (aa cJ (aa pw (aa cJ (aa p9 ?_))))
 refine draw (by decide) (by decide) fun r hr=>?_
 try lia
 refine draw (by decide) (by decide) fun x hx=>?_
 match x,hx with
 | 0,_=>exact aa (aj (j:=0) rfl) (h _ (by omega) (by omega))
 | 1,_=>exact aa (aj (j:=1) rfl) (h _ (by omega) (by omega))
 | 2,_=>exact aa (aj (j:=2) rfl) (h _ (by omega) (by omega))
 | 3,_=>exact aa (aj (j:=3) rfl) (h _ (by omega) (by omega))
 | n+4,h=>omega
theorem turn (x d t:Int) (h0:0<t) (h1:0<=x) (h2:x<t) (h3:0<=d) (h4:d<t - 1):0<=(x+1+d) % t/\(x+1+d) % t<t/\x≠(x+1+d) % t:=by
 refine ⟨abY _ (by omega),abE _ h0,fun e=>?_⟩
 have q:=Int.emod_add_mul_ediv (x+1+d) t
 rw [<- e] at q
 have:t*((x+1+d) / t)=1+d:=by omega
 generalize (x+1+d) / t=y at this
 rcases (show y<=0\/1<=y by omega) with z | z
 ·have:t*y<=0:=Int.mul_nonpos_of_nonneg_of_nonpos (by omega) (by omega)
  omega
 ·have:t*1<=t*y:=aeR z (by omega)
  omega
theorem drawI {m:Int} {P:PV->PV->Prop} (h0:0<m) (h1:m<1073741824) (k:∀ r:Int,0<=r->r<m->P (.int r) .non):aD .non [.int m] P:=⟨rfl,m,rfl,h0,h1,k⟩
theorem sA (c:PV) (xs:List PV) (P:PV->PV->Prop) (h:ju c xs P):Q.runO 7 fT c xs P:=by
 obtain ⟨rfl,f,m,kk,rfl,m2,m9,h⟩:=h
 have m0:(0:Int)<m:=by omega
 unfold fT
 refine ah fun N hN=>?_
 lia
 refine aa (bx _ _) ?_
 lia
 split
 ·refine aa (er m0) (aa ba (aa (er m0) ?_))
  refine h _ _ (abY _ (by omega)) (abE _ m0) (abY _ (by omega)) (abE _ m0) fun e=>?_
  refine (turn (kk % m) 0 m m0 (abY _ (by omega)) (abE _ m0) (by omega) (by omega)).2.2 (e.trans ?_)
  rw [Int.add_zero,Int.emod_add_emod]
 subst hN
 refine ah fun N hN=>?_
 lia
 refine aa (bx _ _) ?_
 lia
 split
 ·refine aa cJ ?_
  refine drawI (by omega) (by omega) fun r p0 q0=>?_
  exact aa ba (h _ _ (by omega) m0 (by omega) (by omega) (by omega))
 subst hN
 refine ah fun N hN=>aP fun A B hA hB=>?_
 have last:B { endO P with nx:=N } [some ⟨2,.non⟩,some ⟨0,.int f⟩,some ⟨0,.int m⟩,some ⟨0,.int kk⟩,none,none,none]:=by
  subst hB
  show N _
  subst hN
  refine ah fun N hN=>?_
  lia
  refine drawI (by omega) (by omega) fun r p0 q0=>?_
  try lia
  subst hN
  lia
  refine aa ba (aa cJ ?_)
  refine drawI (by omega) (by omega) fun d p1 q1=>?_
  try lia
  refine aa ba (aa (er m0) ?_)
  have t:=turn r d m m0 p0 q0 p1 q1
  exact h _ _ p0 q0 t.1 t.2.1 t.2.2
 lia
 refine aa (bx _ _) ?_
 lia
 by_cases c1:f=4
 case neg =>
  rw [decide_eq_false c1]
  exact last
 rw [decide_eq_true c1]
 lia
 by_cases c2:3<m
 case neg =>
  rw [decide_eq_false c2]
  exact last
 rw [decide_eq_true c2]
 lia
 subst hA
 refine ah fun N hN=>?_
 lia
 refine aa (rC (by decide) (by decide)) ?_
 subst hN
 refine ah fun N hN=>?_
 lia
 refine drawI (by omega) (by omega) fun r p0 q0=>?_
 try lia
 subst hN
 refine ah fun N hN=>?_
 lia
 refine drawI (by omega) (by omega) fun r2 p2 q2=>?_
 try lia
 subst hN
 have bd:∀ y:Int,0<=y->y<m / 2->0<=r*(m / 2)+y/\r*(m / 2)+y<m:=fun y y0 y1=>by
  have:r=0\/r=1:=by omega
  rcases this with rfl | rfl <;> omega
 lia
 refine aa (m7 (by omega) (by omega)) (aa ba (aa (m7 (by omega) (by omega)) (aa ba (aa cJ ?_))))
 refine drawI (by omega) (by omega) fun r3 p3 q3=>?_
 try lia
 refine aa ba (aa (er (by omega)) (aa ba ?_))
 have t:=turn r2 r3 (m / 2) (by omega) p2 q2 p3 q3
 exact h _ _ (bd _ p2 q2).1 (bd _ p2 q2).2 (bd _ t.1 t.2.1).1 (bd _ t.1 t.2.1).2 fun e=>t.2.2 (by omega)
end Pre
namespace Pre
open PySem L2 Q
theorem wA {i j:Int} {k:Nat} (h:(if j > i then j else i)=k):maxPV [.int i,.int j]=some (.int k):=by rw [<- h]; rfl
theorem my {l:List Str} {i:Nat} (h:i<l.length):ixPV (.lst (l.map .str)) (.int i)=some (.str l[i]):=aj (by rw [aal,aab h]; rfl)
theorem jB:∀ ss:List Str,(ss.map PV.str).mapM strPV=some ss
 | []=>rfl
 | s::ss=>by rw [aao,abw,jB ss]; rfl
theorem qf:∀ ts:List Tie,(ts.map tiePV).mapM fstS=some (ts.map Tie.nm)
 | []=>rfl
 | t::ts=>by rw [aao,abw,qf ts]; rfl
theorem mO {α β:Type} {f:α->β} {l:List α} {a:α} {b:β} {ix:List Nat} (h:∀ i∈ix,i<l.length):(ix.map fun i=>(l.map f).getD i b)=(ix.map fun i=>l.getD i a).map f:=by
 rw [aaJ]
 refine aa7 fun i hi=>?_
 show _=f (l.getD i a)
 rw [aah,aah,aal,aab (h i hi)]; rfl
theorem ut (c:PV) (xs:List PV) (P:PV->PV->Prop) (h:li c xs P):Q.runO 15 g6 c xs P:=by
 obtain ⟨rfl,M,T,rfl,M0,M1,T0,T1,h⟩:=h
 unfold g6
 refine ah fun N hN=>?_
 lia
 refine aa ba ?_
 refine draw (by omega) (by omega) fun mm hmm=>?_
 subst hN
 refine ah fun N hN=>?_
 lia
 refine aa ba ?_
 refine ⟨rfl,mm+2,rfl,by omega,fun ws wl wn ww=>?_⟩
 subst hN
 refine ah fun N hN=>?_
 lia
 refine draw (by decide) (by decide) fun r hr=>?_
 refine aa ba ?_
 obtain ⟨pn,hpn,hp2,hpm⟩:∃ pn:Nat,(if (mm:Int)+r > 2 then (mm:Int)+r else 2)=(pn:Int)/\2<=pn/\pn<=mm+2:=by
  refine ⟨(if (mm:Int)+r > 2 then (mm:Int)+r else 2).toNat,?_,?_,?_⟩ <;> split <;> omega
 refine aa (wA hpn) ?_
 try lia
 rw [dR,<- ael]
 subst hN
 have pl:(ws.take pn).length=pn:=by rw [aba,wl]; omega
 have pnd:(ws.take pn).Nodup:=wn.sublist (acJ _ _)
 have pw:∀ x∈ws.take pn,IsWord x:=fun x hx=>ww x (adV hx)
 generalize ws.take pn=pool at pl pnd pw ⊢
 refine ah fun N hN=>?_
 lia
 refine aa ba ?_
 refine draw (by omega) (by omega) fun cc hcc=>?_
 subst hN
 refine ah fun N hN=>?_
 lia
 refine ⟨rfl,cc,rfl,by omega,fun ns nl nn nw=>?_⟩
 subst hN
 refine ah fun N hN=>?_
 simp only [sPar]
 lia
 refine drawI (by decide) (by decide) fun fam p0 q0=>?_
 refine drawI (by decide) (by decide) fun srt p1 q1=>?_
 subst hN
 refine ah fun N hN=>?_
 lia
 subst hN
 refine ah fun N hN=>dP fun G B hG hB=>?_
 lia
 refine ⟨by omega,by omega,?_⟩
 subst hG
 refine b7 (fun i e=>∃ ts v11 v12 v13 v14,e=[some ⟨2,.non⟩,some ⟨0,.int M⟩,some ⟨0,.int T⟩,some ⟨0,.int mm⟩,some ⟨0,.lst (ws.map .str)⟩,some ⟨0,.lst (pool.map .str)⟩,some ⟨0,.int cc⟩,some ⟨0,.lst (ns.map .str)⟩,some ⟨0,.int fam⟩,some ⟨0,.int srt⟩,some ⟨1,.lst (ts.map tiePV)⟩,v11,v12,v13,v14]/\ts.map Tie.nm=ns.take i/\ts.length=i/\∀ t∈ts,TieOk t) (i:=0) ⟨[],none,none,none,none,rfl,rfl,rfl,by simp⟩ ?_ ?_
 case refine_2 =>
  rintro e ⟨ts,v11,v12,v13,v14,rfl,g1,g2,g3⟩
  rw [ki,show ((cc:Int)).toNat=cc by omega,ab0] at g1 g2
  show N _
  subst hN
  have hnm:ts.map Tie.nm=ns:=by rw [g1,<- nl,acQ]
  simp only [sRet,eTup,eCB,aCons,eSortS,eSortR]
  lia
  rw [dR,<- ael]
  refine ⟨_,jB _,by rw [aba]; omega,fun ss up=>aa rfl ?_⟩
  try lia
  refine ⟨_,qf ts,by rw [hnm]; exact nn,by rw [aae]; omega,fun ix il ilt iw=>aa rfl ?_⟩
  rw [aae] at ilt il
  rw [mO (a:=t0) ilt]
  refine h ss _ ⟨kj up.2 (up.1.nodup_iff.mpr (wn.sublist (acJ _ _))),fun x hx=>ww x (adV (up.1.mem_iff.mp hx)),?_,fun t ht=>?_⟩ ?_ ?_
  ·rw [mO (a:=t0) ilt] at iw; exact iw
  ·obtain ⟨j,hj,rfl⟩:=List.mem_map.mp ht
   have:=ilt j hj
   rw [aah,aab this]
   exact g3 _ (abI _)
  ·rw [up.1.length_eq,aba]; omega
  ·rw [aae,il,g2]; omega
 rintro j x e M' hj ⟨ts,v11,v12,v13,v14,rfl,g1,g2,g3⟩ k
 obtain ⟨hjn,rfl⟩:=qr hj
 rw [ab0] at g1 g2 k
 subst hB
 have hjn':j<ns.length:=by omega
 refine ah fun N hN=>?_
 lia
 refine ⟨rfl,fam,pool.length,j,by rw [aae],by omega,by omega,fun x y x0 x1 y0 y1 xy=>?_⟩
 obtain ⟨x,rfl⟩:∃ z:Nat,x=(z:Int):=⟨x.toNat,by omega⟩
 obtain ⟨y,rfl⟩:∃ z:Nat,y=(z:Int):=⟨y.toNat,by omega⟩
 have hx:x<pool.length:=by omega
 have hy:y<pool.length:=by omega
 lia
 subst hN
 refine ah fun N hN=>?_
 simp only [sSet,eSortS]
 lia
 refine aa (my hx) (aa (my hy) ?_)
 refine ⟨[pool[x],pool[y]],rfl,(by show 2<64; decide),fun ss up=>?_⟩
 have hxy:pool[x]≠pool[y]:=fun e=>xy (by
  have:=(act pnd).mp e
  omega)
 obtain ⟨u,v,rfl,uv,hu,hv⟩:=vK up.1 up.2 hxy
 have wu:IsWord u:=pw u (by rcases hu with e | e <;> rw [e] <;> exact abI _)
 have wv:IsWord v:=pw v (by rcases hv with e | e <;> rw [e] <;> exact abI _)
 subst hN
 lia
 refine aa (my hjn') (aa (z:=.str u) (aj (j:=0) rfl) (aa (z:=.str v) (aj (j:=1) rfl) ?_))
 refine ⟨rfl,srt,rfl,fun c c0 c1=>?_⟩
 lia
 refine aa (mApp (by rw [aae]; omega)) ?_
 refine k _ ⟨ts++[⟨ns[j],u,v,c⟩],some ⟨0,.int j⟩,some ⟨0,.int x⟩,some ⟨0,.int y⟩,some ⟨0,.lst [.str u,.str v]⟩,by rw [aa4]; rfl,?_,by rw [aau,g2]; rfl,fun t ht=>?_⟩
 ·rw [aa4,g1]
  show ns.take j++[ns[j]]=ns.take (j+1)
  rw [ad2,aab hjn']; rfl
 ·rcases List.mem_append.mp ht with z | z
  ·exact g3 t z
  ·have:t=⟨ns[j],u,v,c⟩:=by simpa using z
   subst this
   exact ⟨nw _ (abI _),wu,wv,uv,c0,c1⟩
end Pre
namespace Pre
open PySem L2 Q
theorem wB (a b:Nat):ltS (⟨#[a]⟩:Str) (⟨#[b]⟩:Str)↔a<b:=by
 show [a]<[b]↔a<b
 constructor
 ·intro h
  cases h with
  | rel h=>exact h
  | cons h=>cases h
 ·intro h; exact .rel h
theorem ub (c:Nat):((!decide (ltS ⟨#[c]⟩ (aaN "a"))) && (!decide (ltS (aaN "z") ⟨#[c]⟩)))=okc c:=by
 have e1:(aaN "a")=⟨#[97]⟩:=by decide +kernel
 have e2:(aaN "z")=⟨#[122]⟩:=by decide +kernel
 unfold okc
 rw [e1,e2]
 simp only [wB]
 rw [abz]
 simp
theorem nW (xs:List PV) (P:PV->Prop) (h:bD xs P):Q.run 1 di xs P:=by
 obtain ⟨x,rfl,hx,h⟩:=h
 unfold di
 cases x with
 | str s =>
  have hs:s.length<=1000:=hx
  have hs':s.length<=100000:=by omega
  have hc:s.cps.toList.length=s.length:=by simp [aew]
  lia
  rw [if_pos hs']
  lia
  have hw:wordP (.str s)=(decide (1<=s.length) && decide (s.length<=8) && s.cps.toList.all okc):=rfl
  rw [hw] at h
  by_cases h1:1<=s.length
  ·by_cases h2:s.length<=8
   ·have h1':(1:Int)<=(s.length:Int):=by omega
    have h2':(s.length:Int)<=8:=by omega
    simp only [h1',h2',decide_true,if_true,ab7,aaR,if_false,dN]
    refine cr (fun x=>match x with | .str s=>.bl ((!decide (ltS s (aaN "a"))) && (!decide (ltS (aaN "z") s))) | _=>.non) (fun x hx R hR=>?_) (by simp [signsP,hc]; omega) ?_
    ·unfold signsP at hx
     obtain ⟨c,hc,rfl⟩:=List.mem_map.mp hx
     simp only [capE,aao,aeK,List.set_cons_zero]
     lia
     replace hR:R (.bl ((!decide (ltS ⟨#[c]⟩ (aaN "a"))) && (!decide (ltS (aaN "z") ⟨#[c]⟩)))) [some ⟨0,.str s⟩]:=hR
     cases q:decide (ltS ⟨#[c]⟩ (aaN "a")) with
     | true=>rw [q] at hR; exact hR
     | false=>rw [q] at hR; exact hR
    ·have e:(signsP s).map (fun x=>match x with | .str s=>PV.bl ((!decide (ltS s (aaN "a"))) && (!decide (ltS (aaN "z") s))) | _=>.non)=(s.cps.toList.map okc).map PV.bl:=by
      unfold signsP
      rw [aaJ,aaJ]
      exact aa7 fun c _=>congrArg PV.bl (ub c)
     rw [aaV,e]
     refine aa (rO _) ?_
     simpa [h1,h2,List.all_map] using h
   ·have h2':¬ (s.length:Int)<=8:=by omega
    have h1':(1:Int)<=(s.length:Int):=by omega
    simp only [h1',h2',decide_true,decide_false,if_true,acr,dN]
    simpa [h1,h2] using h
  ·have h1':¬ (1:Int)<=(s.length:Int):=by omega
   simp only [h1',decide_false,aaR,if_false,acr,if_true,dN]
   simpa [h1] using h
 | set _=>exact hx.elim
 | scr _=>exact hx.elim
 | _=>lia; exact h
theorem mQ (xs:List PV) (P:PV->Prop) (h:cX xs P):Q.run 1 cG xs P:=by
 obtain ⟨x,rfl,hx,h⟩:=h
 unfold cG
 cases x with
 | set _=>exact hx.elim
 | scr _=>exact hx.elim
 | _=>lia; exact h
theorem pG {x:Str} (h:IsWord x):Plain (.str x):=by
 have:=h.hi
 have e:x.length=x.cps.toList.length:=by simp [aew]
 show x.length<=1000
 omega
theorem eq_str (i j:Str):eqqPV (.str i) (.str j)=some (.bl (i==j)):=rfl
theorem net1 (ps:List Str) (ts:List Tie):ixPV (netPV ps ts) (.int 1)=some (.tup (ts.map tiePV)):=aj (j:=1) rfl
theorem net0 (ps:List Str) (ts:List Tie):ixPV (netPV ps ts) (.int 0)=some (.tup (ps.map .str)):=aj (j:=0) rfl
theorem nX (xs:List PV) (P:PV->Prop) (h:fu xs P):Q.run 2 dk xs P:=by
 obtain ⟨ps,ts,t,rfl,h⟩:=h
 unfold dk netPV tiePV
 lia
 refine aa (z:=.str t.one) (aj (j:=1) rfl) (aa (z:=.tup (ps.map .str)) (aj (j:=0) rfl) (aa eY ?_))
 lia
 unfold opn at h
 cases e:decide (t.one∈ps) with
 | false=>rw [e] at h; exact h
 | true =>
  rw [e,Bool.true_and] at h
  exact aa (z:=.str t.oth) (aj (j:=2) rfl) (aa (z:=.tup (ps.map .str)) (aj (j:=0) rfl) (aa eY h))
theorem gR {α β:Type} (p:α->Bool) (f:α->β):∀ (l:List α),l.filterMap (fun a=>if p a=true then some (f a) else none)=(l.filter p).map f
 | []=>rfl
 | a::l=>by
  rw [aaY,acS,gR p f l]
  cases p a <;> rfl
theorem ma (xs:List PV) (P:PV->Prop) (h:dG xs P):Q.run 1 cn xs P:=by
 obtain ⟨ps,ts,rfl,hl,h⟩:=h
 unfold cn
 have e1:ixPV (netPV ps ts) (.int 1)=some (.tup (ts.map tiePV)):=aj (j:=1) rfl
 lia
 refine aa e1 ?_
 lia
 refine bw (fun x=>match x with | .tup [.str a,.str b,.str c,.int d]=>if opn ps ⟨a,b,c,d⟩=true then some (.str a) else none | _=>none) (fun x hx R hR=>?_) (by simp; omega) ?_
 ·obtain ⟨t,ht,rfl⟩:=List.mem_map.mp hx
  refine ⟨ps,ts,t,rfl,?_⟩
  replace hR:R (if opn ps t=true then some (.str t.nm) else none) [some ⟨0,netPV ps ts⟩]:=hR
  show opt (some (opn ps t)) _
  rw [dN]
  cases e:opn ps t with
  | false=>rw [e] at hR; exact hR
  | true =>
   rw [e] at hR
   show opt (ixPV (tiePV t) (.int 0)) _
   refine aa (z:=.str t.nm) (aj (j:=0) rfl) ?_
   exact hR
 ·rw [aaV,aen]
  have e:ts.filterMap ((fun x=>match x with | PV.tup [.str a,.str b,.str c,.int d]=>if opn ps ⟨a,b,c,d⟩=true then some (PV.str a) else none | _=>none) ∘ tiePV)=(ia ps ts).map .str:=by
   unfold ia
   rw [aaJ]
   exact gR (opn ps) (fun t=>PV.str t.nm) ts
  rw [e]
  exact aa rfl h
theorem oQ {ps:List Str} {L:Str->Str} {p:Str} (nd:ps.Nodup) (h:p∈ps):ixPV (labPV ps L) (.str p)=some (.str (L p)):=by
 show valP _ (aaG p)=_
 exact fS (f:=id) (g:=fun p=>PV.str (L p)) (l:=ps) (a:=p) (by simpa using nd) h
theorem sI {ps:List Str} {ts:List Tie} (ok:NetOk ps ts):(ia ps ts).Nodup:=(aW ok).sublist (List.filter_sublist.map _)
theorem lm (fs:List Str):(fs.map PV.str).mapM strPV=some fs:=by
 induction fs with
 | nil=>rfl
 | cons f fs ih=>rw [aao,abw,ih]; rfl
theorem uc {x:PV} {ns:List Int} (m:Nat) (hx:x=.scr ns\/x=.lst (ns.map .int)):∃ zs,slPV x none (some (m:Int))=some (.lst zs)/\zs.length<=m:=by
 rcases hx with rfl | rfl
 ·exact ⟨_,rfl,by rw [dR]; simp; omega⟩
 ·exact ⟨_,rfl,by rw [dR]; simp; omega⟩
theorem qE (xs:List PV) (P:PV->Prop) (h:g5 xs P):Q.run 1 eJ xs P:=by
 obtain ⟨ps,ts,rfl,hl,nd,h⟩:=h
 unfold eJ
 lia
 simp only [eDC]
 lia
 refine aa (net1 ps ts) ?_
 lia
 refine eB (done:=[]) Tie.nm (fun t=>.tup [.int t.cost,.str t.nm]) tiePV nd (fun t ht R hR=>?_) (by simp; omega) h
 show opt (ixPV (tiePV t) (.int 0)) _
 refine aa (z:=.str t.nm) (aj (j:=0) rfl) ?_
 show opt (ixPV (tiePV t) (.int 3)) _
 refine aa (z:=.int t.cost) (aj (j:=3) rfl) ?_
 show opt (ixPV (tiePV t) (.int 0)) _
 refine aa (z:=.str t.nm) (aj (j:=0) rfl) ?_
 exact hR
theorem uR {us:List Tie} {i j:Nat} (hi:i<us.length) (hj:j<us.length):ltK (us.map fun u=>(u.cost,u.nm)) i j=true↔chp (us.getD i t0) (us.getD j t0):=by
 have g:∀ i,i<us.length->(us.map fun u=>(u.cost,u.nm)).getD i (0,⟨#[]⟩)=((us.getD i t0).cost,(us.getD i t0).nm):=fun i hi=>by
  rw [aah,aal,aab hi,aah,aab hi]; rfl
 unfold ltK chp
 rw [g i hi,g j hj,decide_eq_true_eq]
theorem jO {us:List Tie} {i:Nat} (hi:i<us.length):(us.map Tie.nm).getD i ⟨#[]⟩=(us.getD i t0).nm:=by
 rw [aah,aal,aab hi,aah,aab hi]; rfl
theorem ir (T:Addr) (c:PV) (xs:List PV) (P:PV->PV->Prop) (h:cf T c xs P):Q.runT 3 (bF T) c xs P:=by
 obtain ⟨rfl,ps,ts,us,rfl,hl,nd,h64,und,hin,h⟩:=h
 unfold bF
 simp only [runT,endT,hid]
 refine ah fun N hN=>?_
 lia
 refine ⟨ps,ts,rfl,hl,nd,?_⟩
 lia
 subst hN
 simp only [sRet,eSortK,eV,ab5,acG]
 refine ⟨us.map Tie.nm,us.map fun u=>(u.cost,u.nm),(by first | trivial | rfl),lm _,by simpa using h64,by simp,by rw [aaJ]; exact und,fun m hm=>?_,fun ix ok=>?_⟩
 ·rw [aae] at hm
  have hu:us.getD m t0∈us:=by rw [aah,aab hm]; exact abI _
  have e:(us.map fun u=>(u.cost,u.nm)).getD m k0=((us.getD m t0).cost,(us.getD m t0).nm):=by
   rw [aah,aal,aab hm,aah,aab hm]; rfl
  rw [e,jO hm]
  exact fS (f:=Tie.nm) (g:=fun t=>PV.tup [.int t.cost,.str t.nm]) nd (hin _ hu)
 ·have lt:∀ i∈ix,i<us.length:=fun i hi=>by have:=ok.lt i hi; rwa [aae] at this
  have e:(ix.map fun m=>PV.str ((us.map Tie.nm).getD m ⟨#[]⟩))=((ix.map fun i=>us.getD i t0).map Tie.nm).map .str:=by
   rw [aaJ,aaJ]
   exact aa7 fun i hi=>by show PV.str _=PV.str _; rw [jO (lt i hi)]
  rw [e]
  refine h _ (oV (by have:=ok.len; rwa [aae] at this) ok.nd lt) ?_
  refine List.pairwise_map.mpr (List.Pairwise.imp_of_mem (fun hx hy hq=>?_) ok.up)
  exact (uR (lt _ hx) (lt _ hy)).mp hq
theorem mS (T:Addr) (c:PV) (xs:List PV) (P:PV->PV->Prop) (h:bI T c xs P):Q.runT 1 (cI T) c xs P:=by
 obtain ⟨rfl,ps,ts,rfl,ok,hp,ht,h⟩:=h
 unfold cI
 have hf:=aa5 (opn ps) ts
 simp only [runT,endT,hid]
 lia
 simp only [eCallT]
 lia
 refine ⟨ps,ts,rfl,by omega,?_⟩
 lia
 refine ⟨rfl,ps,ts,ts.filter (opn ps),rfl,by omega,aW ok,by omega,sI ok,fun u hu=>(List.mem_filter.mp hu).1,fun vs pm up=>?_⟩
 lia
 refine ⟨ps,ts,vs,rfl,ok,hp,ht,pm,up,?_⟩
 exact h
theorem fF (a b:Str):nePV (.str a) (.str b)=some (.bl (!decide (a=b))):=by
 show some (PV.bl (!decide (V.str a=V.str b)))=_
 congr 3
 simp
end Pre
namespace Pre
open PySem L2 Q
theorem iq (xs:List PV) (P:PV->Prop) (h:ce xs P):Q.run 9 bE xs P:=by
 obtain ⟨ps,ts,vs,rfl,ok,hp,ht,pm,up,h⟩:=h
 have pn:=dM ok.rise
 have tn:=aW ok
 have vl:vs.length<=60:=by rw [pm.length_eq]; exact aa1 (aa5 _ _) ht
 have oo:∀ u∈ts.filter (opn ps),opn ps u=true:=fun u hu=>(List.mem_filter.mp hu).2
 have vo:∀ u∈vs,opn ps u=true:=fun u hu=>oo u (pm.mem_iff.mp hu)
 have vt:∀ u∈vs,u∈ts:=fun u hu=>(List.mem_filter.mp (pm.mem_iff.mp hu)).1
 have vn:(vs.map Tie.nm).Nodup:=(pm.map Tie.nm).nodup_iff.mpr (tn.sublist (List.filter_sublist.map _))
 unfold bE
 refine ah fun N hN=>?_
 lia
 refine ⟨ps,ts,rfl,by omega,tn,?_⟩
 lia
 subst hN
 refine ah fun N hN=>?_
 lia
 simp only [eDC]
 lia
 refine aa (net0 ps ts) ?_
 lia
 refine eB (done:=[]) (α:=Str) (fun p=>p) PV.str PV.str (by simpa using pn) (fun p hp R hR=>hR) (by simp; omega) ?_
 show N [some ⟨0,netPV ps ts⟩,some ⟨0,.lst ((vs.map Tie.nm).map .str)⟩,some ⟨0,.dic (ts.map fun t=>(aaG t.nm,tiePV t))⟩,some ⟨1,labPV ps id⟩,none,none,none,none,none]
 subst hN
 refine ah fun N hN=>?_
 lia
 subst hN
 refine ah fun N hN=>dP fun G B hG hB=>?_
 lia
 refine b7 (fun j e=>∃ (v5 v6 v7 v8:Option Sl),e=[some ⟨0,netPV ps ts⟩,some ⟨0,.lst ((vs.map Tie.nm).map .str)⟩,some ⟨0,.dic (ts.map fun t=>(aaG t.nm,tiePV t))⟩,some ⟨1,labPV ps (wr (vs.take j)).1⟩,some ⟨1,.lst ((wr (vs.take j)).2.map .str)⟩,v5,v6,v7,v8]) (i:=0)
  ⟨none,none,none,none,rfl⟩ ?_ ?_
 case refine_2 =>
  rintro e ⟨v5,v6,v7,v8,rfl⟩
  show N _
  rw [aae,aae,ab0,acQ]
  subst hN
  simp only [sRet,eCB,aCons]
  lia
  simp only [eSortS]
  lia
  refine ⟨_,lm _,?_,fun gs us=>aa rfl ?_⟩
  ·have:=(mn vn).2
   omega
  ·rw [tE ⟨vs,pm,up,us.1,kj us.2 (us.1.nodup_iff.mpr (mn vn).1)⟩]
   exact h
 rintro j x e M hx ⟨v5,v6,v7,v8,rfl⟩ k
 rw [ab0] at k ⊢
 have hj:j<vs.length:=by have:=(List.getElem?_eq_some_iff.mp hx).1; simpa using this
 obtain ⟨t,et⟩:∃ t,vs[j]?=some t:=⟨_,aab hj⟩
 have ex:x=.str t.nm:=by
  rw [aal,aal,et] at hx
  exact (aar hx).symm
 have tv:t∈vs:=abf et
 have ot:=vo t tv
 obtain ⟨o1,o2⟩:=opn_iff.mp ot
 have etk:vs.take (j+1)=vs.take j++[t]:=by rw [ad2,et]; rfl
 have ew:wr (vs.take (j+1))=wrStep (wr (vs.take j)) t:=by rw [etk,tT]
 have kl:(wr (vs.take j)).2.length<=60:=by
  have:=(mn (vs:=vs.take j) (vn.sublist ((acJ _ _).map _))).2
  rw [aba] at this
  omega
 rw [ew] at k
 generalize wr (vs.take j)=gk at k kl ⊢
 obtain ⟨g,kp⟩:=gk
 subst ex hG hB
 show sSeq _ _ _ [some ⟨0,netPV ps ts⟩,some ⟨0,.lst ((vs.map Tie.nm).map .str)⟩,some ⟨0,.dic (ts.map fun t=>(aaG t.nm,tiePV t))⟩,some ⟨1,labPV ps g⟩,some ⟨1,.lst (kp.map .str)⟩,some ⟨0,.str t.nm⟩,v6,v7,v8]
 refine ah fun N' hN'=>?_
 lia
 refine aa (z:=tiePV t) (fS (f:=Tie.nm) (g:=tiePV) tn (vt t tv)) ?_
 show N' _
 subst hN'
 refine ah fun N' hN'=>?_
 lia
 simp only [eOpS]
 lia
 refine aa (z:=PV.str t.one) (aj (j:=1) rfl) ?_
 try lia
 refine aa (oQ pn o1) ?_
 try lia
 refine aa (z:=PV.str t.oth) (aj (j:=2) rfl) ?_
 try lia
 refine aa (oQ pn o2) ?_
 try lia
 show N' _
 subst hN'
 refine aP fun A1 B1 hA1 hB1=>?_
 lia
 refine aa (fF _ _) ?_
 lia
 by_cases hg:g t.one=g t.oth
 ·rw [decide_eq_true hg,ab7,if_neg (by simp)]
  subst hB1
  have es:wrStep (g,kp) t=(g,kp):=by unfold wrStep; rw [if_pos hg]
  rw [es] at k
  exact k _ ⟨some ⟨0,.str t.nm⟩,some ⟨0,tiePV t⟩,some ⟨0,.str (g t.one)⟩,some ⟨0,.str (g t.oth)⟩,rfl⟩
 ·rw [decide_eq_false hg,acr,if_pos rfl]
  subst hA1
  have es:wrStep (g,kp) t=(fun p=>if g p=g t.oth then g t.one else g p,kp++[t.nm]):=by unfold wrStep; rw [if_neg hg]
  rw [es] at k
  refine ah fun N' hN'=>?_
  lia
  refine aa (mApp (by rw [aae]; have:kp.length<=60:=kl; omega)) ?_
  show N' [some ⟨0,netPV ps ts⟩,some ⟨0,.lst ((vs.map Tie.nm).map .str)⟩,some ⟨0,.dic (ts.map fun t=>(aaG t.nm,tiePV t))⟩,some ⟨1,labPV ps g⟩,some ⟨1,.lst (kp.map .str++[.str t.nm])⟩,some ⟨0,.str t.nm⟩,some ⟨0,tiePV t⟩,some ⟨0,.str (g t.one)⟩,some ⟨0,.str (g t.oth)⟩]
  subst hN'
  show dcGo _ _ _ _ _ _ ((ps.map fun p=>((aaG p:Key),PV.str (g p))).map pairP) _ []
  rw [aaJ]
  refine eB (done:=[]) (α:=Str) (fun p=>p) (fun p=>PV.str (if g p=g t.oth then g t.one else g p)) (pairP ∘ fun p=>((aaG p:Key),PV.str (g p))) (by simpa using pn) (fun p hp R hR=>?_) (by simp; omega) ?_
  ·refine ⟨rfl,?_⟩
   show opt (eqqPV (.str (g p)) (.str (g t.oth))) _
   refine aa (eq_str _ _) ?_
   show opt (some (g p==g t.oth)) _
   refine opt_some.mpr ?_
   by_cases z:g p=g t.oth
   ·rw [if_pos z] at hR
    rw [beq_iff_eq.mpr z]
    exact hR
   ·rw [if_neg z] at hR
    rw [beq_eq_false_iff_ne.mpr z]
    exact hR
  ·refine k _ ⟨some ⟨0,.str t.nm⟩,some ⟨0,tiePV t⟩,some ⟨0,.str (g t.one)⟩,some ⟨0,.str (g t.oth)⟩,?_⟩
   have e:(kp++[t.nm]).map PV.str=kp.map PV.str++[.str t.nm]:=by rw [aa4]; rfl
   rw [e]
   rfl
end Pre
namespace Pre
open PySem L2 Q
theorem i9 (xs:List PV) (P:PV->Prop) (h:be xs P):Q.run 1 bL xs P:=by
 obtain ⟨ps,ts,rfl,hl,nd,h⟩:=h
 unfold bL
 lia
 simp only [eDC]
 lia
 refine aa (net1 ps ts) ?_
 lia
 refine eB (done:=[]) Tie.nm tiePV tiePV nd (fun t ht R hR=>?_) (by simp; omega) h
 show opt (ixPV (tiePV t) (.int 0)) _
 refine aa (z:=.str t.nm) (aj (j:=0) rfl) ?_
 exact hR
theorem jw {w:Str} {P:PV->Prop} (h:IsWord w) (k:P (.bl true)):bD [.str w] P:=⟨_,rfl,pG h,by rw [show wordP (.str w)=true from wordB_iff.mpr h]; exact k⟩
theorem fC (xs:List PV) (P:PV->Prop) (h:bj xs P):Q.run 1 bh xs P:=by
 obtain ⟨a,b,c,rfl,ha,hb,ne,h⟩:=h
 unfold bh
 refine ah fun N hN=>aP fun A1 B1 hA1 hB1=>?_
 lia
 refine aa (z:=.bl false) rfl ?_
 lia
 refine aa (z:=.str a) (aj (j:=0) rfl) (jw ha (aa (z:=true) rfl ?_))
 rw [if_neg (by simp)]
 refine aa (z:=.str b) (aj (j:=1) rfl) (jw hb (aa (z:=true) rfl ?_))
 rw [if_neg (by simp)]
 subst hB1
 show N _
 subst hN
 lia
 refine aa (z:=.str a) (aj (j:=0) rfl) (aa (z:=.str b) (aj (j:=1) rfl) (aa (fF a b) ?_))
 rw [decide_eq_false ne]
 refine aa (z:=true) rfl ?_
 rw [if_pos rfl]
 exact aa (z:=.int c) (aj (j:=2) rfl) ⟨.int c,rfl,trivial,h⟩
theorem pP {x y:Str} (h:(x==y)=false):eqqPV (.str x) (.str y)=some (.bl false):=by rw [eq_str,h]
theorem rA (x:Str):eqqPV (.str x) (.str x)=some (.bl true):=by rw [eq_str]; simp
theorem dB {k w:Str} {rest:List PV} {P:PV->Prop} (hk:IsWord k) (hw:IsWord w) (hl:rest.length<=10)
  (h:(k = "tie" /\ bj [.tup rest] P)\/(k = "cost" /\ ∃ c:Int,rest=[.int c]/\P (.bl true))\/(((k == "tie")=false/\(k == "cost")=false/\k∈[aaN "place", "leave", "untie"])/\rest=[]/\P (.bl true))) :
  Q.run 2 cg [.tup (.str k::.str w::rest)] P:=by
 unfold cg
 refine ah fun N hN=>aP fun A1 B1 hA1 hB1=>?_
 lia
 refine aa (z:=.str k) (aj (j:=0) rfl) (jw hk (aa (z:=true) rfl ?_))
 rw [if_neg (by simp)]
 refine aa (z:=.str w) (aj (j:=1) rfl) (jw hw (aa (z:=true) rfl ?_))
 rw [if_neg (by simp)]
 subst hB1
 show N _
 subst hN
 refine ah fun N hN=>?_
 lia
 have ec:cutP (.str k::.str w::rest) (some (2:Int)) none=rest:=by rw [show (2:Int)=((2:Nat):Int) from rfl,gX]; rfl
 rw [ec]
 show N [some ⟨0,.tup (.str k::.str w::rest)⟩,some ⟨0,.tup rest⟩]
 subst hN
 refine ah fun N hN=>aP fun A1 B1 hA1 hB1=>?_
 lia
 refine aa (z:=.str k) (aj (j:=0) rfl) ?_
 rcases h with ⟨rfl,h⟩ | ⟨rfl,c,rfl,h⟩ | ⟨⟨n1,n2,hm⟩,rfl,h⟩
 ·refine aa (rA _) ?_
  lia
  subst hA1
  lia
  exact h
 ·refine aa (pP (by decide +kernel)) ?_
  lia
  subst hB1
  show N _
  subst hN
  refine ah fun N hN=>aP fun A1 B1 hA1 hB1=>?_
  lia
  refine aa (z:=.str "cost") (aj (j:=0) rfl) (aa (rA _) ?_)
  lia
  subst hA1
  lia
  refine aa (z:=.bl true) rfl ?_
  lia
  exact aa (z:=.int c) (aj (j:=0) rfl) ⟨.int c,rfl,trivial,h⟩
 ·refine aa (pP n1) ?_
  lia
  subst hB1
  show N _
  subst hN
  refine ah fun N hN=>aP fun A1 B1 hA1 hB1=>?_
  lia
  refine aa (z:=.str k) (aj (j:=0) rfl) (aa (pP n2) ?_)
  lia
  subst hB1
  show N _
  subst hN
  lia
  refine aa (z:=.str k) (aj (j:=0) rfl) (aa (eY (ys:=["place", "leave", "untie"])) ?_)
  rw [decide_eq_true (by simpa using hm)]
  lia
  exact aa (z:=.bl true) rfl h
theorem tW:IsWord "place" := wordB_iff.mp (by decide +kernel)
theorem tX:IsWord "leave" := wordB_iff.mp (by decide +kernel)
theorem xo:IsWord "tie" := wordB_iff.mp (by decide +kernel)
theorem tV:IsWord "untie" := wordB_iff.mp (by decide +kernel)
theorem vH:IsWord "cost" := wordB_iff.mp (by decide +kernel)
theorem nY (xs:List PV) (P:PV->Prop) (h:fx xs P):Q.run 2 cg xs P:=by
 obtain ⟨d,rfl,hd,h⟩:=h
 cases d with
 | pla p=>exact dB tW hd (by simp) (.inr (.inr ⟨⟨by decide +kernel,by decide +kernel,by simp⟩,rfl,h⟩))
 | lea p=>exact dB tX hd (by simp) (.inr (.inr ⟨⟨by decide +kernel,by decide +kernel,by simp⟩,rfl,h⟩))
 | tie n a b c=>exact dB xo hd.1 (by simp) (.inl ⟨rfl,a,b,c,rfl,hd.2.1,hd.2.2.1,hd.2.2.2,h⟩)
 | unt n=>exact dB tV hd (by simp) (.inr (.inr ⟨⟨by decide +kernel,by decide +kernel,by simp⟩,rfl,h⟩))
 | cos n c=>exact dB vH hd (by simp) (.inr (.inl ⟨rfl,c,rfl,h⟩))
end Pre
namespace Pre
open PySem L2 Q
theorem rY {a b:List Str} (h:a.length+b.length<=100000):addPV (.tup (a.map .str)) (.tup (b.map .str))=some (.tup ((a++b).map .str)):=by
 show (if (a.map PV.str).length+(b.map PV.str).length<=100000 then some (PV.tup (a.map .str++b.map .str)) else none)=_
 rw [aae,aae,if_pos h,aa4]
noncomputable def offS (p:Str):PV->Option PV
 | .str q=>if q=p then none else some (.str q)
 | _=>none
noncomputable def offT (n:Str):PV->Option PV
 | .tup (.str q::r)=>if q=n then none else some (.tup (.str q::r))
 | _=>none
noncomputable def cosT (n:Str) (c:Int):PV->PV
 | .tup [.str q,a,b,d]=>if q=n then .tup [.str q,a,b,.int c] else .tup [.str q,a,b,d]
 | x=>x
theorem jf (p:Str):∀ ps:List Str,(ps.map PV.str).filterMap (offS p)=(ps.filter fun q=>!decide (q=p)).map .str
 | []=>rfl
 | q::qs=>by
  rw [aao,aaY,acS]
  by_cases e:q=p
  ·simp only [offS,e,if_true,decide_true,ab7,aaR,if_false]; exact jf p qs
  ·simp only [offS,e,if_false,decide_false,acr,if_true,aao]; rw [jf p qs]
theorem je (n:Str):∀ ts:List Tie,(ts.map tiePV).filterMap (offT n)=(ts.filter fun t=>!decide (t.nm=n)).map tiePV
 | []=>rfl
 | t::us=>by
  rw [aao,aaY,acS]
  by_cases e:t.nm=n
  ·simp only [offT,tiePV,e,if_true,decide_true,ab7,aaR,if_false]; exact je n us
  ·simp only [offT,tiePV,e,if_false,decide_false,acr,if_true,aao]; exact congrArg _ (je n us)
theorem jI (xs:List PV) (P:PV->Prop) (h:bZ xs P):Q.run 3 bX xs P:=by
 obtain ⟨ps,ts,p,rfl,S,⟨hw,hp⟩,h⟩:=h
 unfold bX
 refine ah fun N hN=>?_
 lia
 refine aa (z:=.str p) (aj (j:=1) rfl) ?_
 show N [some ⟨0,netPV ps ts⟩,some ⟨0,deedPV (.pla p)⟩,some ⟨0,.str p⟩]
 subst hN
 refine ah fun N hN=>aP fun A1 B1 hA1 hB1=>?_
 lia
 refine aa (net0 ps ts) (aa eY ?_)
 rw [decide_eq_false hp]
 lia
 subst hB1
 show N _
 subst hN
 simp only [sRet,eTup,eCB,aCons,eSortT]
 lia
 refine aa (net0 ps ts) (aa (rY (b:=[p]) (by have:=S.pl; simp; omega)) ?_)
 refine ⟨_,jB _,by rw [aau]; have:=S.pl; simp; omega,fun gs up=>aa rfl (aa (net1 ps ts) ?_)⟩
 have nd:(ps++[p]).Nodup:=by
  rw [ack]
  exact ⟨dM S.ok.rise,by simp,fun a ha b hb e=>hp (by rw [<- List.mem_singleton.mp hb,<- e]; exact ha)⟩
 have e:gs=insS p ps:=hV (up.1.trans (eU p ps).symm) (kj up.2 (up.1.nodup_iff.mpr nd)) (lD S.ok.rise hp)
 subst e
 exact h
theorem ja (xs:List PV) (P:PV->Prop) (h:bV xs P):Q.run 3 bM xs P:=by
 obtain ⟨ps,ts,p,rfl,S,hp,h⟩:=h
 have hp:p∈ps:=hp
 have hl:=S.pl
 unfold bM
 refine ah fun N hN=>?_
 lia
 refine aa (z:=.str p) (aj (j:=1) rfl) ?_
 show N [some ⟨0,netPV ps ts⟩,some ⟨0,deedPV (.lea p)⟩,some ⟨0,.str p⟩]
 subst hN
 refine ah fun N hN=>aP fun A1 B1 hA1 hB1=>?_
 lia
 refine aa (net0 ps ts) (aa (z:=.bl false) ?_ ?_)
 ·show (inB (.str p) (.tup (ps.map .str))).map (fun b=>PV.bl (!b))=_
  rw [ig,decide_eq_true hp]; rfl
 lia
 subst hB1
 show N _
 subst hN
 simp only [sRet,eTup,eCB,aCons,eLC]
 lia
 refine aa (net0 ps ts) ?_
 lia
 refine bw (offS p) (fun x hx R hR=>?_) (by simp; omega) ?_
 ·obtain ⟨q,hq,rfl⟩:=List.mem_map.mp hx
  show opt (nePV (.str q) (.str p)) _
  refine aa (fF q p) ?_
  have hR:R (if q=p then none else some (.str q)) _:=hR
  by_cases e:q=p
  ·rw [decide_eq_true e]
   rw [if_pos e] at hR
   exact aa (z:=false) rfl hR
  ·rw [decide_eq_false e]
   rw [if_neg e] at hR
   exact aa (z:=true) rfl hR
 rw [aaV]
 rw [jf]
 exact aa rfl (aa (net1 ps ts) h)
theorem rD {ts:List Tie} {n:Str}:(valP (ts.map fun t=>((aaG t.nm:Key),tiePV t)) (aaG n)).isSome=decide (n∈ts.map Tie.nm):=by
 induction ts with
 | nil=>rfl
 | cons t ts ih =>
  rw [aao]
  by_cases e:t.nm=n
  ·rw [show valP ((aaG t.nm,tiePV t)::ts.map fun t=>((aaG t.nm:Key),tiePV t)) (aaG n)=some (tiePV t) from by simp [valP,abx,e]]
   simp [e]
  ·have e2:valP ((aaG t.nm,tiePV t)::ts.map fun t=>((aaG t.nm:Key),tiePV t)) (aaG n)=valP (ts.map fun t=>((aaG t.nm:Key),tiePV t)) (aaG n):=by simp [valP,abx,e]
   rw [e2,ih]
   simp [abr e]
theorem xC {ts:List Tie} {n:Str}:inPV (.str n) (.dic (ts.map fun t=>((aaG t.nm:Key),tiePV t)))=some (.bl (decide (n∈ts.map Tie.nm))):=by
 show some (PV.bl (valP (ts.map fun t=>((aaG t.nm:Key),tiePV t)) (aaG n)).isSome)=_
 rw [rD]
theorem qM {ts:List Tie} {n:Str}:ninPV (.str n) (.dic (ts.map fun t=>((aaG t.nm:Key),tiePV t)))=some (.bl (!decide (n∈ts.map Tie.nm))):=by
 show some (PV.bl (!(valP (ts.map fun t=>((aaG t.nm:Key),tiePV t)) (aaG n)).isSome))=_
 rw [rD]
theorem mP (xs:List PV) (P:PV->Prop) (h:cW xs P):Q.run 3 cF xs P:=by
 obtain ⟨ps,ts,n,rfl,S,hn,h⟩:=h
 have hn:n∈ts.map Tie.nm:=hn
 have hl:=S.tl
 unfold cF
 refine ah fun N hN=>?_
 lia
 refine aa (z:=.str n) (aj (j:=1) rfl) ?_
 show N [some ⟨0,netPV ps ts⟩,some ⟨0,deedPV (.unt n)⟩,some ⟨0,.str n⟩]
 subst hN
 refine ah fun N hN=>aP fun A1 B1 hA1 hB1=>?_
 lia
 refine ⟨ps,ts,rfl,by omega,aW S.ok,aa qM ?_⟩
 rw [decide_eq_true hn]
 lia
 subst hB1
 show N _
 subst hN
 simp only [sRet,eTup,eCB,aCons,eLC]
 lia
 refine aa (net0 ps ts) (aa (net1 ps ts) ?_)
 lia
 refine bw (offT n) (fun x hx R hR=>?_) (by simp; omega) ?_
 ·obtain ⟨t,ht,rfl⟩:=List.mem_map.mp hx
  show opt (ixPV (tiePV t) (.int 0)) _
  refine aa (z:=.str t.nm) (aj (j:=0) rfl) ?_
  refine aa (fF t.nm n) ?_
  have hR:R (if t.nm=n then none else some (tiePV t)) _:=hR
  by_cases e:t.nm=n
  ·rw [decide_eq_true e]
   rw [if_pos e] at hR
   exact aa (z:=false) rfl hR
  ·rw [decide_eq_false e]
   rw [if_neg e] at hR
   exact aa (z:=true) rfl hR
 rw [aaV]
 rw [je]
 exact aa rfl h
theorem lZ (xs:List PV) (P:PV->Prop) (h:cp xs P):Q.run 4 ck xs P:=by
 obtain ⟨ps,ts,n,c,rfl,S,⟨hn,hc⟩,h⟩:=h
 have hl:=S.tl
 unfold ck
 refine ah fun N hN=>?_
 lia
 have ec:cutP [PV.str "cost",.str n,.int c] (some (1:Int)) none=[.str n,.int c]:=by rw [show (1:Int)=((1:Nat):Int) from rfl,gX]; rfl
 refine aa (z:=.tup [.str n,.int c]) (by show some (PV.tup (cutP [PV.str "cost",.str n,.int c] (some (1:Int)) none))=_; rw [ec]) ?_
 lia
 show N [some ⟨0,netPV ps ts⟩,some ⟨0,deedPV (.cos n c)⟩,some ⟨0,.str n⟩,some ⟨0,.int c⟩]
 subst hN
 refine ah fun N hN=>aP fun A1 B1 hA1 hB1=>?_
 lia
 refine ⟨ps,ts,rfl,by omega,aW S.ok,aa qM ?_⟩
 rw [decide_eq_true hn]
 lia
 subst hB1
 show N _
 subst hN
 simp only [sRet,eTup,eCB,aCons,eLC,eIf]
 lia
 refine aa (net0 ps ts) (aa (net1 ps ts) ?_)
 lia
 refine cr (cosT n c) (fun x hx R hR=>?_) (by simp; omega) ?_
 ·obtain ⟨t,ht,rfl⟩:=List.mem_map.mp hx
  show opt (ixPV (tiePV t) (.int 0)) _
  refine aa (z:=.str t.nm) (aj (j:=0) rfl) ?_
  refine aa (eq_str t.nm n) ?_
  have hR:R (if t.nm=n then .tup [.str t.nm,.str t.one,.str t.oth,.int c] else tiePV t) _:=hR
  by_cases e:t.nm=n
  ·rw [if_pos e] at hR
   rw [show (t.nm==n)=true from by simpa using e]
   lia
   refine aa (z:=.tup [.str t.nm,.str t.one,.str t.oth]) ?_ (aa rfl hR)
   show some (PV.tup (cutP [PV.str t.nm,.str t.one,.str t.oth,.int t.cost] none (some (3:Int))))=_
   rw [show (3:Int)=((3:Nat):Int) from rfl,dR]; rfl
  ·rw [if_neg e] at hR
   rw [show (t.nm==n)=false from by simpa using e]
   lia
   exact hR
 rw [aaV]
 have e:(ts.map tiePV).map (cosT n c)=(chgT ts (.cos n c)).map tiePV:=by
  show _=(ts.map fun t=>if t.nm=n then { t with cost:=c } else t).map tiePV
  rw [aaJ,aaJ]
  refine aa7 fun t _=>?_
  show (if t.nm=n then PV.tup [.str t.nm,.str t.one,.str t.oth,.int c] else tiePV t)=tiePV (if t.nm=n then { t with cost:=c } else t)
  split <;> rfl
 rw [e]
 exact aa rfl h
end Pre
namespace Pre
open PySem L2 Q
theorem rV (ts:List Tie):(ts.map tiePV).mapM fstS=some (ts.map Tie.nm):=by
 induction ts with
 | nil=>rfl
 | cons t ts ih=>rw [aao,abw,ih]; rfl
theorem qe {ts:List Tie} {ix:List Nat} (h:∀ i∈ix,i<ts.length):(ix.map fun i=>(ts.map tiePV).getD i .non)=(ix.map fun i=>ts.getD i t0).map tiePV:=by
 rw [aaJ]
 refine aa7 fun i hi=>?_
 show (ts.map tiePV).getD i .non=tiePV (ts.getD i t0)
 rw [aah,aah,aal,aab (h i hi)]; rfl
theorem uH {ts:List Tie} {ix:List Nat} (h:∀ i∈ix,i<ts.length):(ix.map fun i=>(ts.map Tie.nm).getD i ⟨#[]⟩)=(ix.map fun i=>ts.getD i t0).map Tie.nm:=by
 rw [aaJ]
 refine aa7 fun i hi=>?_
 show (ts.map Tie.nm).getD i ⟨#[]⟩=(ts.getD i t0).nm
 rw [aah,aah,aal,aab (h i hi)]; rfl
theorem nM {us vs:List Tie} {ix:List Nat} (hp:us.Perm vs) (hv:(vs.map Tie.nm).Pairwise ltS) (hl:ix.length=us.length) (lt:∀ i∈ix,i<us.length) (up:(ix.map fun i=>(us.map Tie.nm).getD i ⟨#[]⟩).Pairwise ltS) :
  (ix.map fun i=>(us.map tiePV).getD i .non)=vs.map tiePV:=by
 rw [qe lt]
 rw [uH lt] at up
 have nd:ix.Nodup:=by
  have h1:=dM up
  rw [aaJ] at h1
  exact List.nodup_iff_pairwise_ne.mpr ((List.pairwise_map.mp (List.nodup_iff_pairwise_ne.mp h1)).imp fun h e=>h (congrArg _ e))
 rw [iV ((oV hl nd lt).trans hp) up hv]
theorem wT {ts:List Tie} {t:Tie} (h:ts.length<=60):addPV (.tup (ts.map tiePV)) (.tup [tiePV t])=some (.tup ((ts++[t]).map tiePV)):=by
 show (if (ts.map tiePV).length+1<=100000 then some (PV.tup (ts.map tiePV++[tiePV t])) else none)=_
 rw [aae,if_pos (by omega),aa4]; rfl
theorem l0 (xs:List PV) (P:PV->Prop) (h:cq xs P):Q.run 7 cm xs P:=by
 obtain ⟨ps,ts,n,a,b,c,rfl,S,⟨hn,ha,hb,hab,hnt,hc⟩,h⟩:=h
 have hl:=S.tl
 unfold cm
 refine ah fun N hN=>?_
 lia
 have ec:cutP [PV.str "tie",.str n,.str a,.str b,.int c] (some (1:Int)) none=[.str n,.str a,.str b,.int c]:=by rw [show (1:Int)=((1:Nat):Int) from rfl,gX]; rfl
 refine aa (z:=.tup [.str n,.str a,.str b,.int c]) (by show some (PV.tup (cutP [PV.str "tie",.str n,.str a,.str b,.int c] (some (1:Int)) none))=_; rw [ec]) ?_
 lia
 show N [some ⟨0,netPV ps ts⟩,some ⟨0,deedPV (.tie n a b c)⟩,some ⟨0,.str n⟩,some ⟨0,.str a⟩,some ⟨0,.str b⟩,some ⟨0,.int c⟩,none]
 subst hN
 refine ah fun N hN=>aP fun A1 B1 hA1 hB1=>?_
 lia
 refine ⟨ps,ts,rfl,by omega,aW S.ok,aa xC ?_⟩
 rw [decide_eq_false hnt]
 lia
 subst hB1
 show N _
 subst hN
 refine ah fun N hN=>?_
 lia
 refine aa (z:=.str (minS a b)) rfl (aa (z:=.str (maxS a b)) rfl ?_)
 show N [some ⟨0,netPV ps ts⟩,some ⟨0,deedPV (.tie n a b c)⟩,some ⟨0,.str n⟩,some ⟨0,.str a⟩,some ⟨0,.str b⟩,some ⟨0,.int c⟩,some ⟨0,tiePV (mkT n a b c)⟩]
 subst hN
 simp only [sRet,eTup,eCB,aCons,kW]
 lia
 refine aa (net0 ps ts) (aa (net1 ps ts) (aa (wT hl) ?_))
 have nd:((ts++[mkT n a b c]).map Tie.nm).Nodup:=by
  rw [aa4,ack]
  exact ⟨aW S.ok,by simp,fun x hx y hy e=>hnt (by rw [show y=n from List.mem_singleton.mp hy] at e; rw [<- e]; exact hx)⟩
 refine ⟨_,rV _,nd,by rw [aae,aau]; simp; omega,fun ix i1 i2 i3=>aa rfl ?_⟩
 rw [nM (eS (mkT n a b c) ts).symm (lC S.ok.names hnt) (by simpa using i1) (by simpa using i2) i3]
 exact h
theorem xD {ps:List Str} {ts:List Tie} (S:NetOk ps ts) {d:Deed} (h:DOk ps ts d):DW d:=by
 have nm:∀ n,n∈ts.map Tie.nm->IsWord n:=fun n hn=>by
  obtain ⟨t,ht,rfl⟩:=List.mem_map.mp hn
  exact (S.tie t ht).nm
 cases d with
 | pla p=>exact h.1
 | lea p=>exact S.word p h
 | tie n a b c=>exact ⟨h.1,h.2.1,h.2.2.1,h.2.2.2.1⟩
 | unt n=>exact nm n h
 | cos n c=>exact nm n h.1
theorem nZ (xs:List PV) (P:PV->Prop) (h:aV xs P):Q.run 3 dl xs P:=by
 obtain ⟨ps,ts,d,rfl,S,hd,h⟩:=h
 unfold dl
 refine ah fun N hN=>aP fun A1 B1 hA1 hB1=>?_
 lia
 refine ⟨d,rfl,xD S.ok hd,?_⟩
 refine aa (z:=true) rfl ?_
 rw [if_neg (by simp)]
 subst hB1
 show N _
 subst hN
 simp only [sDisp]
 lia
 cases d with
 | pla p =>
  refine aa (z:=.str "place") (aj (j:=0) rfl) ?_
  exact ⟨_,rfl,ps,ts,p,rfl,S,hd,h⟩
 | lea p =>
  refine aa (z:=.str "leave") (aj (j:=0) rfl) ?_
  exact ⟨_,rfl,ps,ts,p,rfl,S,hd,h⟩
 | tie n a b c =>
  refine aa (z:=.str "tie") (aj (j:=0) rfl) ?_
  exact ⟨_,rfl,ps,ts,n,a,b,c,rfl,S,hd,h⟩
 | unt n =>
  refine aa (z:=.str "untie") (aj (j:=0) rfl) ?_
  exact ⟨_,rfl,ps,ts,n,rfl,S,hd,h⟩
 | cos n c =>
  refine aa (z:=.str "cost") (aj (j:=0) rfl) ?_
  exact ⟨_,rfl,ps,ts,n,c,rfl,S,hd,h⟩
end Pre
namespace Pre
open PySem L2 Q
theorem wo (c:PV) (xs:List PV) (P:PV->PV->Prop) (h:eG c xs P):Q.runO 2 jz c xs P:=by
 obtain ⟨rfl,ys,hx,hne,hl,h⟩:=h
 have hp:0<ys.length:=List.length_pos_iff.mpr hne
 unfold jz
 rcases hx with rfl | rfl
 ·lia
  refine draw (by omega) (by omega) fun r hr=>?_
  refine aa (z:=ys[r]'(by omega)) (aj (aab (by omega))) ?_
  exact h _ (abI _)
 ·lia
  refine draw (by omega) (by omega) fun r hr=>?_
  refine aa (z:=ys[r]'(by omega)) (aj (aab (by omega))) ?_
  exact h _ (abI _)
theorem uU {ws tk:List Str} (nd:ws.Nodup) (h:tk.length<ws.length):ws.filter (fun w=>!decide (w∈tk))≠[]:=fun e=>by
 have:∀ w∈ws,w∈tk:=fun w hw=>abR fun hn=>by
  have:w∈ws.filter (fun w=>!decide (w∈tk)):=List.mem_filter.mpr ⟨hw,by simp [hn]⟩
  rw [e] at this; cases this
 have:=dy nd this
 omega
noncomputable def notIn (tk:List Str):PV->Option PV
 | .str w=>if w∈tk then none else some (.str w)
 | _=>none
theorem bK (tk:List Str):∀ ws:List Str,(ws.map PV.str).filterMap (notIn tk)=(ws.filter fun w=>!decide (w∈tk)).map .str
 | []=>rfl
 | w::ws=>by
  rw [aao,aaY,acS]
  by_cases e:w∈tk
  ·simp only [notIn,e,if_true,decide_true,ab7,aaR,if_false]; exact bK tk ws
  ·simp only [notIn,e,if_false,decide_false,acr,if_true,aao]; rw [bK tk ws]
theorem mr {tk:List Str} {w:Str}:ninPV (.str w) (.tup (tk.map .str))=some (.bl (!decide (w∈tk))):=by
 show (inB (.str w) (.tup (tk.map .str))).map (fun b=>PV.bl (!b))=_
 rw [ig]; rfl
theorem tN {tk:List Str} {w:Str}:ninPV (.str w) (.lst (tk.map .str))=some (.bl (!decide (w∈tk))):=by
 show (inB (.str w) (.lst (tk.map .str))).map (fun b=>PV.bl (!b))=_
 rw [sQ]; rfl
theorem de {tk:List Str} {x:PV} {w:Str} {R:Option PV->En->Prop} {e:En} {E1 E2:En} (hx:ninPV (.str w) x=some (.bl (!decide (w∈tk)))) (hR:R (notIn tk (.str w)) e) (h1:E1=e) (h2:E2=e) :
  opt (ninPV (.str w) x) fun z=>opt (match z with | .bl b=>some b | _=>none) fun ok=>if ok=true then R (some (.str w)) E1 else R none E2:=by
 subst h1 h2
 refine aa hx ?_
 have hR:R (if w∈tk then none else some (.str w)) _:=hR
 by_cases z:w∈tk
 ·rw [decide_eq_true z]; rw [if_pos z] at hR; exact aa (z:=false) rfl hR
 ·rw [decide_eq_false z]; rw [if_neg z] at hR; exact aa (z:=true) rfl hR
theorem qG (c:PV) (xs:List PV) (P:PV->PV->Prop) (h:fg c xs P):Q.runO 2 eN c xs P:=by
 obtain ⟨rfl,tk,hx,hl,h⟩:=h
 unfold eN
 have fin:∀ ws:List Str,ws.length=31->ws.Nodup->(∀ x∈ws,IsWord x)->∃ w,ixPV (.lst ((ws.filter fun w=>!decide (w∈tk)).map .str)) (.int 0)=some (.str w)/\IsWord w/\w∉tk:=fun ws hw nd ww=>by
  cases e:ws.filter (fun w=>!decide (w∈tk)) with
  | nil=>exact absurd e (uU nd (by omega))
  | cons w r =>
   have hm:w∈ws.filter (fun w=>!decide (w∈tk)):=by rw [e]; exact aat
   obtain ⟨m1,m2⟩:=List.mem_filter.mp hm
   exact ⟨w,aj (j:=0) rfl,ww w m1,by simpa using m2⟩
 rcases hx with rfl | rfl
 ·lia
  try simp only [eLC]
  try lia
  refine ⟨rfl,31,rfl,by decide,fun ws hw nd ww=>?_⟩
  try lia
  refine bw (notIn tk) (fun x hx R hR=>?_) (by simp; omega) ?_
  ·obtain ⟨w,hw,rfl⟩:=List.mem_map.mp hx
   exact de tN hR rfl rfl
  rw [aaV,bK]
  obtain ⟨w,w1,w2,w3⟩:=fin ws hw nd ww
  exact aa w1 (h w w2 w3)
 ·lia
  try simp only [eLC]
  try lia
  refine ⟨rfl,31,rfl,by decide,fun ws hw nd ww=>?_⟩
  try lia
  refine bw (notIn tk) (fun x hx R hR=>?_) (by simp; omega) ?_
  ·obtain ⟨w,hw,rfl⟩:=List.mem_map.mp hx
   exact de mr hR rfl rfl
  rw [aaV,bK]
  obtain ⟨w,w1,w2,w3⟩:=fin ws hw nd ww
  exact aa w1 (h w w2 w3)
end Pre
namespace Pre
open PySem L2 Q
theorem kJ {a b:List Str} (h:a.length+b.length<=100000):addPV (.lst (a.map .str)) (.lst (b.map .str))=some (.lst ((a++b).map .str)):=by
 show (if (a.map PV.str).length+(b.map PV.str).length<=100000 then some (PV.lst (a.map .str++b.map .str)) else none)=_
 rw [aae,aae,if_pos h,aa4]
theorem ph {ws:List Str} {i:Int} (h0:0<=i) (h1:i<ws.length):∃ w,ws[i.toNat]?=some w/\w∈ws/\ixPV (.lst (ws.map .str)) (.int i)=some (.str w):=by
 have hl:i.toNat<ws.length:=by omega
 obtain ⟨w,hw⟩:∃ w,ws[i.toNat]?=some w:=⟨_,aab hl⟩
 refine ⟨w,hw,abf hw,?_⟩
 have e:i=((i.toNat:Nat):Int):=by omega
 rw [e]
 exact aj (by rw [aal,hw]; rfl)
theorem n5 (c:PV) (xs:List PV) (P:PV->PV->Prop) (h:cj c xs P):Q.runO 7 dn c xs P:=by
 obtain ⟨rfl,ps,ts,far,rfl,ok,hp,ht,hf,fn,fw,h⟩:=h
 unfold dn
 refine ah fun N hN=>?_
 lia
 refine aa (net0 ps ts) (aa rfl (aa (kJ (by omega)) ?_))
 show N [some ⟨2,.non⟩,some ⟨0,netPV ps ts⟩,some ⟨0,.lst (far.map .str)⟩,some ⟨0,.lst ((ps++far).map .str)⟩,none,none,none]
 subst hN
 have pn:(ps++far).Nodup:=by
  rw [ack]
  exact ⟨dM ok.rise,fn,fun a ha b hb e=>(fw b hb).2 (e ▸ ha)⟩
 have pw:∀ x∈ps++far,IsWord x:=fun x hx=>by
  rcases List.mem_append.mp hx with z | z
  ·exact ok.word x z
  ·exact (fw x z).1
 have pl:(ps++far).length<=72:=by rw [aau]; omega
 generalize ps++far=pool at pn pw pl ⊢
 refine ah fun N hN=>aP fun A1 B1 hA1 hB1=>?_
 have tail:∀ pool:List Str,pool.Nodup->(∀ x∈pool,IsWord x)->pool.length<=100->2<=pool.length->N [some ⟨2,.non⟩,some ⟨0,netPV ps ts⟩,some ⟨0,.lst (far.map .str)⟩,some ⟨0,.lst (pool.map .str)⟩,none,none,none]:=by
  intro pool pn pw pl p2
  subst hN
  refine ah fun N hN=>?_
  lia
  rw [aae]
  refine drawI (by omega) (by omega) fun a a0 a1=>?_
  try lia
  show N [some ⟨2,.non⟩,some ⟨0,netPV ps ts⟩,some ⟨0,.lst (far.map .str)⟩,some ⟨0,.lst (pool.map .str)⟩,some ⟨0,.int a⟩,none,none]
  subst hN
  refine ah fun N hN=>?_
  lia
  rw [aae]
  refine aa ba (aa cJ ?_)
  refine drawI (by omega) (by omega) fun d d0 d1=>?_
  refine aa ba (aa (er (by omega)) ?_)
  have t:=turn a d pool.length (by omega) a0 a1 d0 d1
  obtain ⟨y,y1,y2,y3⟩:=ph t.1 t.2.1
  refine aa y3 ?_
  show N [some ⟨2,.non⟩,some ⟨0,netPV ps ts⟩,some ⟨0,.lst (far.map .str)⟩,some ⟨0,.lst (pool.map .str)⟩,some ⟨0,.int a⟩,some ⟨0,.str y⟩,none]
  subst hN
  obtain ⟨x,x1,x2,x3⟩:=ph a0 a1
  have hxy:x≠y:=fun e=>by
   subst e
   have l1:a.toNat<pool.length:=by omega
   have l2:((a+1+d) % (pool.length:Int)).toNat<pool.length:=by have:=t.1; have:=t.2.1; omega
   rw [aab l1] at x1
   rw [aab l2] at y1
   have:=(act pn).mp ((aar x1).trans (aar y1).symm)
   have:=t.1
   exact t.2.2 (by omega)
  refine ah fun N hN=>?_
  simp only [sSet,eCallO,aCons,eLC]
  lia
  refine aa (net1 ps ts) ?_
  lia
  refine cr (fun z=>match z with | .tup (.str q::_)=>.str q | _=>.non) (fun z hz R hR=>?_) (by simp; omega) ?_
  ·obtain ⟨t,ht,rfl⟩:=List.mem_map.mp hz
   exact aa (z:=.str t.nm) (aj (j:=0) rfl) hR
  rw [aaV]
  have en:(ts.map tiePV).map (fun z=>match z with | .tup (.str q::_)=>PV.str q | _=>.non)=(ts.map Tie.nm).map .str:=by
   rw [aaJ,aaJ]; rfl
  rw [en]
  refine ⟨rfl,ts.map Tie.nm,.inl rfl,by rw [aae]; omega,fun n n1 n2=>?_⟩
  show N [some ⟨2,.non⟩,some ⟨0,netPV ps ts⟩,some ⟨0,.lst (far.map .str)⟩,some ⟨0,.lst (pool.map .str)⟩,some ⟨0,.int a⟩,some ⟨0,.str y⟩,some ⟨0,.str n⟩]
  subst hN
  lia
  refine aa x3 ?_
  try lia
  refine drawI (by omega) (by omega) fun q q0 q1=>?_
  refine ⟨rfl,q,rfl,fun co c0 c1=>?_⟩
  exact h n x y co ⟨n1,pw x x2,pw y y2,hxy,n2,c0,c1⟩
 have grow:∀ w0:En,w0=[some ⟨2,.non⟩,some ⟨0,netPV ps ts⟩,some ⟨0,.lst (far.map .str)⟩,some ⟨0,.lst (pool.map .str)⟩,none,none,none]->A1 { endO P with nx:=N } w0:=by
  rintro _ rfl
  subst hA1
  simp only [sSet,eSl,eLC]
  lia
  refine ⟨rfl,14,rfl,by decide,fun ws hw wn ww=>?_⟩
  try lia
  refine bw (notIn pool) (fun x hx R hR=>?_) (by simp; omega) ?_
  ·obtain ⟨w,hw,rfl⟩:=List.mem_map.mp hx
   exact de tN hR rfl rfl
  rw [aaV,bK]
  refine aa (z:=.lst (((ws.filter fun w=>!decide (w∈pool)).take 2).map .str)) ?_ (aa (kJ (by rw [aba]; omega)) ?_)
  ·show some (PV.lst (cutP ((ws.filter fun w=>!decide (w∈pool)).map PV.str) none (some (2:Int))))=_
   rw [show (2:Int)=((2:Nat):Int) from rfl,dR,ael]
  have m0:∀ x∈(ws.filter fun w=>!decide (w∈pool)).take 2,x∈ws/\x∉pool:=fun x hx=>by
   obtain ⟨m1,m2⟩:=List.mem_filter.mp (adV hx)
   exact ⟨m1,by simpa using m2⟩
  refine tail _ ?_ (fun x hx=>?_) (by rw [aau,aba]; omega) ?_
  ·rw [ack]
   exact ⟨pn,(wn.sublist ab6).sublist (acJ _ _),fun a ha b hb e=>(m0 b hb).2 (e ▸ ha)⟩
  ·rcases List.mem_append.mp hx with z | z
   ·exact pw x z
   ·exact ww x (m0 x z).1
  ·rw [aau,aba]
   rcases aaO pool.length 2 with z | z
   ·have:14<=(ws.filter fun w=>!decide (w∈pool)).length+pool.length:=by
     have p1:=(adz (fun w=>decide (w∈pool)) ws).length_eq
     rw [aau,hw] at p1
     have p2:(ws.filter fun w=>decide (w∈pool)).length<=pool.length:=dy (wn.sublist ab6) fun x hx=>by simpa using (List.mem_filter.mp hx).2
     omega
    omega
   ·omega
 lia
 rw [aae]
 by_cases z:pool.length<2
 ·have e:decide (((pool.length:Nat):Int)<2)=true:=decide_eq_true (by omega)
  rw [e,if_pos rfl]
  exact grow _ rfl
 ·have e:decide (((pool.length:Nat):Int)<2)=false:=decide_eq_false (by omega)
  rw [e,if_neg (by simp)]
  refine drawI (by omega) (by omega) fun r r0 r1=>aa (bx _ _) ?_
  lia
  split
  ·exact grow _ rfl
  ·subst hB1
   exact tail pool pn pw (by omega) (by omega)
end Pre
namespace Pre
open PySem L2 Q
noncomputable def fstP:PV->PV
 | .tup (.str q::_)=>.str q
 | _=>.non
noncomputable def sndP:PV->PV
 | .tup (_::x::_)=>x
 | _=>.non
noncomputable def thdP:PV->PV
 | .tup (_::_::x::_)=>x
 | _=>.non
theorem u7 (ts:List Tie):(ts.map tiePV).map fstP=(ts.map Tie.nm).map .str:=by rw [aaJ,aaJ]; rfl
theorem t9 (ts:List Tie):(ts.map tiePV).map sndP=(ts.map Tie.one).map .str:=by rw [aaJ,aaJ]; rfl
theorem t4 (ts:List Tie):(ts.map tiePV).map thdP=(ts.map Tie.oth).map .str:=by rw [aaJ,aaJ]; rfl
theorem mZ (l:List Str):nePV (.lst (l.map .str)) (.lst [])=some (.bl (!(l.map PV.str).isEmpty)):=rfl
theorem uK (l:List Str):neT (.tup (l.map .str)) (.tup [])=some (.bl (!decide (l=[]))):=uJ l []
theorem in34 (r:Int):∃ b,inPV (.int r) (.tup [.int 3,.int 4])=some (.bl b):=⟨_,rfl⟩
theorem sB (c:PV) (xs:List PV) (P:PV->PV->Prop) (h:jv c xs P):Q.runO 6 fU c xs P:=by
 obtain ⟨rfl,ps,ts,rfl,ok,hp,ht,h⟩:=h
 unfold fU
 refine ah fun N hN=>?_
 simp only [sSet,eLC]
 lia
 refine aa (net1 ps ts) ?_
 lia
 refine cr fstP (fun z hz R hR=>?_) (by simp; omega) ?_
 ·obtain ⟨t,ht,rfl⟩:=List.mem_map.mp hz
  exact aa (z:=.str t.nm) (aj (j:=0) rfl) hR
 rw [aaV,u7]
 show N [some ⟨2,.non⟩,some ⟨0,netPV ps ts⟩,some ⟨0,.lst ((ts.map Tie.nm).map .str)⟩,none,none,none]
 subst hN
 refine ah fun N hN=>?_
 simp only [sSet,jt,aCons,eLC]
 lia
 refine aa (net1 ps ts) ?_
 lia
 refine cr sndP (fun z hz R hR=>?_) (by simp; omega) ?_
 ·obtain ⟨t,ht,rfl⟩:=List.mem_map.mp hz
  exact aa (z:=.str t.one) (aj (j:=1) rfl) hR
 rw [aaV,t9]
 try lia
 refine aa (net1 ps ts) ?_
 try lia
 refine cr thdP (fun z hz R hR=>?_) (by simp; omega) ?_
 ·obtain ⟨t,ht,rfl⟩:=List.mem_map.mp hz
  exact aa (z:=.str t.oth) (aj (j:=2) rfl) hR
 rw [aaV,t4]
 refine aa (kJ (by simp; omega)) ?_
 have le:(ts.map Tie.one++ts.map Tie.oth).length<=60:=by rw [aau,aae,aae]; omega
 have we:∀ x∈ts.map Tie.one++ts.map Tie.oth,IsWord x:=fun x hx=>by
  rcases List.mem_append.mp hx with z | z
  ·obtain ⟨t,ht,rfl⟩:=List.mem_map.mp z; exact (ok.tie t ht).one
  ·obtain ⟨t,ht,rfl⟩:=List.mem_map.mp z; exact (ok.tie t ht).oth
 generalize ts.map Tie.one++ts.map Tie.oth=en at le we ⊢
 have ld:=o5 en
 refine ⟨en,jB en,by omega,by omega,fun gs up=>?_⟩
 show N [some ⟨2,.non⟩,some ⟨0,netPV ps ts⟩,some ⟨0,.lst ((ts.map Tie.nm).map .str)⟩,some ⟨0,.lst (gs.map .str)⟩,none,none]
 subst hN
 have gl:gs.length<=60:=by rw [up.1.length_eq]; omega
 have gn:gs.Nodup:=up.1.nodup_iff.mpr (rE en)
 have gw:∀ x∈gs,IsWord x:=fun x hx=>we x ((vf x en).mp (up.1.mem_iff.mp hx))
 refine ah fun N hN=>?_
 simp only [sSet,eLC]
 lia
 refine bw (notIn ps) (fun x hx R hR=>?_) (by simp; omega) ?_
 ·obtain ⟨w,hw,rfl⟩:=List.mem_map.mp hx
  refine aa (net0 ps ts) ?_
  exact de mr hR rfl rfl
 rw [aaV,bK]
 have fl:(gs.filter fun w=>!decide (w∈ps)).length<=60:=aa1 (aa5 _ _) gl
 have fn:(gs.filter fun w=>!decide (w∈ps)).Nodup:=gn.sublist ab6
 have fw:∀ x∈gs.filter (fun w=>!decide (w∈ps)),IsWord x/\x∉ps:=fun x hx=>⟨gw x (List.mem_filter.mp hx).1,by simpa using (List.mem_filter.mp hx).2⟩
 generalize gs.filter (fun w=>!decide (w∈ps))=far at fl fn fw ⊢
 show N [some ⟨2,.non⟩,some ⟨0,netPV ps ts⟩,some ⟨0,.lst ((ts.map Tie.nm).map .str)⟩,some ⟨0,.lst (gs.map .str)⟩,some ⟨0,.lst (far.map .str)⟩,none]
 subst hN
 refine ah fun N hN=>?_
 lia
 refine drawI (by omega) (by omega) fun r r0 r1=>?_
 try lia
 show N [some ⟨2,.non⟩,some ⟨0,netPV ps ts⟩,some ⟨0,.lst ((ts.map Tie.nm).map .str)⟩,some ⟨0,.lst (gs.map .str)⟩,some ⟨0,.lst (far.map .str)⟩,some ⟨0,.int r⟩]
 generalize hE:[some (⟨2,.non⟩:Sl),some ⟨0,netPV ps ts⟩,some ⟨0,.lst ((ts.map Tie.nm).map .str)⟩,some ⟨0,.lst (gs.map .str)⟩,some ⟨0,.lst (far.map .str)⟩,some ⟨0,.int r⟩]=E0
 subst hN
 have hof:∀ n,n∈ts.map Tie.nm->(chgT ts (.unt n)).length<=30:=fun n _=>aa1 (aa5 _ _) ht
 refine ah fun N hN=>aP fun A1 B1 hA1 hB1=>?_
 have rest:N E0:=by
  subst hN
  refine ah fun N hN=>aP fun A1 B1 hA1 hB1=>?_
  have rest:N E0:=by
   subst hN
   refine ah fun N hN=>aP fun A1 B1 hA1 hB1=>?_
   have rest:N E0:=by
    subst hN
    refine ah fun N hN=>aP fun A1 B1 hA1 hB1=>?_
    have rest:N E0:=by
     subst hN
     refine ah fun N hN=>aP fun A1 B1 hA1 hB1=>?_
     subst hE
     lia
     rw [aae,aae]
     by_cases z:ts.length<30
     ·rw [decide_eq_true (show ((ts.length:Nat):Int)<30 by omega),if_pos rfl]
      subst hA1
      lia
      refine ⟨rfl,ps,ts,far,rfl,ok,hp,z,fl,fn,fw,fun n a b co hd=>?_⟩
      exact h _ hd hp (by have:=(dS (ps:=ps) (ts:=ts) (.tie n a b co)).2; omega)
     ·rw [decide_eq_false (show ¬ ((ts.length:Nat):Int)<30 by omega),if_neg (by simp)]
      subst hB1
      show N _
      subst hN
      lia
      refine ⟨rfl,_,.inl rfl,?_,by simp; omega,fun y hy=>?_⟩
      ·intro e
       have e2:=congrArg acw e
       rw [aae,aae] at e2
       exact absurd e2 (show ts.length≠0 by omega)
      ·obtain ⟨n,hn,rfl⟩:=List.mem_map.mp hy
       exact h (.unt n) hn hp (hof n hn)
    subst hE
    lia
    obtain ⟨b,hb⟩:=in34 r
    refine aa hb ?_
    lia
    split
    ·refine aa (mZ _) (aa rfl ?_)
     split
     ·rename_i hne
      subst hA1
      lia
      refine ⟨rfl,_,.inl rfl,(fun e=>by rw [e] at hne; cases hne),by simp; omega,fun y hy=>?_⟩
      obtain ⟨n,hn,rfl⟩:=List.mem_map.mp hy
      try lia
      refine drawI (by omega) (by omega) fun q q0 q1=>?_
      refine ⟨rfl,q,rfl,fun co c0 c1=>?_⟩
      exact h (.cos n co) ⟨hn,c0,c1⟩ hp (by show (ts.map _).length<=30; rw [aae]; exact ht)
     ·subst hB1; exact rest
    ·subst hB1; exact rest
   subst hE
   lia
   refine aa (bx _ _) ?_
   lia
   split
   ·refine aa (mZ _) (aa rfl ?_)
    split
    ·rename_i hne
     subst hA1
     lia
     refine ⟨rfl,_,.inl rfl,(fun e=>by rw [e] at hne; cases hne),by simp; omega,fun y hy=>?_⟩
     obtain ⟨n,hn,rfl⟩:=List.mem_map.mp hy
     exact h (.unt n) hn hp (hof n hn)
    ·subst hB1; exact rest
   ·subst hB1; exact rest
  subst hE
  lia
  refine aa (bx _ _) ?_
  lia
  split
  ·refine aa (net0 ps ts) (aa (uK ps) (aa rfl ?_))
   split
   ·rename_i hne
    subst hA1
    lia
    refine aa (net0 ps ts) ?_
    try lia
    refine ⟨rfl,_,.inr rfl,fun e=>?_,by simp; omega,fun y hy=>?_⟩
    ·have:ps=[]:=List.map_eq_nil_iff.mp e
     rw [this] at hne; simp at hne
    ·obtain ⟨n,hn,rfl⟩:=List.mem_map.mp hy
     exact h (.lea n) hn (aa1 (aa5 _ _) hp) ht
   ·subst hB1; exact rest
  ·subst hB1; exact rest
 subst hE
 lia
 refine aa (bx _ _) ?_
 lia
 split
 ·refine aa (net0 ps ts) ?_
  lia
  rw [aae]
  by_cases z:ps.length<12
  ·rw [decide_eq_true (show ((ps.length:Nat):Int)<12 by omega),if_pos rfl]
   have hpl:∀ w,IsWord w->w∉ps->P (deedPV (.pla w)) .non:=fun w w1 w2=>h (.pla w) ⟨w1,w2⟩ (by have:=(dS (ps:=ps) (ts:=ts) (.pla w)).1; omega) ht
   subst hA1
   refine ah fun N2 hN2=>aP fun A2 B2 hA2 hB2=>?_
   have rest2:∀ e2:En,e2=[some ⟨2,.non⟩,some ⟨0,netPV ps ts⟩,some ⟨0,.lst ((ts.map Tie.nm).map .str)⟩,some ⟨0,.lst (gs.map .str)⟩,some ⟨0,.lst (far.map .str)⟩,some ⟨0,.int r⟩]->N2 e2:=by
    rintro _ rfl
    subst hN2
    lia
    refine aa (net0 ps ts) ?_
    try lia
    exact ⟨rfl,ps,.inr rfl,by omega,fun w w1 w2=>hpl w w1 w2⟩
   lia
   refine aa (mZ _) (aa rfl ?_)
   split
   ·rename_i hne
    refine drawI (by omega) (by omega) fun q q0 q1=>?_
    try lia
    split
    ·subst hA2
     lia
     refine ⟨rfl,_,.inl rfl,(fun e=>by rw [e] at hne; cases hne),by simp; omega,fun y hy=>?_⟩
     obtain ⟨n,hn,rfl⟩:=List.mem_map.mp hy
     exact hpl n (fw n hn).1 (fw n hn).2
    ·subst hB2; exact rest2 _ rfl
   ·subst hB2; exact rest2 _ rfl
  ·rw [decide_eq_false (show ¬ ((ps.length:Nat):Int)<12 by omega),if_neg (by simp)]
   subst hB1; exact rest
 ·subst hB1; exact rest
end Pre
namespace Pre
open PySem L2 Q
theorem n4 (xs:List PV) (P:PV->Prop) (h:fy xs P):Q.run 4 dm xs P:=by
 obtain ⟨as,bs,rfl,la,lb,h⟩:=h
 unfold dm
 refine ah fun N hN=>?_
 lia
 refine bw (notIn bs) (fun x hx R hR=>?_) (by rw [aae]; simp; omega) ?_
 ·obtain ⟨w,hw,rfl⟩:=List.mem_map.mp hx
  exact de mr hR rfl rfl
 rw [bK]
 refine aa rfl ?_
 show N [some ⟨0,.tup (as.map .str)⟩,some ⟨0,.tup (bs.map .str)⟩,some ⟨0,.tup ((as.filter fun a=>!decide (a∈bs)).map .str)⟩,none]
 subst hN
 refine ah fun N hN=>?_
 lia
 refine bw (notIn as) (fun x hx R hR=>?_) (by rw [aae]; simp; omega) ?_
 ·obtain ⟨w,hw,rfl⟩:=List.mem_map.mp hx
  exact de mr hR rfl rfl
 rw [bK]
 refine aa rfl ?_
 show N [some ⟨0,.tup (as.map .str)⟩,some ⟨0,.tup (bs.map .str)⟩,some ⟨0,.tup ((as.filter fun a=>!decide (a∈bs)).map .str)⟩,some ⟨0,.tup ((bs.filter fun a=>!decide (a∈as)).map .str)⟩]
 subst hN
 lia
 exact h
theorem mR (T:Addr) (c:PV) (xs:List PV) (P:PV->PV->Prop) (h:cY T c xs P):Q.runT 2 (cH T) c xs P:=by
 obtain ⟨rfl,ps,ts,d,rfl,S,hd,S2,h⟩:=h
 unfold cH
 have l1:=dC ps ts (aW S.ok)
 have l2:=dC (chgP ps d) (chgT ts d) (aW S2.ok)
 have:=S.tl
 have:=S2.tl
 simp only [runT,endT,hid]
 lia
 simp only [eCallT]
 lia
 refine ⟨rfl,ps,ts,rfl,S.ok,S.pl,S.tl,?_⟩
 lia
 refine ⟨ps,ts,d,rfl,S,hd,?_⟩
 lia
 refine ⟨rfl,_,_,rfl,S2.ok,S2.pl,S2.tl,?_⟩
 lia
 refine ⟨_,_,rfl,by omega,by omega,?_⟩
 exact h
theorem oY {a b:Str} (e:a=b):eqqPV (.str a) (.str b)=some (.bl true):=by rw [eq_str,beq_iff_eq.mpr e]
theorem oZ {a b:Str} (e:a≠b):eqqPV (.str a) (.str b)=some (.bl false):=by rw [eq_str,beq_eq_false_iff_ne.mpr e]
noncomputable def offN (n:Str):PV->Option PV
 | .tup [.str a,.str b,.str c,.int d]=>if a=n then some (.tup [.str a,.str b,.str c,.int d]) else none
 | _=>none
theorem jg (n:Str):∀ ts:List Tie,(ts.map tiePV).filterMap (offN n)=(ts.filter fun t=>decide (t.nm=n)).map tiePV
 | []=>rfl
 | t::ts=>by
  rw [aao,aaY,acS]
  have e:offN n (tiePV t)=if t.nm=n then some (tiePV t) else none:=rfl
  rw [e]
  by_cases z:t.nm=n
  ·simp only [z,if_true,decide_true,aao]; rw [jg n ts]
  ·simp only [z,if_false,decide_false,aaR]; exact jg n ts
theorem uE {ps:List Str} {ts:List Tie} {t:Tie} (ok:NetOk ps ts) (h:t∈ts):∃ r,ts.filter (fun u=>decide (u.nm=t.nm))=t::r:=by
 have hm:t∈ts.filter (fun u=>decide (u.nm=t.nm)):=List.mem_filter.mpr ⟨h,by simp⟩
 cases e:ts.filter (fun u=>decide (u.nm=t.nm)) with
 | nil=>rw [e] at hm; cases hm
 | cons u r =>
  have hu:u∈ts.filter (fun u=>decide (u.nm=t.nm)):=by rw [e]; exact aat
  obtain ⟨h1,h2⟩:=List.mem_filter.mp hu
  have:=mY (aW ok) h1 h (by simpa using h2)
  exact ⟨r,by rw [this]⟩
end Pre
namespace Pre
open PySem L2 Q
theorem bW {ps:List Str} {ts:List Tie} {d:Deed} {x y:Str} {A:WS} {D:Wd} {v:Option Sl} (hx:ixPV (deedPV d) (.int 0)=some (.str x)) (ne:x≠y) (h:D.nx [some ⟨0,netPV ps ts⟩,some ⟨0,deedPV d⟩,v]) :
  sIf (tBool (eOp eqqPV (eOp ixPV (eV 1) (eC (.int 0))) (eC (.str y)))) A sNil D [some ⟨0,netPV ps ts⟩,some ⟨0,deedPV d⟩,v]:=by
 refine aP fun A1 B1 hA1 hB1=>?_
 lia
 refine aa hx (aa (oZ ne) (aa rfl ?_))
 rw [if_neg (by simp)]
 subst hB1
 exact h
theorem g9 {ps:List Str} {ts:List Tie} {d:Deed} {x:Str} {A B:WS} {D:Wd} {v:Option Sl} (hx:ixPV (deedPV d) (.int 0)=some (.str x)) (h:A D [some ⟨0,netPV ps ts⟩,some ⟨0,deedPV d⟩,v]) :
  sIf (tBool (eOp eqqPV (eOp ixPV (eV 1) (eC (.int 0))) (eC (.str x)))) A B D [some ⟨0,netPV ps ts⟩,some ⟨0,deedPV d⟩,v]:=by
 refine aP fun A1 B1 hA1 hB1=>?_
 lia
 refine aa hx (aa (oY rfl) (aa rfl ?_))
 rw [if_pos rfl]
 subst hA1
 exact h
theorem qh {ps:List Str} {ts:List Tie} {d:Deed} {t:Tie} {N:En->Prop} {D:Wd} {v:Option Sl} (ok:NetOk ps ts) (hl:ts.length<=60) (ht:t∈ts) (hx:ixPV (deedPV d) (.int 1)=some (.str t.nm)) (h:N [some ⟨0,netPV ps ts⟩,some ⟨0,deedPV d⟩,some ⟨0,tiePV t⟩]) :
  sSet 2 (eOp ixPV (eLC (iS (eOp ixPV (eV 0) (eC (.int 1)))) (.nm 0) (tBool (eOp eqqPV (eOp ixPV (eV 0) (eC (.int 0))) (eOp ixPV (eV 1) (eC (.int 1))))) (eV 0) [none,some 1]) (eC (.int 0))) { D with nx:=N } [some ⟨0,netPV ps ts⟩,some ⟨0,deedPV d⟩,v]:=by
 lia
 refine aa (net1 ps ts) ?_
 lia
 refine bw (offN t.nm) (fun x hx' R hR=>?_) (by simp; omega) ?_
 ·obtain ⟨u,hu,rfl⟩:=List.mem_map.mp hx'
  refine aa (z:=.str u.nm) (aj (j:=0) rfl) (aa hx ?_)
  have hR:R (if u.nm=t.nm then some (tiePV u) else none) _:=hR
  by_cases z:u.nm=t.nm
  ·rw [if_pos z] at hR
   exact aa (oY z) (aa (z:=true) rfl hR)
  ·rw [if_neg z] at hR
   exact aa (oZ z) (aa (z:=false) rfl hR)
 rw [aaV,jg]
 obtain ⟨r,e⟩:=uE ok ht
 rw [e]
 exact aa (z:=tiePV t) (aj (j:=0) rfl) h
theorem jb (xs:List PV) (P:PV->Prop) (h:cv xs P):Q.run 3 bN xs P:=by
 obtain ⟨ps,ts,d,rfl,S,hd,h⟩:=h
 have tl:=S.tl
 unfold bN
 cases d with
 | pla p =>
  have h:=h t0 (fun n e=>by cases e)
  refine ah fun N hN=>?_
  refine g9 (v:=none) (aj (j:=0) rfl) ?_
  lia
  refine aa (z:=.str p) (aj (j:=1) rfl) ?_
  exact h
 | lea p =>
  have h:=h t0 (fun n e=>by cases e)
  refine ah fun N hN=>?_
  refine bW (v:=none) (x := "leave") (aj (j:=0) rfl) (by decide) ?_
  show N _
  subst hN
  refine ah fun N hN=>?_
  refine g9 (v:=none) (aj (j:=0) rfl) ?_
  lia
  refine aa (z:=.str p) (aj (j:=1) rfl) ?_
  exact h
 | tie n a b c =>
  have h:=h t0 (fun n e=>by cases e)
  refine ah fun N hN=>?_
  refine bW (v:=none) (x := "tie") (aj (j:=0) rfl) (by decide) ?_
  show N _
  subst hN
  refine ah fun N hN=>?_
  refine bW (v:=none) (x := "tie") (aj (j:=0) rfl) (by decide) ?_
  show N _
  subst hN
  refine ah fun N hN=>?_
  refine g9 (v:=none) (aj (j:=0) rfl) ?_
  lia
  refine aa (z:=.str n) (aj (j:=1) rfl) ?_
  exact h
 | unt n =>
  obtain ⟨t,ht,e⟩:=List.mem_map.mp (show n∈ts.map Tie.nm from hd)
  subst e
  have h:=h t (fun m e=>⟨ht,by injection e⟩)
  refine ah fun N hN=>?_
  refine bW (v:=none) (x := "untie") (aj (j:=0) rfl) (by decide) ?_
  show N _
  subst hN
  refine ah fun N hN=>?_
  refine bW (v:=none) (x := "untie") (aj (j:=0) rfl) (by decide) ?_
  show N _
  subst hN
  refine ah fun N hN=>?_
  refine bW (v:=none) (x := "untie") (aj (j:=0) rfl) (by decide) ?_
  show N _
  subst hN
  refine ah fun N hN=>?_
  refine qh (v:=none) S.ok tl ht (aj (j:=1) rfl) ?_
  subst hN
  refine ah fun N hN=>?_
  refine g9 (aj (j:=0) rfl) ?_
  lia
  refine aa (z:=.str t.nm) (aj (j:=0) rfl) (aa (z:=.str t.oth) (aj (j:=2) rfl) (aa (z:=.str t.one) (aj (j:=1) rfl) (aa (z:=.int t.cost) (aj (j:=3) rfl) ?_)))
  exact h
 | cos n c =>
  obtain ⟨t,ht,e⟩:=List.mem_map.mp (show n∈ts.map Tie.nm from hd.1)
  subst e
  have h:=h t (fun m e=>⟨ht,by injection e⟩)
  refine ah fun N hN=>?_
  refine bW (v:=none) (x := "cost") (aj (j:=0) rfl) (by decide) ?_
  show N _
  subst hN
  refine ah fun N hN=>?_
  refine bW (v:=none) (x := "cost") (aj (j:=0) rfl) (by decide) ?_
  show N _
  subst hN
  refine ah fun N hN=>?_
  refine bW (v:=none) (x := "cost") (aj (j:=0) rfl) (by decide) ?_
  show N _
  subst hN
  refine ah fun N hN=>?_
  refine qh (v:=none) S.ok tl ht (aj (j:=1) rfl) ?_
  subst hN
  refine ah fun N hN=>?_
  refine bW (x := "cost") (aj (j:=0) rfl) (by decide) ?_
  show N _
  subst hN
  lia
  refine aa (z:=.str t.nm) (aj (j:=0) rfl) (aa (z:=.int t.cost) (aj (j:=3) rfl) ?_)
  exact h
theorem gb:∀ (d:Nat) (x:PV),Tr d x->eqPV d x x=some true
 | 0,x,h=>h.elim
 | d+1,x,h=>by
  rcases h with ⟨s,rfl⟩ | ⟨n,rfl⟩ | ⟨l,rfl,_,hl⟩
  ·show some (s==s)=_; rw [beq_self_eq_true]
  ·show some (n==n)=_; rw [beq_self_eq_true]
  ·show (((l.zip l).mapM fun p=>eqPV d p.1 p.2).map fun bs=>bs.all id && l.length==l.length)=_
   have:∀ l:List PV,(∀ y∈l,Tr d y)->((l.zip l).mapM fun p=>eqPV d p.1 p.2)=some (l.map fun _=>true):=fun l=>by
    induction l with
    | nil=>intro _; rfl
    | cons a l ih =>
     intro h
     rw [ada,abw,gb d a (h a aat),ih fun y hy=>h y (aav _ hy)]
     rfl
   rw [this l hl]
   simp
end Pre
namespace Pre
open PySem L2 Q
theorem eq60 {d:Nat} {x:PV} (hd:d<=60) (h:Tr d x):Tr 60 x:=by
 have up:∀ (d:Nat) (x:PV),Tr d x->Tr (d+1) x:=fun d=>by
  induction d with
  | zero=>intro x h; exact h.elim
  | succ d ih =>
   intro x h
   rcases h with h | h | ⟨l,e,hl,hy⟩
   ·exact .inl h
   ·exact .inr (.inl h)
   ·exact .inr (.inr ⟨l,e,hl,fun y z=>ih y (hy y z)⟩)
 have:∀ k,Tr (d+k) x:=fun k=>by
  induction k with
  | zero=>exact h
  | succ k ih=>exact up _ _ ih
 have:=this (60 - d)
 rwa [show d+(60 - d)=60 by omega] at this
theorem nu {d:Nat} {x:PV} (hd:d<=60) (h:Tr d x):eqqPV x x=some (.bl true):=by
 unfold eqqPV
 rw [gb 60 x (eq60 hd h)]; rfl
theorem gu (d:Nat) (s:Str):Tr (d+1) (.str s):=.inl ⟨s,rfl⟩
theorem vM (d:Nat) (t:Tie):Tr (d+2) (tiePV t):=.inr (.inr ⟨_,rfl,by simp,fun y hy=>by
 simp only [ab4,abH,or_false] at hy
 rcases hy with rfl | rfl | rfl | rfl
 ·exact gu d _
 ·exact gu d _
 ·exact gu d _
 ·exact .inr (.inl ⟨_,rfl⟩)⟩)
theorem j3 (ss:List Str) (h:ss.length<=1000):Tr 2 (.tup (ss.map .str)):=.inr (.inr ⟨_,rfl,by rw [aae]; exact h,fun y hy=>by
 obtain ⟨s,_,rfl⟩:=List.mem_map.mp hy
 exact gu 0 s⟩)
theorem jA {ps:List Str} {ts:List Tie} (S:NetS ps ts):Tr 4 (netPV ps ts):=.inr (.inr ⟨_,rfl,by simp,fun y hy=>by
 simp only [ab4,abH,or_false] at hy
 rcases hy with rfl | rfl
 ·refine .inr (.inr ⟨_,rfl,by rw [aae]; have:=S.pl; omega,fun z hz=>?_⟩)
  obtain ⟨s,_,rfl⟩:=List.mem_map.mp hz
  exact gu 1 s
 ·refine .inr (.inr ⟨_,rfl,by rw [aae]; have:=S.tl; omega,fun z hz=>?_⟩)
  obtain ⟨s,_,rfl⟩:=List.mem_map.mp hz
  exact vM 0 s⟩)
theorem vN {as bs:List Str} (la:as.length<=1000) (lb:bs.length<=1000):Tr 3 (btw as bs):=.inr (.inr ⟨_,rfl,by simp,fun y hy=>by
 simp only [ab4,abH,or_false] at hy
 rcases hy with rfl | rfl
 ·exact j3 _ (aa1 (aa5 _ _) la)
 ·exact j3 _ (aa1 (aa5 _ _) lb)⟩)
theorem m3 {d:Nat} {l:List PV} (hd:d<=60) (h:Tr d (.tup l)):neT (.tup l) (.tup l)=some (.bl false):=by
 show (eqPV 60 (.tup l) (.tup l)).map (fun b=>PV.bl (!b))=_
 rw [gb 60 _ (eq60 hd h)]; rfl
theorem jc (T:Addr) (c d:PV) (xs:List PV) (P:PV->PV->PV->Prop) (h:cw T c d xs P):Q.runOT 6 (bO T) c d xs P:=by
 obtain ⟨rfl,rfl,ps,ts,rfl,ok,hp,ht,h⟩:=h
 unfold bO
 simp only [runOT,endOT,hidO]
 refine ah fun N hN=>aP fun A1 B1 hA1 hB1=>?_
 lia
 refine aa (net1 ps ts) ?_
 lia
 split
 ·subst hA1
  lia
  exact h
 rename_i hle
 have hle:ts.length<=28:=by simp at hle; omega
 subst hB1
 show N _
 subst hN
 refine ah fun N hN=>?_
 lia
 refine ⟨rfl,ps,ts,[],rfl,ok,hp,by omega,by simp,by simp,by simp,fun n1 a1 b1 c1 d1=>?_⟩
 lia
 show N [some ⟨2,.non⟩,some ⟨0,netPV ps ts⟩,some ⟨0,deedPV (.tie n1 a1 b1 c1)⟩,none,none,none,some ⟨2,tabT T⟩]
 subst hN
 have S:NetS ps ts:=⟨ok,by omega,by omega⟩
 have ok1:=bH ok d1
 have L1:=(dS (ps:=ps) (ts:=ts) (.tie n1 a1 b1 c1)).2
 have S1:NetS ps (chgT ts (.tie n1 a1 b1 c1)):=⟨ok1,by omega,by omega⟩
 refine ah fun N hN=>?_
 lia
 refine ⟨ps,ts,_,rfl,S,d1,?_⟩
 try lia
 refine ⟨rfl,ps,chgT ts (.tie n1 a1 b1 c1),[],rfl,ok1,hp,by omega,by simp,by simp,by simp,fun n2 a2 b2 c2 d2=>?_⟩
 lia
 show N [some ⟨2,.non⟩,some ⟨0,netPV ps ts⟩,some ⟨0,deedPV (.tie n1 a1 b1 c1)⟩,some ⟨0,deedPV (.tie n2 a2 b2 c2)⟩,none,none,some ⟨2,tabT T⟩]
 subst hN
 obtain ⟨e2,e1,ee⟩:=rS ok d1 d2
 have ok2:=bH ok e2
 have L2:=(dS (ps:=ps) (ts:=ts) (.tie n2 a2 b2 c2)).2
 have S2:NetS ps (chgT ts (.tie n2 a2 b2 c2)):=⟨ok2,by omega,by omega⟩
 have ok3:=bH ok1 d2
 have L3:=(dS (ps:=ps) (ts:=chgT ts (.tie n1 a1 b1 c1)) (.tie n2 a2 b2 c2)).2
 have S3:NetS ps (chgT (chgT ts (.tie n1 a1 b1 c1)) (.tie n2 a2 b2 c2)):=⟨ok3,by omega,by omega⟩
 refine ah fun N hN=>?_
 lia
 refine ⟨ps,ts,_,rfl,S,d1,?_⟩
 refine ⟨ps,_,_,rfl,S1,d2,?_⟩
 show N [some ⟨2,.non⟩,some ⟨0,netPV ps ts⟩,some ⟨0,deedPV (.tie n1 a1 b1 c1)⟩,some ⟨0,deedPV (.tie n2 a2 b2 c2)⟩,some ⟨0,netPV ps (chgT (chgT ts (.tie n1 a1 b1 c1)) (.tie n2 a2 b2 c2))⟩,none,some ⟨2,tabT T⟩]
 subst hN
 refine ah fun N hN=>?_
 lia
 refine ⟨ps,ts,_,rfl,S,e2,?_⟩
 refine ⟨ps,_,_,rfl,S2,e1,?_⟩
 show N [some ⟨2,.non⟩,some ⟨0,netPV ps ts⟩,some ⟨0,deedPV (.tie n1 a1 b1 c1)⟩,some ⟨0,deedPV (.tie n2 a2 b2 c2)⟩,some ⟨0,netPV ps (chgT (chgT ts (.tie n1 a1 b1 c1)) (.tie n2 a2 b2 c2))⟩,some ⟨0,netPV ps (chgT (chgT ts (.tie n2 a2 b2 c2)) (.tie n1 a1 b1 c1))⟩,some ⟨2,tabT T⟩]
 subst hN
 rw [<- ee]
 have cl:=dC ps _ (aW S3.ok)
 have:=S3.tl
 generalize chgT (chgT ts (.tie n1 a1 b1 c1)) (.tie n2 a2 b2 c2)=us at S3 cl this ⊢
 lia
 refine aa (nu (by omega) (jA S3)) ?_
 try lia
 simp only [eCallT]
 try lia
 refine ⟨rfl,ps,us,rfl,S3.ok,S3.pl,S3.tl,?_⟩
 try lia
 refine ⟨rfl,ps,us,rfl,S3.ok,S3.pl,S3.tl,?_⟩
 try lia
 refine aa (nu (d:=2) (by omega) (j3 _ (by omega))) ?_
 exact h
end Pre
namespace Pre
open PySem L2 Q
noncomputable def triPV (q:List Str×List Tie×Deed):PV:=.tup [netPV q.1 q.2.1,deedPV q.2.2,btw (cheap q.1 q.2.1) (cheap (chgP q.1 q.2.2) (chgT q.2.1 q.2.2))]
structure PstOk (q:List Str×List Tie×Deed):Prop where
 S:NetS q.1 q.2.1
 d:DOk q.1 q.2.1 q.2.2
 s2:NetS (chgP q.1 q.2.2) (chgT q.2.1 q.2.2)
noncomputable def Chain (ps:List Str) (ts:List Tie):List (List Str×List Tie×Deed)->Prop
 | []=>True
 | q::r=>chgP q.1 q.2.2=ps/\chgT q.2.1 q.2.2=ts/\Chain q.1 q.2.1 r
theorem xF {ps:List Str} {ts:List Tie} {d:Deed} (h:NetOk ps ts) (hd:DOk ps ts d) (hp:ps.length<=12) (ht:ts.length<=30):NetS (chgP ps d) (chgT ts d):=by
 have:=dS (ps:=ps) (ts:=ts) d
 exact ⟨bH h hd,by omega,by omega⟩
theorem vC (as bs:List Str):revPV (btw as bs)=some (btw bs as):=rfl
theorem uM {as bs:List Str} (la:as.length<=1000) (lb:bs.length<=1000):neT (btw as bs) (btw as bs)=some (.bl false):=m3 (d:=3) (by omega) (vN la lb)
theorem uL {ps:List Str} {ts:List Tie} (S:NetS ps ts):neT (netPV ps ts) (netPV ps ts)=some (.bl false):=m3 (d:=4) (by omega) (jA S)
theorem tS:∀ (d:Nat) (x y:PV),Tr d x->Tr d y->∃ b,eqPV d x y=some b/\(b=true->x=y)
 | 0,x,y,h,_=>h.elim
 | d+1,x,y,hx,hy=>by
  rcases hx with ⟨s,rfl⟩ | ⟨n,rfl⟩ | ⟨l,rfl,_,hl⟩ <;> rcases hy with ⟨s',rfl⟩ | ⟨n',rfl⟩ | ⟨l',rfl,_,hl'⟩
  ·exact ⟨s==s',rfl,fun e=>by rw [beq_iff_eq.mp e]⟩
  ·exact ⟨false,rfl,fun e=>by cases e⟩
  ·exact ⟨false,rfl,fun e=>by cases e⟩
  ·exact ⟨false,rfl,fun e=>by cases e⟩
  ·exact ⟨n==n',rfl,fun e=>by rw [beq_iff_eq.mp e]⟩
  ·exact ⟨false,rfl,fun e=>by cases e⟩
  ·exact ⟨false,rfl,fun e=>by cases e⟩
  ·exact ⟨false,rfl,fun e=>by cases e⟩
  ·have go:∀ l l':List PV,(∀ y∈l,Tr d y)->(∀ y∈l',Tr d y)->∃ bs,((l.zip l').mapM fun p=>eqPV d p.1 p.2)=some bs/\(bs.all id=true->l.length=l'.length->l=l'):=fun l=>by
    induction l with
    | nil=>intro l' _ _; exact ⟨[],rfl,fun _ e=>(List.length_eq_zero_iff.mp e.symm).symm⟩
    | cons a l ih =>
     intro l' h h'
     cases l' with
     | nil=>exact ⟨[],rfl,fun _ e=>by cases e⟩
     | cons b l' =>
      obtain ⟨bs,e1,e2⟩:=ih l' (fun y hy=>h y (aav _ hy)) (fun y hy=>h' y (aav _ hy))
      obtain ⟨c,e3,e4⟩:=tS d a b (h a aat) (h' b aat)
      refine ⟨c::bs,by rw [ada,abw,e3,e1]; rfl,fun z e=>?_⟩
      rw [List.all_cons,aaK] at z
      rw [e4 z.1,e2 z.2 (by simpa using e)]
   obtain ⟨bs,e1,e2⟩:=go l l' hl hl'
   refine ⟨bs.all id && l.length==l'.length,?_,fun z=>?_⟩
   ·show (((l.zip l').mapM fun p=>eqPV d p.1 p.2).map fun bs=>bs.all id && l.length==l'.length)=_
    rw [e1]; rfl
   ·rw [aaK] at z
    rw [e2 z.1 (by simpa using z.2)]
theorem kI {α:Type} (f:α->PV) (hf:∀ a b,f a=f b->a=b):∀ {a b:List α},a.map f=b.map f->a=b
 | [],[],_=>rfl
 | [],_::_,h=>by cases h
 | _::_,[],h=>by cases h
 | x::a,y::b,h=>by
  rw [aao,aao,ae9] at h
  rw [hf _ _ h.1,kI f hf h.2]
theorem uI {ps ps':List Str} {ts ts':List Tie} (h:netPV ps ts=netPV ps' ts'):ps=ps'/\ts=ts':=by
 unfold netPV at h
 injection h with h
 injection h with h1 h2
 injection h1 with h1
 injection h2 with h2 _
 injection h2 with h2
 refine ⟨kI _ (fun a b e=>by injection e) h1,kI _ (fun a b e=>?_) h2⟩
 unfold tiePV at e
 obtain ⟨a1,a2,a3,a4⟩:=a
 obtain ⟨b1,b2,b3,b4⟩:=b
 simp only [PV.tup.injEq,ae9,PV.str.injEq,PV.int.injEq,and_true] at e
 obtain ⟨rfl,rfl,rfl,rfl⟩:=e
 rfl
theorem uw (T:Addr) (ns:List Int) (x:PV) (hn:ns.length<=63) (hx:x=.scr ns\/x=.lst (ns.map .int)):Q.runT 10 (g8 T) (tabT T) [x] fun r c=>r=.bl true/\c=tabT T:=by
 unfold g8
 simp only [runT,endT,hid]
 refine ah fun N hN=>?_
 show Q.sBegin 1 0 _ [some ⟨0,x⟩,none,none,none,none,none,none,none,none,none,some ⟨2,tabT T⟩]
 refine ⟨⟨ns,hx,hn⟩,?_⟩
 show N [some ⟨0,x⟩,some ⟨4,.non⟩,none,none,none,none,none,none,none,none,some ⟨2,tabT T⟩]
 subst hN
 obtain ⟨zs,ez,lz⟩:=uc 9 hx
 refine ah fun N hN=>dP fun G B hG hB=>?_
 simp only [iR1,aCons,aNil,eOp,eC,eCB,eSl,eV,oNone,oSome,intPV,dN,ab5]
 refine aa ez ?_
 lia
 refine aa (z:=.int (2+(zs.length:Int))) rfl ?_
 refine ⟨by omega,by omega,?_⟩
 generalize rngP 0 _=rs
 subst hG hB
 refine b7 (fun j e=>∃ v2 v3 v4 v5 v6 v7 v8 v9:Option Sl,e=[some ⟨0,x⟩,some ⟨4,.non⟩,v2,v3,v4,v5,v6,v7,v8,v9,some ⟨2,tabT T⟩]) (i:=0) ⟨none,none,none,none,none,none,none,none,rfl⟩ ?_ ?_
 case refine_2 =>
  rintro e ⟨v2,v3,v4,v5,v6,v7,v8,v9,rfl⟩
  show N _
  subst hN
  exact ⟨rfl,rfl⟩
 rintro j y e M hy ⟨v2,v3,v4,v5,v6,v7,v8,v9,rfl⟩ k
 show sSeq _ _ _ [some ⟨0,x⟩,some ⟨4,.non⟩,some ⟨0,y⟩,v3,v4,v5,v6,v7,v8,v9,some ⟨2,tabT T⟩]
 refine ah fun N hN=>?_
 lia
 refine ⟨rfl,11,29,rfl,by decide,by decide,by decide,by decide,fun ps ts ok hp ht=>?_⟩
 lia
 show N [some ⟨0,x⟩,some ⟨4,.non⟩,some ⟨0,y⟩,some ⟨0,netPV ps ts⟩,v4,v5,v6,v7,v8,v9,some ⟨2,tabT T⟩]
 subst hN
 refine ah fun N hN=>?_
 lia
 show N [some ⟨0,x⟩,some ⟨4,.non⟩,some ⟨0,y⟩,some ⟨0,netPV ps ts⟩,some ⟨1,.lst []⟩,v5,v6,v7,v8,v9,some ⟨2,tabT T⟩]
 subst hN
 refine ah fun N hN=>dP fun G B hG hB=>?_
 lia
 refine drawI (by omega) (by omega) fun r r0 r1=>?_
 try lia
 refine ⟨by omega,by omega,?_⟩
 have hl:(rngP 0 r.toNat).length<=999:=by rw [ki]; omega
 generalize rngP 0 r.toNat=rs2 at hl ⊢
 subst hG hB
 refine b7 (fun j e=>∃ (ps:List Str) (ts:List Tie) (past:List (List Str×List Tie×Deed)) (v5 v6 v7 v8 v9:Option Sl),e=[some ⟨0,x⟩,some ⟨4,.non⟩,some ⟨0,y⟩,some ⟨0,netPV ps ts⟩,some ⟨1,.lst (past.reverse.map triPV)⟩,v5,v6,v7,v8,v9,some ⟨2,tabT T⟩] /\
  NetOk ps ts/\ps.length<=12/\ts.length<=30/\(∀ q∈past,PstOk q)/\Chain ps ts past/\past.length=j) (i:=0) ⟨ps,ts,[],v5,v6,v7,v8,v9,rfl,ok,by omega,by omega,by simp,trivial,rfl⟩ ?_ ?_
 case refine_1 =>
  rintro j z e M2 hz ⟨ps,ts,past,v5,v6,v7,v8,v9,rfl,ok,hp,ht,hq,hc,hj⟩ k2
  have hj9:j<1000:=by
   have:=(List.getElem?_eq_some_iff.mp hz).1
   omega
  show sSeq _ _ _ [some ⟨0,x⟩,some ⟨4,.non⟩,some ⟨0,y⟩,some ⟨0,netPV ps ts⟩,some ⟨1,.lst (past.reverse.map triPV)⟩,some ⟨0,z⟩,v6,v7,v8,v9,some ⟨2,tabT T⟩]
  refine ah fun N hN=>?_
  lia
  refine ⟨rfl,ps,ts,rfl,ok,hp,ht,fun d hd c1 c2=>?_⟩
  lia
  show N [some ⟨0,x⟩,some ⟨4,.non⟩,some ⟨0,y⟩,some ⟨0,netPV ps ts⟩,some ⟨1,.lst (past.reverse.map triPV)⟩,some ⟨0,z⟩,some ⟨0,deedPV d⟩,v7,v8,v9,some ⟨2,tabT T⟩]
  subst hN
  have S:NetS ps ts:=⟨ok,by omega,by omega⟩
  have S2:=xF ok hd hp ht
  refine ah fun N hN=>?_
  lia
  simp only [eCallT]
  lia
  refine ⟨rfl,ps,ts,d,rfl,S,hd,S2,?_⟩
  try lia
  refine aa (mApp (by rw [aae,ad7]; omega)) ?_
  have ea:past.reverse.map triPV++[PV.tup [netPV ps ts,deedPV d,btw (cheap ps ts) (cheap (chgP ps d) (chgT ts d))]]=((ps,ts,d)::past).reverse.map triPV:=by rw [abV,aa4]; rfl
  rw [ea]
  show N [some ⟨0,x⟩,some ⟨4,.non⟩,some ⟨0,y⟩,some ⟨0,netPV ps ts⟩,some ⟨1,.lst (((ps,ts,d)::past).reverse.map triPV)⟩,some ⟨0,z⟩,some ⟨0,deedPV d⟩,v7,v8,v9,some ⟨2,tabT T⟩]
  subst hN
  lia
  refine ⟨ps,ts,d,rfl,S,hd,?_⟩
  refine k2 _ ⟨chgP ps d,chgT ts d,(ps,ts,d)::past,_,_,_,_,_,rfl,S2.ok,c1,c2,fun q hq2=>?_,⟨rfl,rfl,hc⟩,by rw [abj]; omega⟩
  rcases List.mem_cons.mp hq2 with w | w
  ·rw [w]; exact ⟨S,hd,S2⟩
  ·exact hq q w
 rintro e ⟨ps,ts,past,v5,v6,v7,v8,v9,rfl,ok,hp,ht,hq,hc,hj⟩
 show N _
 subst hN
 have S:NetS ps ts:=⟨ok,by omega,by omega⟩
 refine ah fun N hN=>aP fun A1 B1 hA1 hB1=>?_
 lia
 simp only [kX]
 lia
 refine ⟨by decide,4,2,_,_,.inr rfl,.inl rfl,rfl,rfl,rfl,rfl,ps,ts,rfl,ok,hp,ht,?_⟩
 try lia
 subst hB1
 show N [some ⟨0,x⟩,some ⟨4,.non⟩,some ⟨0,y⟩,some ⟨0,netPV ps ts⟩,some ⟨1,.lst (past.reverse.map triPV)⟩,v5,v6,v7,v8,v9,some ⟨2,tabT T⟩]
 subst hN
 refine ah fun N hN=>dP fun G B hG hB=>?_
 lia
 refine aa (z:=.lst (past.map triPV)) (by show some (PV.lst (past.reverse.map triPV).reverse)=_; rw [<- List.map_reverse,List.reverse_reverse]) ?_
 try lia
 subst hG hB
 refine b7 (fun j e=>∃ (ps:List Str) (ts:List Tie) (v6 v7 v8 v9:Option Sl),e=[some ⟨0,x⟩,some ⟨4,.non⟩,some ⟨0,y⟩,some ⟨0,netPV ps ts⟩,some ⟨0,.lst (past.reverse.map triPV)⟩,v5,v6,v7,v8,v9,some ⟨2,tabT T⟩]/\NetS ps ts/\Chain ps ts (past.drop j)) (i:=0) ⟨_,_,_,_,_,_,rfl,S,hc⟩ ?_ ?_
 case refine_1 =>
  rintro j z e M2 hz ⟨ps,ts,v6,v7,v8,v9,rfl,S,hc⟩ k2
  rw [ab0] at hc k2
  rw [aal,aaF] at hz
  obtain ⟨q,hq1,rfl⟩:=hz
  have qo:=hq q (abf hq1)
  have ed:past.drop j=q::past.drop (j+1):=by
   obtain ⟨h1,h2⟩:=List.getElem?_eq_some_iff.mp hq1
   rw [abQ h1,h2]
  rw [ed] at hc
  obtain ⟨ps',ts',d⟩:=q
  obtain ⟨c1,c2,hc⟩:=hc
  dsimp only at c1 c2 hc
  subst c1 c2
  have qS:NetS ps' ts':=qo.S
  have qd:DOk ps' ts' d:=qo.d
  simp only [triPV]
  lia
  refine ⟨ps',ts',d,rfl,qS,qd,fun t ht=>?_⟩
  obtain ⟨bo,bP,bT⟩:=vE qS.ok qd ht
  have l1:=dC ps' ts' (aW qS.ok)
  have l2:=dC (chgP ps' d) (chgT ts' d) (aW S.ok)
  have:=qS.tl
  have:=S.tl
  simp only [eCallT]
  lia
  refine ⟨rfl,_,_,backOf t d,rfl,S,bo,by rw [bP,bT]; exact qS,?_⟩
  rw [bP,bT]
  try lia
  refine aa (vC _ _) ?_
  refine aa (uM (by omega) (by omega)) (aa rfl ?_)
  rw [if_neg (by simp)]
  try lia
  refine ⟨_,_,backOf t d,rfl,S,bo,?_⟩
  rw [bP,bT]
  try lia
  refine aa (uL qS) (aa rfl ?_)
  rw [if_neg (by simp)]
  exact k2 _ ⟨ps',ts',_,_,_,_,rfl,qS,hc⟩
 rintro e ⟨ps2,ts2,v6,v7,v8,v9,rfl,_,_⟩
 show N _
 subst hN
 refine aP fun A1 B1 hA1 hB1=>?_
 have hq':∀ q∈past.reverse,PstOk q:=fun q h=>hq q (List.mem_reverse.mp h)
 generalize past.reverse=L at hq' ⊢
 cases L with
 | nil =>
  lia
  subst hB1
  exact k _ ⟨_,_,_,_,_,_,_,_,rfl⟩
 | cons q L =>
  have qo:=hq' q aat
  obtain ⟨ps',ts',d⟩:=q
  have qS:NetS ps' ts':=qo.S
  have qd:DOk ps' ts' d:=qo.d
  have q2:NetS (chgP ps' d) (chgT ts' d):=qo.s2
  lia
  rw [if_pos (decide_eq_true (by omega))]
  have e0:ixPV (PV.lst (triPV (ps',ts',d)::L.map triPV)) (.int 0)=some (triPV (ps',ts',d)):=aj (j:=0) rfl
  have e1:ixPV (triPV (ps',ts',d)) (.int 0)=some (netPV ps' ts'):=aj (j:=0) rfl
  have e2:ixPV (triPV (ps',ts',d)) (.int 1)=some (deedPV d):=aj (j:=1) rfl
  simp only [eOpS]
  lia
  refine aa e0 (aa e1 ?_)
  try lia
  refine aa e0 (aa e2 ?_)
  try lia
  refine ⟨ps',ts',d,rfl,qS,qd,?_⟩
  try lia
  refine aa e0 (aa e1 ?_)
  try lia
  obtain ⟨b,hb1,hb2⟩:=tS 60 _ _ (eq60 (d:=4) (by omega) (jA q2)) (eq60 (d:=4) (by omega) (jA qS))
  refine aa (z:=.bl b) (by unfold eqqPV; rw [hb1]; rfl) (aa rfl ?_)
  have fin:B1 { nx:=M,rt:=fun x e=>obN 10 (fun c=>x=PV.bl true/\c=tabT T) e,bk:=N,ct:=M } [some ⟨0,x⟩,some ⟨4,.non⟩,some ⟨0,y⟩,some ⟨0,netPV ps2 ts2⟩,some ⟨0,PV.lst (triPV (ps',ts',d)::L.map triPV)⟩,v5,v6,v7,v8,v9,some ⟨2,tabT T⟩]:=by
   subst hB1
   exact k _ ⟨_,_,_,_,_,_,_,_,rfl⟩
  cases b with
  | false=>rw [if_neg (by simp)]; exact fin
  | true =>
   rw [if_pos rfl]
   have en:=uI (hb2 rfl)
   refine aa e0 (aa e2 ?_)
   cases d with
   | cos n c =>
    refine aa (z:=.str "cost") (aj (j:=0) rfl) ?_
    refine aa (fF _ _) (aa rfl ?_)
    rw [decide_eq_true rfl,ab7,if_neg (by simp)]
    exact fin
   | _=>exact absurd en (xk qd fun n c e=>by cases e)
end Pre
namespace Pre
open PySem L2 Q
section
variable {P:aaq} {w:World} {K:aad} {mg:Str->Option Value} {base:Heap}
theorem kD:(["sign"]:List Str).Nodup:=by decide +kernel
theorem mD:aB ["thing"] ["thing"] (ar j9):=⟨rfl,rfl,rfl,by decide +kernel,rfl,by decide +kernel,by decide +kernel⟩
theorem nQ (Y:Ev K mg):FnOk P w K mg base CX0 1 Y.fIsWord.f Y.fIsWord.fd ["thing"] (spQ ⟨P,w,K,obG K⟩ 1 (run 1 di)) :=
 bB Y.fIsWord.F mD (by decide) (fun cdv A outer s H E hr=>by
  unfold di
  exact (ag (aK (dh (e9 (cT (cS (EvS.w (jY "str" (by decide) Y.b_isinstance Y.b_str PyProof.Rows.boot_str (aw 0 (pv 0)))))) (gS (cT (tu mo jK mo jK ae (bi bn bp (by rfl) Y.b_len aaW (bU (aw 0 (pv 0)))) (vd (Y.c_LONGEST_WORD))))))) (ap (ay e8)) aE)
  (ap (ay (bi (tH rfl) xh (by rfl) Y.b_all PyProof.Rows.boot_all (EvA.w (ab (EvF.s (cb (N:=["sign"]) (T:=(.nm 0)) (js:=[none]) (xa (ac 0 (pv 0))) (fun _ _ _ _ _=>aM (i:=0) kD rfl (Or.inl rfl)) (fun _ _ _ _ _=>ci) (fun _ _ _ _ _=>(tm mo jK mo jK aQ (ac 0 (pv 0)) aQ)))) af)))))))
theorem dr (Y:Ev K mg):FnOk P w K mg base CX0 1 Y.fIsWord.f Y.fIsWord.fd ["thing"] (spQ ⟨P,w,K,obG K⟩ 1 bD):=bg (nQ Y) nW
theorem lS:aB ["thing"] ["thing"] (ar iR):=⟨rfl,rfl,rfl,by decide +kernel,rfl,by decide +kernel,by decide +kernel⟩
theorem mK (Y:Ev K mg):FnOk P w K mg base CX0 1 Y.fIsWhole.f Y.fIsWhole.fd ["thing"] (spQ ⟨P,w,K,obG K⟩ 1 (run 1 cG)) :=
 bB Y.fIsWhole.F lS (by decide) (fun cdv A outer s H E hr=>by
  unfold cG
  exact (ap (ay (fQ (jY "int" (by decide) Y.b_isinstance Y.b_int PyProof.Rows.boot_int (aw 0 (pv 0))) (fL (wY (jY "bool" (by decide) Y.b_isinstance Y.b_bool PyProof.Rows.boot_bool (aw 0 (pv 0)))))))))
theorem gO (Y:Ev K mg):FnOk P w K mg base CX0 1 Y.fIsWhole.f Y.fIsWhole.fd ["thing"] (spQ ⟨P,w,K,obG K⟩ 1 cX):=bg (mK Y) mQ
theorem mE:aB ["net", "tie"] ["net", "tie"] (ar kf):=⟨rfl,rfl,rfl,by decide +kernel,rfl,by decide +kernel,by decide +kernel⟩
theorem nR (Y:Ev K mg):FnOk P w K mg base CX0 1 Y.fIsOpen.f Y.fIsOpen.fd ["net", "tie"] (spQ ⟨P,w,K,obG K⟩ 2 (run 2 dk)) :=
 bB Y.fIsOpen.F mE (by decide) (fun cdv A outer s H E hr=>by
  unfold dk
  exact (ap (ay (fQ (dA (fE (hu62 hr)) fD (aq (hu1 hr) (ac 1 (pv 1)) (EvS.w ae)) (EvS.w (aq (hu1 hr) (ac 0 (pv 0)) (EvS.w ae))) (by first | exact nomark _ | rfl)) (fL (dA (fE (hu62 hr)) fD (aq (hu1 hr) (ac 1 (pv 1)) (EvS.w ae)) (EvS.w (aq (hu1 hr) (ac 0 (pv 0)) (EvS.w ae))) (by first | exact nomark _ | rfl)))))))
theorem ol (Y:Ev K mg):FnOk P w K mg base CX0 1 Y.fIsOpen.f Y.fIsOpen.fd ["net", "tie"] (spQ ⟨P,w,K,obG K⟩ 2 fu):=bg (nR Y) nX
theorem gm:(["tie"]:List Str).Nodup:=by decide +kernel
theorem im:aB ["net"] ["net"] (ar fm):=⟨rfl,rfl,rfl,by decide +kernel,rfl,by decide +kernel,by decide +kernel⟩
theorem iW (Y:Ev K mg):FnOk P w K mg base CX0 1 Y.fTiesByName.f Y.fTiesByName.fd ["net"] (spQ ⟨P,w,K,obG K⟩ 1 (run 1 bL)) :=
 bB Y.fTiesByName.F im (by decide) (fun cdv A outer s H E hr=>by
  unfold bL
  exact (ap (ay (EvF.s (tR (N:=["tie"]) (T:=(.nm 0)) (js:=[none]) (aY (aq (hu1 hr) (ac 0 (pv 0)) (EvS.w ae))) (fun _ _ _ _ _=>aM (i:=0) gm rfl (Or.inl rfl)) (fun _ _ _ _ _=>ci) (fun _ _ _ _ _=>(aq (hu1 hr) (ac 0 (pv 0)) (EvS.w ae))) (fun _ _ _ _ _=>(ac 0 (pv 0))))))))
theorem bS (Y:Ev K mg):FnOk P w K mg base CX0 1 Y.fTiesByName.f Y.fTiesByName.fd ["net"] (spQ ⟨P,w,K,obG K⟩ 1 be):=bg (iW Y) i9
theorem jk:(["tie", "net"]:List Str).Nodup:=by decide +kernel
theorem j7:aB ["net"] ["net"] (ar gz):=⟨rfl,rfl,rfl,by decide +kernel,rfl,by decide +kernel,by decide +kernel⟩
theorem lY (Y:Ev K mg):FnOk P w K mg base CX0 2 Y.fOpenTies.f Y.fOpenTies.fd ["net"] (spQ ⟨P,w,K,obG K⟩ 1 (run 1 cn)) :=
 bB Y.fOpenTies.F j7 (by decide) (fun cdv A outer s H E hr=>by
  unfold cn
  exact (ap (ay (cR bt bu (by rfl) Y.b_tuple aaL (EvA.w (ab (EvF.s (cb (N:=["tie", "net"]) (T:=(.nm 0)) (js:=[none,some 0]) (aY (aq (hu1 hr) (ac 0 (pv 0)) (EvS.w ae))) (fun _ _ _ _ _=>aM (i:=0) jk rfl (Or.inl rfl)) (fun _ _ _ _ _=>cV (cS (EvS.w (aJ (ol Y) (hr.mono (by decide)) Y.fIsOpen.n.mg Y.fIsOpen.n.kp Y.fIsOpen.b (ab (ac 1 (pv 1)) (ab (ac 0 (pv 0)) af)))))) (fun _ _ _ _ _=>(aq (hu1 hr) (ac 0 (pv 0)) (EvS.w ae))))) af))))))
theorem mh (Y:Ev K mg):FnOk P w K mg base CX0 2 Y.fOpenTies.f Y.fOpenTies.fd ["net"] (spQ ⟨P,w,K,obG K⟩ 1 dG):=bg (lY Y) ma
theorem m4:(["tie"]:List Str).Nodup:=by decide +kernel
theorem pE:aB ["net"] ["net"] (ar sRanks):=⟨rfl,rfl,rfl,by decide +kernel,rfl,by decide +kernel,by decide +kernel⟩
theorem qu (Y:Ev K mg):FnOk P w K mg base CX0 1 Y.fRanks.f Y.fRanks.fd ["net"] (spQ ⟨P,w,K,obG K⟩ 1 (run 1 eJ)) :=
 bB Y.fRanks.F pE (by decide) (fun cdv A outer s H E hr=>by
  unfold eJ
  exact (ap (ay (EvF.s (tR (N:=["tie"]) (T:=(.nm 0)) (js:=[none]) (aY (aq (hu1 hr) (ac 0 (pv 0)) (EvS.w ae))) (fun _ _ _ _ _=>aM (i:=0) m4 rfl (Or.inl rfl)) (fun _ _ _ _ _=>ci) (fun _ _ _ _ _=>(aq (hu1 hr) (ac 0 (pv 0)) (EvS.w ae))) (fun _ _ _ _ _=>(aH (ab (aq (hu1 hr) (ac 0 (pv 0)) (EvS.w ae)) (ab (aq (hu1 hr) (ac 0 (pv 0)) (EvS.w ae)) af)))))))))
theorem re (Y:Ev K mg):FnOk P w K mg base CX0 1 Y.fRanks.f Y.fRanks.fd ["net"] (spQ ⟨P,w,K,obG K⟩ 1 g5):=bg (qu Y) qE
theorem fj:aB ["parts"] ["parts"] (ar cL):=⟨rfl,rfl,rfl,by decide +kernel,rfl,by decide +kernel,by decide +kernel⟩
theorem fz (Y:Ev K mg):FnOk P w K mg base CX0 2 Y.fAreEndsAndCost.f Y.fAreEndsAndCost.fd ["parts"] (spQ ⟨P,w,K,obG K⟩ 1 (run 1 bh)) :=
 bB Y.fAreEndsAndCost.F fj (by decide) (fun cdv A outer s H E hr=>by
  unfold bh
  exact (ag (aK (dh (e9 (av (dJ (hu0 hr)) cM (bi bn bp (by rfl) Y.b_len aaW (bU (aw 0 (pv 0)))) (EvS.w ae) (by first | exact nomark _ | rfl)) (e9 (cT (cS (EvS.w (aJ (dr Y) (hr.mono (by decide)) Y.fIsWord.n.mg Y.fIsWord.n.kp Y.fIsWord.b (ab (aq (hu1 hr) (ac 0 (pv 0)) (EvS.w ae)) af))))) (gS (cT (cS (EvS.w (aJ (dr Y) (hr.mono (by decide)) Y.fIsWord.n.mg Y.fIsWord.n.kp Y.fIsWord.b (ab (aq (hu1 hr) (ac 0 (pv 0)) (EvS.w ae)) af))))))))) (ap (ay e8)) aE)
  (ap (ay (fQ (dA (dJ (hu0 hr)) cM (aq (hu1 hr) (ac 0 (pv 0)) (EvS.w ae)) (EvS.w (aq (hu1 hr) (ac 0 (pv 0)) (EvS.w ae))) (by first | exact nomark _ | rfl)) (fL (aJ (gO Y) (hr.mono (by decide)) Y.fIsWhole.n.mg Y.fIsWhole.n.kp Y.fIsWhole.b (ab (aq (hu1 hr) (ac 0 (pv 0)) (EvS.w ae)) af))))))))
theorem fH (Y:Ev K mg):FnOk P w K mg base CX0 2 Y.fAreEndsAndCost.f Y.fAreEndsAndCost.fd ["parts"] (spQ ⟨P,w,K,obG K⟩ 1 bj):=bg (fz Y) fC
theorem sc_p_is_deed:aB ["thing", "rest"] ["thing"] (ar kh):=⟨rfl,rfl,rfl,by decide +kernel,rfl,by decide +kernel,by decide +kernel⟩
theorem nS (Y:Ev K mg):FnOk P w K mg base CX0 3 Y.fIsDeed.f Y.fIsDeed.fd ["thing"] (spQ ⟨P,w,K,obG K⟩ 1 (run 2 cg)) :=
 bB Y.fIsDeed.F sc_p_is_deed (by decide) (fun cdv A outer s H E hr=>by
  unfold cg
  exact (ag (aK (dh (e9 (cT (cS (EvS.w (jY "tuple" (by decide) Y.b_isinstance Y.b_tuple aaL (aw 0 (pv 0)))))) (e9 (av jJ gJ (bi bn bp (by rfl) Y.b_len aaW (bU (aw 0 (pv 0)))) (EvS.w ae) (by first | exact nomark _ | rfl)) (e9 (cT (cS (EvS.w (aJ (dr Y) (hr.mono (by decide)) Y.fIsWord.n.mg Y.fIsWord.n.kp Y.fIsWord.b (ab (aq (hu1 hr) (ac 0 (pv 0)) (EvS.w ae)) af))))) (gS (cT (cS (EvS.w (aJ (dr Y) (hr.mono (by decide)) Y.fIsWord.n.mg Y.fIsWord.n.kp Y.fIsWord.b (ab (aq (hu1 hr) (ac 0 (pv 0)) (EvS.w ae)) af)))))))))) (ap (ay e8)) aE)
  (ag (aC 1 sc_p_is_deed.nd rfl (Or.inl rfl) (e7 (ac 0 (pv 0)) (cC (EvS.w ae)) cD))
  (ag (aK (av (aO (hu60 hr)) aN (aq (hu1 hr) (ac 0 (pv 0)) (EvS.w ae)) (EvS.w aQ) (by first | exact nomark _ | rfl)) (ap (ay (aJ (fH Y) (hr.mono (by decide)) Y.fAreEndsAndCost.n.mg Y.fAreEndsAndCost.n.kp Y.fAreEndsAndCost.b (ab (ac 1 (pv 1)) af)))) aE)
  (ag (aK (av (aO (hu60 hr)) aN (aq (hu1 hr) (ac 0 (pv 0)) (EvS.w ae)) (EvS.w aQ) (by first | exact nomark _ | rfl)) (ap (ay (fQ (dA (aO (hu60 hr)) aN (bi bn bp (by rfl) Y.b_len aaW (bU (aw 1 (pv 1)))) (EvS.w ae) (by first | exact nomark _ | rfl)) (fL (aJ (gO Y) (hr.mono (by decide)) Y.fIsWhole.n.mg Y.fIsWhole.n.kp Y.fIsWhole.b (ab (aq (hu1 hr) (ac 1 (pv 1)) (EvS.w ae)) af)))))) aE)
  (ap (ay (fQ (dA (fE (hu62 hr)) fD (aq (hu1 hr) (ac 0 (pv 0)) (EvS.w ae)) (EvS.w (aH (ab aQ (ab aQ (ab aQ af))))) (by first | exact nomark _ | rfl)) (fL (dA (aO (hu60 hr)) aN (bi bn bp (by rfl) Y.b_len aaW (bU (aw 1 (pv 1)))) (EvS.w ae) (by first | exact nomark _ | rfl)))))))))))
theorem om (Y:Ev K mg):FnOk P w K mg base CX0 3 Y.fIsDeed.f Y.fIsDeed.fd ["thing"] (spQ ⟨P,w,K,obG K⟩ 1 fx):=bg (nS Y) nY
theorem sc_p_place_comes:aB ["net", "deed", "place"] ["net", "deed"] (ar fo):=⟨rfl,rfl,rfl,by decide +kernel,rfl,by decide +kernel,by decide +kernel⟩
theorem jG (Y:Ev K mg):FnOk P w K mg base CX0 1 Y.fPlaceComes.f Y.fPlaceComes.fd ["net", "deed"] (spQ ⟨P,w,K,obG K⟩ 2 (run 3 bX)) :=
 bB Y.fPlaceComes.F sc_p_place_comes (by decide) (fun cdv A outer s H E hr=>by
  unfold bX
  exact (ag (aC 2 sc_p_place_comes.nd rfl (Or.inl rfl) (aq (hu1 hr) (ac 1 (pv 1)) (EvS.w ae)))
  (ag (aK (av (fE (hu62 hr)) fD (ac 2 (pv 2)) (EvS.w (aq (hu1 hr) (ac 0 (pv 0)) (EvS.w ae))) (by first | exact nomark _ | rfl)) (ap fK) aE)
  (ap (ay (aH (ab (cR bt bu (by rfl) Y.b_tuple aaL (EvA.w (ab (EvF.s (s0 rfl (by rfl) Y.b_sorted (EvA.w (ab (aL (aq (hu1 hr) (ac 0 (pv 0)) (EvS.w ae)) (EvS.w (aH (ab (ac 2 (pv 2)) af)))) af)))) af))) (ab (aq (hu1 hr) (ac 0 (pv 0)) (EvS.w ae)) af))))))))
theorem jU (Y:Ev K mg):FnOk P w K mg base CX0 1 Y.fPlaceComes.f Y.fPlaceComes.fd ["net", "deed"] (spQ ⟨P,w,K,obG K⟩ 2 bZ):=bg (jG Y) jI
theorem gp:(["each", "place"]:List Str).Nodup:=by decide +kernel
theorem sc_p_place_leaves:aB ["net", "deed", "place"] ["net", "deed"] (ar dX):=⟨rfl,rfl,rfl,by decide +kernel,rfl,by decide +kernel,by decide +kernel⟩
theorem iX (Y:Ev K mg):FnOk P w K mg base CX0 1 Y.fPlaceLeaves.f Y.fPlaceLeaves.fd ["net", "deed"] (spQ ⟨P,w,K,obG K⟩ 2 (run 3 bM)) :=
 bB Y.fPlaceLeaves.F sc_p_place_leaves (by decide) (fun cdv A outer s H E hr=>by
  unfold bM
  exact (ag (aC 2 sc_p_place_leaves.nd rfl (Or.inr rfl) (aq (hu1 hr) (ac 1 (pv 1)) (EvS.w ae)))
  (ag (aK (av (cy (hu62 hr)) cx (ac 2 (pv 2)) (EvS.w (aq (hu1 hr) (ac 0 (pv 0)) (EvS.w ae))) (by first | exact nomark _ | rfl)) (ap fK) aE)
  (ap (ay (aH (ab (cR bt bu (by rfl) Y.b_tuple aaL (EvA.w (ab (EvF.s (cb (N:=["each", "place"]) (T:=(.nm 0)) (js:=[none,some 2]) (aY (aq (hu1 hr) (ac 0 (pv 0)) (EvS.w ae))) (fun _ _ _ _ _=>aM (i:=0) gp rfl (Or.inl rfl)) (fun _ _ _ _ _=>cV (av (dJ (hu0 hr)) cM (ac 0 (pv 0)) (aw 1 (pv 1)) (by first | exact nomark _ | rfl))) (fun _ _ _ _ _=>(ac 0 (pv 0))))) af))) (ab (aq (hu1 hr) (ac 0 (pv 0)) (EvS.w ae)) af))))))))
theorem jn (Y:Ev K mg):FnOk P w K mg base CX0 1 Y.fPlaceLeaves.f Y.fPlaceLeaves.fd ["net", "deed"] (spQ ⟨P,w,K,obG K⟩ 2 bV):=bg (iX Y) ja
theorem sc_p_tie_comes:aB ["net", "deed", "name", "one", "other", "cost", "tie"] ["net", "deed"] (ar gy):=⟨rfl,rfl,rfl,by decide +kernel,rfl,by decide +kernel,by decide +kernel⟩
theorem lX (Y:Ev K mg):FnOk P w K mg base CX0 2 Y.fTieComes.f Y.fTieComes.fd ["net", "deed"] (spQ ⟨P,w,K,obG K⟩ 2 (run 7 cm)) :=
 bB Y.fTieComes.F sc_p_tie_comes (by decide) (fun cdv A outer s H E hr=>by
  unfold cm
  exact (ag (jW (e7 (ac 1 (pv 1)) (cC (EvS.w ae)) cD) (gU (n:=4) rfl (bc (aU 2 sc_p_tie_comes.nd rfl (Or.inl rfl)) (bc (aU 3 sc_p_tie_comes.nd rfl (Or.inl rfl)) (bc (aU 4 sc_p_tie_comes.nd rfl (Or.inl rfl)) (bc (aU 5 sc_p_tie_comes.nd rfl (Or.inl rfl)) fR)))) (br (br (br (br gM))))))
  (ag (aK (av (fE (hu62 hr)) fD (ac 2 (pv 2)) (EvS.w (aJ (bS Y) (hr.mono (by decide)) Y.fTiesByName.n.mg Y.fTiesByName.n.kp Y.fTiesByName.b (ab (ac 0 (pv 0)) af))) (by first | exact nomark _ | rfl)) (ap fK) aE)
  (ag (aC 6 sc_p_tie_comes.nd rfl (Or.inl rfl) (aH (ab (ac 2 (pv 2)) (ab (bi (xc rfl) xg (by rfl) Y.b_min PyProof.Rows.boot_min (EvA.w (ab (ac 3 (pv 3)) (ab (ac 4 (pv 4)) af)))) (ab (bi (rH rfl) rJ (by rfl) Y.b_max PyProof.Rows.boot_max (EvA.w (ab (ac 3 (pv 3)) (ab (ac 4 (pv 4)) af)))) (ab (ac 5 (pv 5)) af))))))
  (ap (ay (aH (ab (aq (hu1 hr) (ac 0 (pv 0)) (EvS.w ae)) (ab (cR bt bu (by rfl) Y.b_tuple aaL (EvA.w (ab (EvF.s (rm (by rfl) Y.b_sorted (EvA.w (ab (aL (aq (hu1 hr) (ac 0 (pv 0)) (EvS.w ae)) (EvS.w (aH (ab (ac 6 (pv 6)) af)))) af)))) af))) af)))))))))
theorem mf (Y:Ev K mg):FnOk P w K mg base CX0 2 Y.fTieComes.f Y.fTieComes.fd ["net", "deed"] (spQ ⟨P,w,K,obG K⟩ 2 cq):=bg (lX Y) l0
theorem jN:(["tie", "name"]:List Str).Nodup:=by decide +kernel
theorem sc_p_tie_goes:aB ["net", "deed", "name"] ["net", "deed"] (ar iQ):=⟨rfl,rfl,rfl,by decide +kernel,rfl,by decide +kernel,by decide +kernel⟩
theorem mJ (Y:Ev K mg):FnOk P w K mg base CX0 2 Y.fTieGoes.f Y.fTieGoes.fd ["net", "deed"] (spQ ⟨P,w,K,obG K⟩ 2 (run 3 cF)) :=
 bB Y.fTieGoes.F sc_p_tie_goes (by decide) (fun cdv A outer s H E hr=>by
  unfold cF
  exact (ag (aC 2 sc_p_tie_goes.nd rfl (Or.inr rfl) (aq (hu1 hr) (ac 1 (pv 1)) (EvS.w ae)))
  (ag (aK (av (cy (hu62 hr)) cx (ac 2 (pv 2)) (EvS.w (aJ (bS Y) (hr.mono (by decide)) Y.fTiesByName.n.mg Y.fTiesByName.n.kp Y.fTiesByName.b (ab (ac 0 (pv 0)) af))) (by first | exact nomark _ | rfl)) (ap fK) aE)
  (ap (ay (aH (ab (aq (hu1 hr) (ac 0 (pv 0)) (EvS.w ae)) (ab (cR bt bu (by rfl) Y.b_tuple aaL (EvA.w (ab (EvF.s (cb (N:=["tie", "name"]) (T:=(.nm 0)) (js:=[none,some 2]) (aY (aq (hu1 hr) (ac 0 (pv 0)) (EvS.w ae))) (fun _ _ _ _ _=>aM (i:=0) jN rfl (Or.inl rfl)) (fun _ _ _ _ _=>cV (av (dJ (hu0 hr)) cM (aq (hu1 hr) (ac 0 (pv 0)) (EvS.w ae)) (aw 1 (pv 1)) (by first | exact nomark _ | rfl))) (fun _ _ _ _ _=>(ac 0 (pv 0))))) af))) af))))))))
theorem nq (Y:Ev K mg):FnOk P w K mg base CX0 2 Y.fTieGoes.f Y.fTieGoes.fd ["net", "deed"] (spQ ⟨P,w,K,obG K⟩ 2 cW):=bg (mJ Y) mP
theorem jj:(["tie", "name", "cost"]:List Str).Nodup:=by decide +kernel
theorem sc_p_tie_costs:aB ["net", "deed", "name", "cost"] ["net", "deed"] (ar gx):=⟨rfl,rfl,rfl,by decide +kernel,rfl,by decide +kernel,by decide +kernel⟩
theorem lW (Y:Ev K mg):FnOk P w K mg base CX0 2 Y.fTieCosts.f Y.fTieCosts.fd ["net", "deed"] (spQ ⟨P,w,K,obG K⟩ 2 (run 4 ck)) :=
 bB Y.fTieCosts.F sc_p_tie_costs (by decide) (fun cdv A outer s H E hr=>by
  unfold ck
  exact (ag (jW (e7 (ac 1 (pv 1)) (cC (EvS.w ae)) cD) (gU (n:=2) rfl (bc (aU 2 sc_p_tie_costs.nd rfl (Or.inr rfl)) (bc (aU 3 sc_p_tie_costs.nd rfl (Or.inr rfl)) fR)) (br (br gM))))
  (ag (aK (av (cy (hu62 hr)) cx (ac 2 (pv 2)) (EvS.w (aJ (bS Y) (hr.mono (by decide)) Y.fTiesByName.n.mg Y.fTiesByName.n.kp Y.fTiesByName.b (ab (ac 0 (pv 0)) af))) (by first | exact nomark _ | rfl)) (ap fK) aE)
  (ap (ay (aH (ab (aq (hu1 hr) (ac 0 (pv 0)) (EvS.w ae)) (ab (cR bt bu (by rfl) Y.b_tuple aaL (EvA.w (ab (EvF.s (cb (N:=["tie", "name", "cost"]) (T:=(.nm 0)) (js:=[none,some 2,some 3]) (aY (aq (hu1 hr) (ac 0 (pv 0)) (EvS.w ae))) (fun _ _ _ _ _=>aM (i:=0) jj rfl (Or.inl rfl)) (fun _ _ _ _ _=>ci) (fun _ _ _ _ _=>(rn (av (aO (hu60 hr)) aN (aq (hu1 hr) (ac 0 (pv 0)) (EvS.w ae)) (aw 1 (pv 1)) (by first | exact nomark _ | rfl)) (aL (e7 (ac 0 (pv 0)) cD (cC (EvS.w ae))) (EvS.w (aH (ab (ac 2 (pv 2)) af)))) (ac 0 (pv 0)))))) af))) af))))))))
theorem me (Y:Ev K mg):FnOk P w K mg base CX0 2 Y.fTieCosts.f Y.fTieCosts.fd ["net", "deed"] (spQ ⟨P,w,K,obG K⟩ 2 cp):=bg (lW Y) lZ
theorem sc_p_changed:aB ["net", "deed", "done"] ["net", "deed"] (ar iT):=⟨rfl,rfl,rfl,by decide +kernel,rfl,by decide +kernel,by decide +kernel⟩
theorem nT (Y:Ev K mg):FnOk P w K mg base CX0 4 Y.fChanged.f Y.fChanged.fd ["net", "deed"] (spQ ⟨P,w,K,obG K⟩ 2 (run 3 dl)) :=
 bB Y.fChanged.F sc_p_changed (by decide) (fun cdv A outer s H E hr=>by
  unfold dl
  exact (ag (aK (cT (cS (EvS.w (aJ (om Y) (hr.mono (by decide)) Y.fIsDeed.n.mg Y.fIsDeed.n.kp Y.fIsDeed.b (ab (ac 1 (pv 1)) af))))) (ap fK) aE)
  (sY 2 (k:=2) (T:=[("place",Y.fPlaceComes.f,bZ),("leave",Y.fPlaceLeaves.f,bV),("tie",Y.fTieComes.f,cq),("untie",Y.fTieGoes.f,cW),("cost",Y.fTieCosts.f,cp)]) sc_p_changed.nd rfl (Or.inl rfl) (by rfl) Y.t_DEEDS.mg Y.t_DEEDS.tab (List.forall_mem_cons.mpr ⟨⟨_,_,FnOk.mono (jU Y) (by decide),Y.fPlaceComes.n.kp,Y.fPlaceComes.b⟩,(List.forall_mem_cons.mpr ⟨⟨_,_,FnOk.mono (jn Y) (by decide),Y.fPlaceLeaves.n.kp,Y.fPlaceLeaves.b⟩,(List.forall_mem_cons.mpr ⟨⟨_,_,FnOk.mono (mf Y) (by decide),Y.fTieComes.n.kp,Y.fTieComes.b⟩,(List.forall_mem_cons.mpr ⟨⟨_,_,FnOk.mono (nq Y) (by decide),Y.fTieGoes.n.kp,Y.fTieGoes.b⟩,(List.forall_mem_cons.mpr ⟨⟨_,_,FnOk.mono (me Y) (by decide),Y.fTieCosts.n.kp,Y.fTieCosts.b⟩,(fun _ hq=>(nomatch hq))⟩)⟩)⟩)⟩)⟩) (hr.mono (by decide)) (aq (hu1 hr) (ac 1 (pv 1)) (EvS.w ae)) (fun _ _=>rfl) (pv 2) (ab (ac 0 (pv 0)) (ab (ac 1 (pv 1)) af)))))
theorem bf (Y:Ev K mg):FnOk P w K mg base CX0 4 Y.fChanged.f Y.fChanged.fd ["net", "deed"] (spQ ⟨P,w,K,obG K⟩ 2 aV):=bg (nT Y) nZ
theorem sc_p_cheaper_first:aB ["net", "names", "rank", "#t"] ["net", "names"] (ar dF):=⟨rfl,rfl,rfl,by decide +kernel,rfl,by decide +kernel,by decide +kernel⟩
theorem f8 {p:Pos}:LamSc "name" "rank" { posonlyargs:=[],args:=[{ arg := "name",annotation:=none,pos:=p }],vararg:=none,kwonlyargs:=[],kw_defaults:=[],kwarg:=none,defaults:=[] } { kind:=.function,names:=[("name",.local),("rank",.free)],isGenerator:=false,isCoroutine:=false,more:=[] } :=
 ⟨rfl,rfl,rfl,by decide,rfl,rfl,rfl,rfl,rfl,rfl,fun _ _ _ _ _ _ _=>rfl⟩
theorem f9 {p:Pos}:LamDf "rank" { posonlyargs:=[],args:=[{ arg := "name",annotation:=none,pos:=p }],vararg:=none,kwonlyargs:=[],kw_defaults:=[],kwarg:=none,defaults:=[] } { kind:=.function,names:=[("name",.local),("rank",.free)],isGenerator:=false,isCoroutine:=false,more:=[] } :=
 ⟨fun _=>rfl,fun env cell h=>by simp [closureFor,cellOf,h]⟩
theorem ip (Y:Ev K mg) (hB:BMain mg base):FnOk P w K mg base CX0 2 Y.fCheaperFirst.f Y.fCheaperFirst.fd ["net", "names"] (spT ⟨P,w,K,obG K⟩ 2 (runT 3 (bF Y.fCheaperFirst_T))) :=
 jV (nm := "#t") Y.fCheaperFirst.F sc_p_cheaper_first rfl (by decide) rfl (by unfold Vis; decide +kernel) (fun cdv hcdv A outer s H E hr=>by
  unfold bF
  obtain ⟨c,hc,hC⟩:=Y.fCheaperFirst_t
  have hcd:=hcdv.symm.trans hc
  exact (ag (aC 2 sc_p_cheaper_first.nd rfl (Or.inr rfl) (aJ (re Y) (hr.mono (by decide)) Y.fRanks.n.mg Y.fRanks.n.kp Y.fRanks.b (ab (ac 0 (pv 0)) af)))
  (ap (ay (EvF.s (tj 3 2 f8 f9 hr (by rfl) Y.b_sorted (by rfl) hcd hC hB (by rfl) (by rfl) (Or.inr (Or.inl rfl)) (ac 1 (pv 1))))))))
theorem iA (Y:Ev K mg) (hB:BMain mg base):FnOk P w K mg base CX0 2 Y.fCheaperFirst.f Y.fCheaperFirst.fd ["net", "names"] (spT ⟨P,w,K,obG K⟩ 2 (cf Y.fCheaperFirst_T)):=kQ (ip Y hB) (ir _)
theorem f7:(["place"]:List Str).Nodup:=by decide +kernel
theorem cN:(["place", "word", "stays", "goes"]:List Str).Nodup:=by decide +kernel
theorem sc_p_without_round:aB ["net", "names", "named", "group", "kept", "name", "tie", "stays", "goes"] ["net", "names"] (ar dE):=⟨rfl,rfl,rfl,by decide +kernel,rfl,by decide +kernel,by decide +kernel⟩
theorem io (Y:Ev K mg):FnOk P w K mg base CX0 2 Y.fWithoutRound.f Y.fWithoutRound.fd ["net", "names"] (spQ ⟨P,w,K,obG K⟩ 2 (run 9 bE)) :=
 bB Y.fWithoutRound.F sc_p_without_round (by decide) (fun cdv A outer s H E hr=>by
  unfold bE
  exact (ag (aC 2 sc_p_without_round.nd rfl (Or.inl rfl) (aJ (bS Y) (hr.mono (by decide)) Y.fTiesByName.n.mg Y.fTiesByName.n.kp Y.fTiesByName.b (ab (ac 0 (pv 0)) af)))
  (ag (tQ 3 (N:=["place"]) (T:=(.nm 0)) (js:=[none]) sc_p_without_round.nd rfl rfl (aY (aq (hu1 hr) (ac 0 (pv 0)) (EvS.w ae))) (fun _ _ _ _ _=>aM (i:=0) f7 rfl (Or.inl rfl)) (fun _ _ _ _ _=>ci) (fun _ _ _ _ _=>(ac 0 (pv 0))) (fun _ _ _ _ _=>(ac 0 (pv 0))))
  (ag (ij 4 sc_p_without_round.nd rfl (Or.inl rfl) (b8 af))
  (ag (fI abU rfl (aY (ac 1 (pv 1))) (aU 5 sc_p_without_round.nd rfl (Or.inl rfl)) (ag (aC 6 sc_p_without_round.nd rfl (Or.inl rfl) (aq (hu1 hr) (ac 2 (pv 2)) (aw 5 (pv 5))))
  (ag (jW (aH (ab (fN 3 (hu1 hr) (pv 3) (EvS.w (aq (hu1 hr) (ac 6 (pv 6)) (EvS.w ae)))) (ab (fN 3 (hu1 hr) (pv 3) (EvS.w (aq (hu1 hr) (ac 6 (pv 6)) (EvS.w ae)))) af))) (gU (n:=2) rfl (bc (aU 7 sc_p_without_round.nd rfl (Or.inr rfl)) (bc (aU 8 sc_p_without_round.nd rfl (Or.inr rfl)) fR)) (br (br gM))))
  (ap (aK (av (dJ (hu0 hr)) cM (ac 7 (pv 7)) (aw 8 (pv 8)) (by first | exact nomark _ | rfl)) (ag (fJ (EvS.w (jX 4 abT abS cz dv (pv 4) (ab (ac 5 (pv 5)) af))))
  (ap (tQ 3 (N:=["place", "word", "stays", "goes"]) (T:=(.tp [0,1])) (js:=[none,none,some 7,some 8]) sc_p_without_round.nd rfl rfl (rB 3 (pv 3)) (fun _ _ _ _ _=>qB (n:=2) rfl (i7 (aM (i:=0) cN rfl (Or.inl rfl)) (i7 (aM (i:=1) cN rfl (Or.inl rfl)) oJ))) (fun _ _ _ _ _=>ci) (fun _ _ _ _ _=>(ac 0 (pv 0))) (fun _ _ _ _ _=>(rn (av (aO (hu60 hr)) aN (ac 1 (pv 1)) (aw 3 (pv 3)) (by first | exact nomark _ | rfl)) (ac 2 (pv 2)) (ac 1 (pv 1))))))) aE)))))
  (ap (ay (cR bt bu (by rfl) Y.b_tuple aaL (EvA.w (ab (EvF.s (jr rfl (by rfl) Y.b_sorted (bU (aw 4 (pv 4))))) af))))))))))
theorem iz (Y:Ev K mg):FnOk P w K mg base CX0 2 Y.fWithoutRound.f Y.fWithoutRound.fd ["net", "names"] (spQ ⟨P,w,K,obG K⟩ 2 ce):=bg (io Y) iq
theorem lV:aB ["net", "#t"] ["net"] (ar gB):=⟨rfl,rfl,rfl,by decide +kernel,rfl,by decide +kernel,by decide +kernel⟩
theorem mM (Y:Ev K mg) (hB:BMain mg base):FnOk P w K mg base CX0 3 Y.fCheapest.f Y.fCheapest.fd ["net"] (spT ⟨P,w,K,obG K⟩ 1 (runT 1 (cI Y.fCheaperFirst_T))) :=
 jV (nm := "#t") Y.fCheapest.F lV rfl (by decide) rfl (by unfold Vis; decide +kernel) (fun cdv hcdv A outer s H E hr=>by
  unfold cI
  exact (ap (ay (aJ (iz Y) (hr.mono (by decide)) Y.fWithoutRound.n.mg Y.fWithoutRound.n.kp Y.fWithoutRound.b (ab (ac 0 (pv 0)) (ab (cu 1 (iA Y hB) (hr.mono (by decide)) Y.fCheaperFirst.n.mg Y.fCheaperFirst.n.kp Y.fCheaperFirst.b (ab (ac 0 (pv 0)) (ab (aJ (mh Y) (hr.mono (by decide)) Y.fOpenTies.n.mg Y.fOpenTies.n.kp Y.fOpenTies.b (ab (ac 0 (pv 0)) af)) af))) af))))))
theorem cP (Y:Ev K mg) (hB:BMain mg base):FnOk P w K mg base CX0 3 Y.fCheapest.f Y.fCheapest.fd ["net"] (spT ⟨P,w,K,obG K⟩ 1 (bI Y.fCheaperFirst_T)):=kQ (mM Y hB) (mS _)
theorem kF:(["name", "behind"]:List Str).Nodup:=by decide +kernel
theorem kE:(["name", "ahead"]:List Str).Nodup:=by decide +kernel
theorem sc_p_between:aB ["ahead", "behind", "gone", "come"] ["ahead", "behind"] (ar iU):=⟨rfl,rfl,rfl,by decide +kernel,rfl,by decide +kernel,by decide +kernel⟩
theorem nU (Y:Ev K mg):FnOk P w K mg base CX0 1 Y.fBetween.f Y.fBetween.fd ["ahead", "behind"] (spQ ⟨P,w,K,obG K⟩ 2 (run 4 dm)) :=
 bB Y.fBetween.F sc_p_between (by decide) (fun cdv A outer s H E hr=>by
  unfold dm
  exact (ag (aC 2 sc_p_between.nd rfl (Or.inl rfl) (cR bt bu (by rfl) Y.b_tuple aaL (EvA.w (ab (EvF.s (cb (N:=["name", "behind"]) (T:=(.nm 0)) (js:=[none,some 1]) (aY (ac 0 (pv 0))) (fun _ _ _ _ _=>aM (i:=0) kF rfl (Or.inl rfl)) (fun _ _ _ _ _=>cV (av (cy (hu62 hr)) cx (ac 0 (pv 0)) (aw 1 (pv 1)) (by first | exact nomark _ | rfl))) (fun _ _ _ _ _=>(ac 0 (pv 0))))) af))))
  (ag (aC 3 sc_p_between.nd rfl (Or.inl rfl) (cR bt bu (by rfl) Y.b_tuple aaL (EvA.w (ab (EvF.s (cb (N:=["name", "ahead"]) (T:=(.nm 0)) (js:=[none,some 0]) (aY (ac 1 (pv 1))) (fun _ _ _ _ _=>aM (i:=0) kE rfl (Or.inl rfl)) (fun _ _ _ _ _=>cV (av (cy (hu62 hr)) cx (ac 0 (pv 0)) (aw 1 (pv 1)) (by first | exact nomark _ | rfl))) (fun _ _ _ _ _=>(ac 0 (pv 0))))) af))))
  (ap (ay (aH (ab (ac 2 (pv 2)) (ab (ac 3 (pv 3)) af))))))))
theorem oq (Y:Ev K mg):FnOk P w K mg base CX0 1 Y.fBetween.f Y.fBetween.fd ["ahead", "behind"] (spQ ⟨P,w,K,obG K⟩ 2 fy):=bg (nU Y) n4
theorem lU:aB ["net", "deed", "#t"] ["net", "deed"] (ar gA):=⟨rfl,rfl,rfl,by decide +kernel,rfl,by decide +kernel,by decide +kernel⟩
theorem mL (Y:Ev K mg) (hB:BMain mg base):FnOk P w K mg base CX0 5 Y.fExchange.f Y.fExchange.fd ["net", "deed"] (spT ⟨P,w,K,obG K⟩ 2 (runT 2 (cH Y.fCheaperFirst_T))) :=
 jV (nm := "#t") Y.fExchange.F lU rfl (by decide) rfl (by unfold Vis; decide +kernel) (fun cdv hcdv A outer s H E hr=>by
  unfold cH
  exact (ap (ay (aJ (oq Y) (hr.mono (by decide)) Y.fBetween.n.mg Y.fBetween.n.kp Y.fBetween.b (ab (cu 2 (cP Y hB) (hr.mono (by decide)) Y.fCheapest.n.mg Y.fCheapest.n.kp Y.fCheapest.b (ab (ac 0 (pv 0)) af)) (ab (cu 2 (cP Y hB) (hr.mono (by decide)) Y.fCheapest.n.mg Y.fCheapest.n.kp Y.fCheapest.b (ab (aJ (bf Y) (hr.mono (by decide)) Y.fChanged.n.mg Y.fChanged.n.kp Y.fChanged.b (ab (ac 0 (pv 0)) (ab (ac 1 (pv 1)) af))) af)) af))))))
theorem gP (Y:Ev K mg) (hB:BMain mg base):FnOk P w K mg base CX0 5 Y.fExchange.f Y.fExchange.fd ["net", "deed"] (spT ⟨P,w,K,obG K⟩ 2 (cY Y.fCheaperFirst_T)):=kQ (mL Y hB) (mR _)
theorem sc_l_words:aB ["_law_state", "_law_many", "_law_letters", "_law_base", "_law_size", "_law_at", "_law_first", "_law_found", "_law_k", "_law_two"] ["_law_state", "_law_many"] (ar sWords):=⟨rfl,rfl,rfl,by decide +kernel,rfl,by decide +kernel,by decide +kernel⟩
theorem qv (Y:Ev K mg):FnOk P w K mg base CX0 2 Y.fWords.f Y.fWords.fd ["_law_state", "_law_many"] (spO ⟨P,w,K,obG K⟩ 2 (runO 10 eM)) :=
 dz Y.fWords.F sc_l_words (by decide) (fun cdv A outer s H E hr=>by
  unfold eM
  exact (ag (aC 2 sc_l_words.nd rfl (Or.inl rfl) aQ)
  (ag (aC 3 sc_l_words.nd rfl (Or.inl rfl) (aq (hu1 hr) (ac 2 (pv 2)) (EvS.w (au 0 (aF Y) (hr.mono (by decide)) Y.fNext.n.mg Y.fNext.n.kp Y.fNext.b (pv 0) (ab ae af)))))
  (ag (aC 4 sc_l_words.nd rfl (Or.inl rfl) (au 0 (aF Y) (hr.mono (by decide)) Y.fNext.n.mg Y.fNext.n.kp Y.fNext.b (pv 0) (ab ae af)))
  (ag (aC 5 sc_l_words.nd rfl (Or.inl rfl) (au 0 (aF Y) (hr.mono (by decide)) Y.fNext.n.mg Y.fNext.n.kp Y.fNext.b (pv 0) (ab (aL (ac 4 (pv 4)) (EvS.w ae)) af)))
  (ag (aC 6 sc_l_words.nd rfl (Or.inl rfl) (au 0 (aF Y) (hr.mono (by decide)) Y.fNext.n.mg Y.fNext.n.kp Y.fNext.b (pv 0) (ab ae af)))
  (ag (ij 7 sc_l_words.nd rfl (Or.inl rfl) (b8 af))
  (ag (fI abU rfl (fe (by rfl) Y.b_range (ab (ac 1 (pv 1)) af)) (aU 8 sc_l_words.nd rfl (Or.inl rfl)) (ag (aC 9 sc_l_words.nd rfl (Or.inl rfl) (aL (aq (hu1 hr) (ac 2 (pv 2)) (EvS.w (eu (aL (ac 6 (pv 6)) (EvS.w (fM ae (aw 8 (pv 8))))) (EvS.w ae)))) (EvS.w (aq (hu1 hr) (ac 2 (pv 2)) (EvS.w (eu (aL (ac 6 (pv 6)) (EvS.w (rp (ac 8 (pv 8)) (EvS.w ae)))) (EvS.w ae)))))))
  (ap (aK (dh (cU (av jJ gJ (ac 1 (pv 1)) (EvS.w ae) (by first | exact nomark _ | rfl)) (cB (av (aO (hu60 hr)) aN (ac 4 (pv 4)) (EvS.w ae) (by first | exact nomark _ | rfl))))) (ap (fJ (EvS.w (jX 7 abT abS cz dv (pv 7) (ab (fM (ac 3 (pv 3)) (EvS.w (aL (ac 8 (pv 8)) (EvS.w ae)))) af))))) (ap (fJ (EvS.w (jX 7 abT abS cz dv (pv 7) (ab (aL (aL (fM (ac 3 (pv 3)) (aw 5 (pv 5))) (aw 9 (pv 9))) (EvS.w (fM (ac 3 (pv 3)) (EvS.w (cQ (ac 4 (pv 4)) (aw 5 (pv 5))))))) af)))))))))
  (ap (ay (ac 7 (pv 7))))))))))))
theorem eZ (Y:Ev K mg):FnOk P w K mg base CX0 2 Y.fWords.f Y.fWords.fd ["_law_state", "_law_many"] (spO ⟨P,w,K,obG K⟩ 2 cE):=cA (qv Y) qF
theorem qm:aB ["_law_state", "_law_which"] ["_law_state", "_law_which"] (ar sCost):=⟨rfl,rfl,rfl,by decide +kernel,rfl,by decide +kernel,by decide +kernel⟩
theorem sf (Y:Ev K mg):FnOk P w K mg base CX0 2 Y.fCost.f Y.fCost.fd ["_law_state", "_law_which"] (spO ⟨P,w,K,obG K⟩ 2 (runO 2 fV)) :=
 dz Y.fCost.F qm (by decide) (fun cdv A outer s H E hr=>by
  unfold fV
  exact (ag (aK (av (aO (hu60 hr)) aN (ac 1 (pv 1)) (EvS.w ae) (by first | exact nomark _ | rfl)) (ap (ay ae)) aE)
  (ag (aK (av (aO (hu60 hr)) aN (ac 1 (pv 1)) (EvS.w ae) (by first | exact nomark _ | rfl)) (ap (ay (cQ (au 0 (aF Y) (hr.mono (by decide)) Y.fNext.n.mg Y.fNext.n.kp Y.fNext.b (pv 0) (ab ae af)) (EvS.w ae)))) aE)
  (ag (aK (av (aO (hu60 hr)) aN (ac 1 (pv 1)) (EvS.w ae) (by first | exact nomark _ | rfl)) (ap (ay (cQ (au 0 (aF Y) (hr.mono (by decide)) Y.fNext.n.mg Y.fNext.n.kp Y.fNext.b (pv 0) (ab ae af)) (EvS.w ae)))) aE)
  (ap (ay (aq (hu1 hr) (EvF.s (b8 (ab (cQ (nr ae (EvS.w ae)) (EvS.w ae)) (ab (cQ ae (EvS.w (nr ae (EvS.w ae)))) (ab ae (ab (au 0 (aF Y) (hr.mono (by decide)) Y.fNext.n.mg Y.fNext.n.kp Y.fNext.b (pv 0) (ab (nr ae (EvS.w ae)) af)) af)))))) (EvS.w (au 0 (aF Y) (hr.mono (by decide)) Y.fNext.n.mg Y.fNext.n.kp Y.fNext.b (pv 0) (ab ae af))))))))))
theorem jq (Y:Ev K mg):FnOk P w K mg base CX0 2 Y.fCost.f Y.fCost.fd ["_law_state", "_law_which"] (spO ⟨P,w,K,obG K⟩ 2 eH):=cA (sf Y) sC
theorem sc_l_ends:aB ["_law_state", "_law_family", "_law_many", "_law_k", "_law_half", "_law_side", "_law_one"] ["_law_state", "_law_family", "_law_many", "_law_k"] (ar sEnds):=⟨rfl,rfl,rfl,by decide +kernel,rfl,by decide +kernel,by decide +kernel⟩
theorem sd (Y:Ev K mg):FnOk P w K mg base CX0 2 Y.fEnds.f Y.fEnds.fd ["_law_state", "_law_family", "_law_many", "_law_k"] (spO ⟨P,w,K,obG K⟩ 4 (runO 7 fT)) :=
 dz Y.fEnds.F sc_l_ends (by decide) (fun cdv A outer s H E hr=>by
  unfold fT
  exact (ag (aK (av (aO (hu60 hr)) aN (ac 1 (pv 1)) (EvS.w ae) (by first | exact nomark _ | rfl)) (ap (ay (aH (ab (eu (ac 3 (pv 3)) (aw 2 (pv 2))) (ab (eu (aL (ac 3 (pv 3)) (EvS.w ae)) (aw 2 (pv 2))) af))))) aE)
  (ag (aK (av (aO (hu60 hr)) aN (ac 1 (pv 1)) (EvS.w ae) (by first | exact nomark _ | rfl)) (ap (ay (aH (ab ae (ab (aL ae (EvS.w (au 0 (aF Y) (hr.mono (by decide)) Y.fNext.n.mg Y.fNext.n.kp Y.fNext.b (pv 0) (ab (cQ (ac 2 (pv 2)) (EvS.w ae)) af)))) af))))) aE)
  (ag (aK (dh (cU (av (aO (hu60 hr)) aN (ac 1 (pv 1)) (EvS.w ae) (by first | exact nomark _ | rfl)) (cB (av mq jL (ac 2 (pv 2)) (EvS.w ae) (by first | exact nomark _ | rfl))))) (ag (aC 4 sc_l_ends.nd rfl (Or.inl rfl) (rp (ac 2 (pv 2)) (EvS.w ae)))
  (ag (aC 5 sc_l_ends.nd rfl (Or.inl rfl) (au 0 (aF Y) (hr.mono (by decide)) Y.fNext.n.mg Y.fNext.n.kp Y.fNext.b (pv 0) (ab ae af)))
  (ag (aC 6 sc_l_ends.nd rfl (Or.inl rfl) (au 0 (aF Y) (hr.mono (by decide)) Y.fNext.n.mg Y.fNext.n.kp Y.fNext.b (pv 0) (ab (ac 4 (pv 4)) af)))
  (ap (ay (aH (ab (aL (fM (ac 5 (pv 5)) (aw 4 (pv 4))) (aw 6 (pv 6))) (ab (aL (fM (ac 5 (pv 5)) (aw 4 (pv 4))) (EvS.w (eu (aL (aL (ac 6 (pv 6)) (EvS.w ae)) (EvS.w (au 0 (aF Y) (hr.mono (by decide)) Y.fNext.n.mg Y.fNext.n.kp Y.fNext.b (pv 0) (ab (cQ (ac 4 (pv 4)) (EvS.w ae)) af)))) (aw 4 (pv 4))))) af)))))))) aE)
  (ag (aC 6 sc_l_ends.nd rfl (Or.inl rfl) (au 0 (aF Y) (hr.mono (by decide)) Y.fNext.n.mg Y.fNext.n.kp Y.fNext.b (pv 0) (ab (ac 2 (pv 2)) af)))
  (ap (ay (aH (ab (ac 6 (pv 6)) (ab (eu (aL (aL (ac 6 (pv 6)) (EvS.w ae)) (EvS.w (au 0 (aF Y) (hr.mono (by decide)) Y.fNext.n.mg Y.fNext.n.kp Y.fNext.b (pv 0) (ab (cQ (ac 2 (pv 2)) (EvS.w ae)) af)))) (aw 2 (pv 2))) af))))))))))
theorem sU (Y:Ev K mg):FnOk P w K mg base CX0 2 Y.fEnds.f Y.fEnds.fd ["_law_state", "_law_family", "_law_many", "_law_k"] (spO ⟨P,w,K,obG K⟩ 4 ju):=cA (sd Y) sA
theorem sc_l_net:aB ["_law_state", "_law_most", "_law_ties_most", "_law_many", "_law_words_here", "_law_pool", "_law_count", "_law_names", "_law_family", "_law_which", "_law_ties", "_law_k", "_law_one", "_law_other", "_law_two"] ["_law_state", "_law_most", "_law_ties_most"] (ar sNet):=⟨rfl,rfl,rfl,by decide +kernel,rfl,by decide +kernel,by decide +kernel⟩
theorem ug (Y:Ev K mg):FnOk P w K mg base CX0 3 Y.fNet.f Y.fNet.fd ["_law_state", "_law_most", "_law_ties_most"] (spO ⟨P,w,K,obG K⟩ 3 (runO 15 g6)) :=
 dz Y.fNet.F sc_l_net (by decide) (fun cdv A outer s H E hr=>by
  unfold g6
  exact (ag (aC 3 sc_l_net.nd rfl (Or.inl rfl) (au 0 (aF Y) (hr.mono (by decide)) Y.fNext.n.mg Y.fNext.n.kp Y.fNext.b (pv 0) (ab (aL (ac 1 (pv 1)) (EvS.w ae)) af)))
  (ag (aC 4 sc_l_net.nd rfl (Or.inl rfl) (au 0 (eZ Y) (hr.mono (by decide)) Y.fWords.n.mg Y.fWords.n.kp Y.fWords.b (pv 0) (ab (aL (ac 3 (pv 3)) (EvS.w ae)) af)))
  (ag (aC 5 sc_l_net.nd rfl (Or.inl rfl) (e7 (ac 4 (pv 4)) cD (cC (EvS.w (bi (rH rfl) rJ (by rfl) Y.b_max PyProof.Rows.boot_max (EvA.w (ab ae (ab (aL (ac 3 (pv 3)) (EvS.w (au 0 (aF Y) (hr.mono (by decide)) Y.fNext.n.mg Y.fNext.n.kp Y.fNext.b (pv 0) (ab ae af)))) af))))))))
  (ag (aC 6 sc_l_net.nd rfl (Or.inl rfl) (au 0 (aF Y) (hr.mono (by decide)) Y.fNext.n.mg Y.fNext.n.kp Y.fNext.b (pv 0) (ab (aL (ac 2 (pv 2)) (EvS.w ae)) af)))
  (ag (aC 7 sc_l_net.nd rfl (Or.inl rfl) (au 0 (eZ Y) (hr.mono (by decide)) Y.fWords.n.mg Y.fWords.n.kp Y.fWords.b (pv 0) (ab (ac 6 (pv 6)) af)))
  (ag (wW 8 9 rfl sc_l_net.nd rfl rfl (by decide) rfl rfl (ab (au 0 (aF Y) (hr.mono (by decide)) Y.fNext.n.mg Y.fNext.n.kp Y.fNext.b (pv 0) (ab ae af)) (ab (au 0 (aF Y) (hr.mono (by decide)) Y.fNext.n.mg Y.fNext.n.kp Y.fNext.b (pv 0) (ab ae af)) af)) rfl)
  (ag (ij 10 sc_l_net.nd rfl (Or.inl rfl) (b8 af))
  (ag (fI abU rfl (fe (by rfl) Y.b_range (ab (ac 6 (pv 6)) af)) (aU 11 sc_l_net.nd rfl (Or.inl rfl)) (ag (jW (au 0 (sU Y) (hr.mono (by decide)) Y.fEnds.n.mg Y.fEnds.n.kp Y.fEnds.b (pv 0) (ab (ac 8 (pv 8)) (ab (bi bn bp (by rfl) Y.b_len aaW (bU (aw 5 (pv 5)))) (ab (ac 11 (pv 11)) af)))) (gU (n:=2) rfl (bc (aU 12 sc_l_net.nd rfl (Or.inl rfl)) (bc (aU 13 sc_l_net.nd rfl (Or.inl rfl)) fR)) (br (br gM))))
  (ag (aC 14 sc_l_net.nd rfl (Or.inl rfl) (EvF.s (jr rfl (by rfl) Y.b_sorted (EvA.w (ab (EvF.s (b8 (ab (aq (hu1 hr) (ac 5 (pv 5)) (aw 12 (pv 12))) (ab (aq (hu1 hr) (ac 5 (pv 5)) (aw 13 (pv 13))) af)))) af)))))
  (ap (fJ (EvS.w (jX 10 abT abS cz dv (pv 10) (ab (aH (ab (aq (hu1 hr) (ac 7 (pv 7)) (aw 11 (pv 11))) (ab (aq (hu1 hr) (ac 14 (pv 14)) (EvS.w ae)) (ab (aq (hu1 hr) (ac 14 (pv 14)) (EvS.w ae)) (ab (au 0 (jq Y) (hr.mono (by decide)) Y.fCost.n.mg Y.fCost.n.kp Y.fCost.b (pv 0) (ab (ac 9 (pv 9)) af)) af))))) af))))))))
  (ap (ay (aH (ab (cR bt bu (by rfl) Y.b_tuple aaL (EvA.w (ab (EvF.s (jr rfl (by rfl) Y.b_sorted (EvA.w (ab (e7 (ac 4 (pv 4)) cD (cC (aw 3 (pv 3)))) af)))) af))) (ab (cR bt bu (by rfl) Y.b_tuple aaL (EvA.w (ab (EvF.s (tf (by rfl) Y.b_sorted (bU (aw 10 (pv 10))))) af))) af))))))))))))))
theorem u6 (Y:Ev K mg):FnOk P w K mg base CX0 3 Y.fNet.f Y.fNet.fd ["_law_state", "_law_most", "_law_ties_most"] (spO ⟨P,w,K,obG K⟩ 3 li):=cA (ug Y) ut
theorem ud:aB ["_law_state", "_law_some"] ["_law_state", "_law_some"] (ar sOf):=⟨rfl,rfl,rfl,by decide +kernel,rfl,by decide +kernel,by decide +kernel⟩
theorem vR (Y:Ev K mg):FnOk P w K mg base CX0 2 Y.fOf.f Y.fOf.fd ["_law_state", "_law_some"] (spO ⟨P,w,K,obG K⟩ 2 (runO 2 jz)) :=
 dz Y.fOf.F ud (by decide) (fun cdv A outer s H E hr=>by
  unfold jz
  exact (ap (ay (aq (hu1 hr) (ac 1 (pv 1)) (EvS.w (au 0 (aF Y) (hr.mono (by decide)) Y.fNext.n.mg Y.fNext.n.kp Y.fNext.b (pv 0) (ab (bi bn bp (by rfl) Y.b_len aaW (bU (aw 1 (pv 1)))) af)))))))
theorem gQ (Y:Ev K mg):FnOk P w K mg base CX0 2 Y.fOf.f Y.fOf.fd ["_law_state", "_law_some"] (spO ⟨P,w,K,obG K⟩ 2 eG):=cA (vR Y) wo
theorem m6:(["_law_word", "_law_taken"]:List Str).Nodup:=by decide +kernel
theorem pF:aB ["_law_state", "_law_taken"] ["_law_state", "_law_taken"] (ar sFresh):=⟨rfl,rfl,rfl,by decide +kernel,rfl,by decide +kernel,by decide +kernel⟩
theorem qw (Y:Ev K mg):FnOk P w K mg base CX0 3 Y.fFresh.f Y.fFresh.fd ["_law_state", "_law_taken"] (spO ⟨P,w,K,obG K⟩ 2 (runO 2 eN)) :=
 dz Y.fFresh.F pF (by decide) (fun cdv A outer s H E hr=>by
  unfold eN
  exact (ap (ay (aq (hu1 hr) (EvF.s (cb (N:=["_law_word", "_law_taken"]) (T:=(.nm 0)) (js:=[none,some 1]) (aY (au 0 (eZ Y) (hr.mono (by decide)) Y.fWords.n.mg Y.fWords.n.kp Y.fWords.b (pv 0) (ab ae af))) (fun _ _ _ _ _=>aM (i:=0) m6 rfl (Or.inl rfl)) (fun _ _ _ _ _=>cV (av (cy (hu62 hr)) cx (ac 0 (pv 0)) (aw 1 (pv 1)) (by first | exact nomark _ | rfl))) (fun _ _ _ _ _=>(ac 0 (pv 0))))) (EvS.w ae)))))
theorem lF (Y:Ev K mg):FnOk P w K mg base CX0 3 Y.fFresh.f Y.fFresh.fd ["_law_state", "_law_taken"] (spO ⟨P,w,K,obG K⟩ 2 fg):=cA (qw Y) qG
theorem kH:(["_law_word", "_law_pool"]:List Str).Nodup:=by decide +kernel
theorem kG:(["_law_tie"]:List Str).Nodup:=by decide +kernel
theorem sc_l_new_tie:aB ["_law_state", "_law_net_here", "_law_far", "_law_pool", "_law_at", "_law_other", "_law_name"] ["_law_state", "_law_net_here", "_law_far"] (ar j8):=⟨rfl,rfl,rfl,by decide +kernel,rfl,by decide +kernel,by decide +kernel⟩
theorem nV (Y:Ev K mg):FnOk P w K mg base CX0 4 Y.fNewTie.f Y.fNewTie.fd ["_law_state", "_law_net_here", "_law_far"] (spO ⟨P,w,K,obG K⟩ 3 (runO 7 dn)) :=
 dz Y.fNewTie.F sc_l_new_tie (by decide) (fun cdv A outer s H E hr=>by
  unfold dn
  exact (ag (aC 3 sc_l_new_tie.nd rfl (Or.inr rfl) (aL (EvF.s (wZ vm vp (by rfl) Y.b_list PyProof.Rows.boot_list (EvA.w (ab (aq (hu1 hr) (ac 1 (pv 1)) (EvS.w ae)) af)))) (aw 2 (pv 2))))
  (ag (aK (dh (e9 (av jJ gJ (bi bn bp (by rfl) Y.b_len aaW (bU (aw 3 (pv 3)))) (EvS.w ae) (by first | exact nomark _ | rfl)) (gS (av (aO (hu60 hr)) aN (au 0 (aF Y) (hr.mono (by decide)) Y.fNext.n.mg Y.fNext.n.kp Y.fNext.b (pv 0) (ab ae af)) (EvS.w ae) (by first | exact nomark _ | rfl))))) (ap (aC 3 sc_l_new_tie.nd rfl (Or.inr rfl) (aL (ac 3 (pv 3)) (EvS.w (e7 (EvF.s (cb (N:=["_law_word", "_law_pool"]) (T:=(.nm 0)) (js:=[none,some 3]) (aY (au 0 (eZ Y) (hr.mono (by decide)) Y.fWords.n.mg Y.fWords.n.kp Y.fWords.b (pv 0) (ab ae af))) (fun _ _ _ _ _=>aM (i:=0) kH rfl (Or.inl rfl)) (fun _ _ _ _ _=>cV (av (cy (hu62 hr)) cx (ac 0 (pv 0)) (aw 1 (pv 1)) (by first | exact nomark _ | rfl))) (fun _ _ _ _ _=>(ac 0 (pv 0))))) cD (cC (EvS.w ae))))))) aE)
  (ag (aC 4 sc_l_new_tie.nd rfl (Or.inl rfl) (au 0 (aF Y) (hr.mono (by decide)) Y.fNext.n.mg Y.fNext.n.kp Y.fNext.b (pv 0) (ab (bi bn bp (by rfl) Y.b_len aaW (bU (aw 3 (pv 3)))) af)))
  (ag (aC 5 sc_l_new_tie.nd rfl (Or.inl rfl) (aq (hu1 hr) (ac 3 (pv 3)) (EvS.w (eu (aL (aL (ac 4 (pv 4)) (EvS.w ae)) (EvS.w (au 0 (aF Y) (hr.mono (by decide)) Y.fNext.n.mg Y.fNext.n.kp Y.fNext.b (pv 0) (ab (cQ (bi bn bp (by rfl) Y.b_len aaW (bU (aw 3 (pv 3)))) (EvS.w ae)) af)))) (EvS.w (bi bn bp (by rfl) Y.b_len aaW (bU (aw 3 (pv 3)))))))))
  (ag (aC 6 sc_l_new_tie.nd rfl (Or.inl rfl) (au 0 (lF Y) (hr.mono (by decide)) Y.fFresh.n.mg Y.fFresh.n.kp Y.fFresh.b (pv 0) (ab (EvF.s (cb (N:=["_law_tie"]) (T:=(.nm 0)) (js:=[none]) (aY (aq (hu1 hr) (ac 1 (pv 1)) (EvS.w ae))) (fun _ _ _ _ _=>aM (i:=0) kG rfl (Or.inl rfl)) (fun _ _ _ _ _=>ci) (fun _ _ _ _ _=>(aq (hu1 hr) (ac 0 (pv 0)) (EvS.w ae))))) af)))
  (ap (ay (aH (ab aQ (ab (ac 6 (pv 6)) (ab (aq (hu1 hr) (ac 3 (pv 3)) (aw 4 (pv 4))) (ab (ac 5 (pv 5)) (ab (au 0 (jq Y) (hr.mono (by decide)) Y.fCost.n.mg Y.fCost.n.kp Y.fCost.b (pv 0) (ab (au 0 (aF Y) (hr.mono (by decide)) Y.fNext.n.mg Y.fNext.n.kp Y.fNext.b (pv 0) (ab ae af)) af)) af))))))))))))))
theorem ft (Y:Ev K mg):FnOk P w K mg base CX0 4 Y.fNewTie.f Y.fNewTie.fd ["_law_state", "_law_net_here", "_law_far"] (spO ⟨P,w,K,obG K⟩ 3 cj):=cA (nV Y) n5
theorem og:(["_law_tie"]:List Str).Nodup:=by decide +kernel
theorem oe:(["_law_tie"]:List Str).Nodup:=by decide +kernel
theorem n9:(["_law_tie"]:List Str).Nodup:=by decide +kernel
theorem n8:(["_law_place", "_law_net_here"]:List Str).Nodup:=by decide +kernel
theorem sc_l_deed:aB ["_law_state", "_law_net_here", "_law_names", "_law_ends_here", "_law_far", "_law_which"] ["_law_state", "_law_net_here"] (ar sDeed):=⟨rfl,rfl,rfl,by decide +kernel,rfl,by decide +kernel,by decide +kernel⟩
theorem se (Y:Ev K mg):FnOk P w K mg base CX0 5 Y.fDeed.f Y.fDeed.fd ["_law_state", "_law_net_here"] (spO ⟨P,w,K,obG K⟩ 2 (runO 6 fU)) :=
 dz Y.fDeed.F sc_l_deed (by decide) (fun cdv A outer s H E hr=>by
  unfold fU
  exact (ag (rj 2 (N:=["_law_tie"]) (T:=(.nm 0)) (js:=[none]) sc_l_deed.nd rfl rfl (aY (aq (hu1 hr) (ac 1 (pv 1)) (EvS.w ae))) (fun _ _ _ _ _=>aM (i:=0) og rfl (Or.inl rfl)) (fun _ _ _ _ _=>ci) (fun _ _ _ _ _=>(aq (hu1 hr) (ac 0 (pv 0)) (EvS.w ae))))
  (ag (aC 3 sc_l_deed.nd rfl (Or.inl rfl) (EvF.s (pO rfl (by rfl) Y.b_sorted (by rfl) Y.b_set (EvA.w (ab (aL (EvF.s (cb (N:=["_law_tie"]) (T:=(.nm 0)) (js:=[none]) (aY (aq (hu1 hr) (ac 1 (pv 1)) (EvS.w ae))) (fun _ _ _ _ _=>aM (i:=0) oe rfl (Or.inl rfl)) (fun _ _ _ _ _=>ci) (fun _ _ _ _ _=>(aq (hu1 hr) (ac 0 (pv 0)) (EvS.w ae))))) (EvS.w (EvF.s (cb (N:=["_law_tie"]) (T:=(.nm 0)) (js:=[none]) (aY (aq (hu1 hr) (ac 1 (pv 1)) (EvS.w ae))) (fun _ _ _ _ _=>aM (i:=0) n9 rfl (Or.inl rfl)) (fun _ _ _ _ _=>ci) (fun _ _ _ _ _=>(aq (hu1 hr) (ac 0 (pv 0)) (EvS.w ae))))))) af)))))
  (ag (rj 4 (N:=["_law_place", "_law_net_here"]) (T:=(.nm 0)) (js:=[none,some 1]) sc_l_deed.nd rfl rfl (aY (ac 3 (pv 3))) (fun _ _ _ _ _=>aM (i:=0) n8 rfl (Or.inl rfl)) (fun _ _ _ _ _=>cV (av (cy (hu62 hr)) cx (ac 0 (pv 0)) (EvS.w (aq (hu1 hr) (ac 1 (pv 1)) (EvS.w ae))) (by first | exact nomark _ | rfl))) (fun _ _ _ _ _=>(ac 0 (pv 0))))
  (ag (aC 5 sc_l_deed.nd rfl (Or.inl rfl) (au 0 (aF Y) (hr.mono (by decide)) Y.fNext.n.mg Y.fNext.n.kp Y.fNext.b (pv 0) (ab ae af)))
  (ag (aK (dh (cU (av (aO (hu60 hr)) aN (ac 5 (pv 5)) (EvS.w ae) (by first | exact nomark _ | rfl)) (cB (av jJ gJ (bi bn bp (by rfl) Y.b_len aaW (EvA.w (ab (aq (hu1 hr) (ac 1 (pv 1)) (EvS.w ae)) af))) (EvS.w ae) (by first | exact nomark _ | rfl))))) (ag (aK (dh (cU (av (dJ (hu0 hr)) cM (ac 4 (pv 4)) (EvS.w (EvF.s (b8 af))) (by first | exact nomark _ | rfl)) (cB (av mq jL (au 0 (aF Y) (hr.mono (by decide)) Y.fNext.n.mg Y.fNext.n.kp Y.fNext.b (pv 0) (ab ae af)) (EvS.w ae) (by first | exact nomark _ | rfl))))) (ap (ay (aH (ab aQ (ab (au 0 (gQ Y) (hr.mono (by decide)) Y.fOf.n.mg Y.fOf.n.kp Y.fOf.b (pv 0) (ab (ac 4 (pv 4)) af)) af))))) aE)
  (ap (ay (aH (ab aQ (ab (au 0 (lF Y) (hr.mono (by decide)) Y.fFresh.n.mg Y.fFresh.n.kp Y.fFresh.b (pv 0) (ab (aq (hu1 hr) (ac 1 (pv 1)) (EvS.w ae)) af)) af)))))) aE)
  (ag (aK (dh (cU (av (aO (hu60 hr)) aN (ac 5 (pv 5)) (EvS.w ae) (by first | exact nomark _ | rfl)) (cB (av (mV (hu60 hr)) ky (aq (hu1 hr) (ac 1 (pv 1)) (EvS.w ae)) (EvS.w (aH af)) (by first | exact nomark _ | rfl))))) (ap (ay (aH (ab aQ (ab (au 0 (gQ Y) (hr.mono (by decide)) Y.fOf.n.mg Y.fOf.n.kp Y.fOf.b (pv 0) (ab (aq (hu1 hr) (ac 1 (pv 1)) (EvS.w ae)) af)) af))))) aE)
  (ag (aK (dh (cU (av (aO (hu60 hr)) aN (ac 5 (pv 5)) (EvS.w ae) (by first | exact nomark _ | rfl)) (cB (av (dJ (hu0 hr)) cM (ac 2 (pv 2)) (EvS.w (EvF.s (b8 af))) (by first | exact nomark _ | rfl))))) (ap (ay (aH (ab aQ (ab (au 0 (gQ Y) (hr.mono (by decide)) Y.fOf.n.mg Y.fOf.n.kp Y.fOf.b (pv 0) (ab (ac 2 (pv 2)) af)) af))))) aE)
  (ag (aK (dh (cU (av (fE (hu62 hr)) fD (ac 5 (pv 5)) (EvS.w (aH (ab ae (ab ae af)))) (by first | exact nomark _ | rfl)) (cB (av (dJ (hu0 hr)) cM (ac 2 (pv 2)) (EvS.w (EvF.s (b8 af))) (by first | exact nomark _ | rfl))))) (ap (ay (aH (ab aQ (ab (au 0 (gQ Y) (hr.mono (by decide)) Y.fOf.n.mg Y.fOf.n.kp Y.fOf.b (pv 0) (ab (ac 2 (pv 2)) af)) (ab (au 0 (jq Y) (hr.mono (by decide)) Y.fCost.n.mg Y.fCost.n.kp Y.fCost.b (pv 0) (ab (au 0 (aF Y) (hr.mono (by decide)) Y.fNext.n.mg Y.fNext.n.kp Y.fNext.b (pv 0) (ab ae af)) af)) af)))))) aE)
  (ag (aK (av jJ gJ (bi bn bp (by rfl) Y.b_len aaW (bU (aw 2 (pv 2)))) (EvS.w ae) (by first | exact nomark _ | rfl)) (ap (ay (au 0 (ft Y) (hr.mono (by decide)) Y.fNewTie.n.mg Y.fNewTie.n.kp Y.fNewTie.b (pv 0) (ab (ac 1 (pv 1)) (ab (ac 4 (pv 4)) af))))) aE)
  (ap (ay (aH (ab aQ (ab (au 0 (gQ Y) (hr.mono (by decide)) Y.fOf.n.mg Y.fOf.n.kp Y.fOf.b (pv 0) (ab (ac 2 (pv 2)) af)) af)))))))))))))))
theorem sV (Y:Ev K mg):FnOk P w K mg base CX0 5 Y.fDeed.f Y.fDeed.fd ["_law_state", "_law_net_here"] (spO ⟨P,w,K,obG K⟩ 2 jv):=cA (se Y) sB
theorem gq:(["_law_one", "_law_deed_here"]:List Str).Nodup:=by decide +kernel
theorem sc_l_turned_about:aB ["_law_net_here", "_law_deed_here", "_law_tie"] ["_law_net_here", "_law_deed_here"] (ar dW):=⟨rfl,rfl,rfl,by decide +kernel,rfl,by decide +kernel,by decide +kernel⟩
theorem iY (Y:Ev K mg):FnOk P w K mg base CX0 1 Y.fTurnedAbout.f Y.fTurnedAbout.fd ["_law_net_here", "_law_deed_here"] (spQ ⟨P,w,K,obG K⟩ 2 (run 3 bN)) :=
 bB Y.fTurnedAbout.F sc_l_turned_about (by decide) (fun cdv A outer s H E hr=>by
  unfold bN
  exact (ag (aK (av (aO (hu60 hr)) aN (aq (hu1 hr) (ac 1 (pv 1)) (EvS.w ae)) (EvS.w aQ) (by first | exact nomark _ | rfl)) (ap (ay (aH (ab aQ (ab (aq (hu1 hr) (ac 1 (pv 1)) (EvS.w ae)) af))))) aE)
  (ag (aK (av (aO (hu60 hr)) aN (aq (hu1 hr) (ac 1 (pv 1)) (EvS.w ae)) (EvS.w aQ) (by first | exact nomark _ | rfl)) (ap (ay (aH (ab aQ (ab (aq (hu1 hr) (ac 1 (pv 1)) (EvS.w ae)) af))))) aE)
  (ag (aK (av (aO (hu60 hr)) aN (aq (hu1 hr) (ac 1 (pv 1)) (EvS.w ae)) (EvS.w aQ) (by first | exact nomark _ | rfl)) (ap (ay (aH (ab aQ (ab (aq (hu1 hr) (ac 1 (pv 1)) (EvS.w ae)) af))))) aE)
  (ag (aC 2 sc_l_turned_about.nd rfl (Or.inl rfl) (aq (hu1 hr) (EvF.s (cb (N:=["_law_one", "_law_deed_here"]) (T:=(.nm 0)) (js:=[none,some 1]) (aY (aq (hu1 hr) (ac 0 (pv 0)) (EvS.w ae))) (fun _ _ _ _ _=>aM (i:=0) gq rfl (Or.inl rfl)) (fun _ _ _ _ _=>cV (av (aO (hu60 hr)) aN (aq (hu1 hr) (ac 0 (pv 0)) (EvS.w ae)) (EvS.w (aq (hu1 hr) (ac 1 (pv 1)) (EvS.w ae))) (by first | exact nomark _ | rfl))) (fun _ _ _ _ _=>(ac 0 (pv 0))))) (EvS.w ae)))
  (ag (aK (av (aO (hu60 hr)) aN (aq (hu1 hr) (ac 1 (pv 1)) (EvS.w ae)) (EvS.w aQ) (by first | exact nomark _ | rfl)) (ap (ay (aH (ab aQ (ab (aq (hu1 hr) (ac 2 (pv 2)) (EvS.w ae)) (ab (aq (hu1 hr) (ac 2 (pv 2)) (EvS.w ae)) (ab (aq (hu1 hr) (ac 2 (pv 2)) (EvS.w ae)) (ab (aq (hu1 hr) (ac 2 (pv 2)) (EvS.w ae)) af)))))))) aE)
  (ap (ay (aH (ab aQ (ab (aq (hu1 hr) (ac 2 (pv 2)) (EvS.w ae)) (ab (aq (hu1 hr) (ac 2 (pv 2)) (EvS.w ae)) af))))))))))))
theorem jo (Y:Ev K mg):FnOk P w K mg base CX0 1 Y.fTurnedAbout.f Y.fTurnedAbout.fd ["_law_net_here", "_law_deed_here"] (spQ ⟨P,w,K,obG K⟩ 2 cv):=bg (iY Y) jb
theorem sc_l_either_order:aB ["_law_state", "_law_net_here", "_law_first", "_law_second", "_law_one", "_law_other", "#t"] ["_law_state", "_law_net_here"] (ar dY):=⟨rfl,rfl,rfl,by decide +kernel,rfl,by decide +kernel,by decide +kernel⟩
theorem iZ (Y:Ev K mg) (hB:BMain mg base):FnOk P w K mg base CX0 5 Y.fEitherOrder.f Y.fEitherOrder.fd ["_law_state", "_law_net_here"] (spOT ⟨P,w,K,obG K⟩ 2 (runOT 6 (bO Y.fCheaperFirst_T))) :=
 u8 (nm := "#t") Y.fEitherOrder.F sc_l_either_order rfl (by decide) rfl (by unfold Vis; decide +kernel) (fun cdv hcdv A outer s H E hr=>by
  unfold bO
  exact (ag (aK (av mq jL (bi bn bp (by rfl) Y.b_len aaW (EvA.w (ab (aq (hu1 hr) (ac 1 (pv 1)) (EvS.w ae)) af))) (EvS.w ae) (by first | exact nomark _ | rfl)) (ap (ay e8)) aE)
  (ag (aC 2 sc_l_either_order.nd rfl (Or.inl rfl) (au 0 (ft Y) (hr.mono (by decide)) Y.fNewTie.n.mg Y.fNewTie.n.kp Y.fNewTie.b (pv 0) (ab (ac 1 (pv 1)) (ab (EvF.s (b8 af)) af))))
  (ag (aC 3 sc_l_either_order.nd rfl (Or.inl rfl) (au 0 (ft Y) (hr.mono (by decide)) Y.fNewTie.n.mg Y.fNewTie.n.kp Y.fNewTie.b (pv 0) (ab (aJ (bf Y) (hr.mono (by decide)) Y.fChanged.n.mg Y.fChanged.n.kp Y.fChanged.b (ab (ac 1 (pv 1)) (ab (ac 2 (pv 2)) af))) (ab (EvF.s (b8 af)) af))))
  (ag (aC 4 sc_l_either_order.nd rfl (Or.inl rfl) (aJ (bf Y) (hr.mono (by decide)) Y.fChanged.n.mg Y.fChanged.n.kp Y.fChanged.b (ab (aJ (bf Y) (hr.mono (by decide)) Y.fChanged.n.mg Y.fChanged.n.kp Y.fChanged.b (ab (ac 1 (pv 1)) (ab (ac 2 (pv 2)) af))) (ab (ac 3 (pv 3)) af))))
  (ag (aC 5 sc_l_either_order.nd rfl (Or.inl rfl) (aJ (bf Y) (hr.mono (by decide)) Y.fChanged.n.mg Y.fChanged.n.kp Y.fChanged.b (ab (aJ (bf Y) (hr.mono (by decide)) Y.fChanged.n.mg Y.fChanged.n.kp Y.fChanged.b (ab (ac 1 (pv 1)) (ab (ac 3 (pv 3)) af))) (ab (ac 2 (pv 2)) af))))
  (ap (ay (fQ (dA (aO (hu60 hr)) aN (ac 4 (pv 4)) (aw 5 (pv 5)) (by first | exact nomark _ | rfl)) (fL (dA (aO (hu60 hr)) aN (cu 6 (cP Y hB) (hr.mono (by decide)) Y.fCheapest.n.mg Y.fCheapest.n.kp Y.fCheapest.b (ab (ac 4 (pv 4)) af)) (EvS.w (cu 6 (cP Y hB) (hr.mono (by decide)) Y.fCheapest.n.mg Y.fCheapest.n.kp Y.fCheapest.b (ab (ac 5 (pv 5)) af))) (by first | exact nomark _ | rfl))))))))))))
theorem jp (Y:Ev K mg) (hB:BMain mg base):FnOk P w K mg base CX0 5 Y.fEitherOrder.f Y.fEitherOrder.fd ["_law_state", "_law_net_here"] (spOT ⟨P,w,K,obG K⟩ 2 (cw Y.fCheaperFirst_T)):=sX (iZ Y hB) (jc _)
theorem sc_l_law:aB ["_law_script", "_law_state", "_law_turn", "_law_net_here", "_law_past", "_law_step", "_law_deed_here", "_law_former", "_law_told", "_law_back", "#t"] ["_law_script"] (ar sLaw):=⟨rfl,rfl,rfl,by decide +kernel,rfl,by decide +kernel,by decide +kernel⟩
theorem uh (Y:Ev K mg) (hB:BMain mg base):FnOk P w K mg base CX0 6 Y.fLaw.f Y.fLaw.fd ["_law_script"] (spT ⟨P,w,K,obG K⟩ 1 (runT 10 (g8 Y.fCheaperFirst_T))) :=
 jV (nm := "#t") Y.fLaw.F sc_l_law rfl (by decide) rfl (by unfold Vis; decide +kernel) (fun cdv hcdv A outer s H E hr=>by
  unfold g8
  exact (ag (rl 1 0 sc_l_law.nd rfl (Or.inl rfl) (rg Y) (hr.mono (by decide)) Y.fBegin.n.mg Y.fBegin.n.kp Y.fBegin.b (pv 0))
  (ag (fI abU rfl (fe (by rfl) Y.b_range (ab (aL ae (EvS.w (bi bn bp (by rfl) Y.b_len aaW (EvA.w (ab (e7 (ac 0 (pv 0)) cD (cC (EvS.w ae))) af))))) af)) (aU 2 sc_l_law.nd rfl (Or.inl rfl)) (ag (aC 3 sc_l_law.nd rfl (Or.inl rfl) (au 1 (u6 Y) (hr.mono (by decide)) Y.fNet.n.mg Y.fNet.n.kp Y.fNet.b (pv 1) (ab ae (ab ae af))))
  (ag (ij 4 sc_l_law.nd rfl (Or.inl rfl) (b8 af))
  (ag (fI abU rfl (fe (by rfl) Y.b_range (ab (au 1 (aF Y) (hr.mono (by decide)) Y.fNext.n.mg Y.fNext.n.kp Y.fNext.b (pv 1) (ab ae af)) af)) (aU 5 sc_l_law.nd rfl (Or.inl rfl)) (ag (aC 6 sc_l_law.nd rfl (Or.inl rfl) (au 1 (sV Y) (hr.mono (by decide)) Y.fDeed.n.mg Y.fDeed.n.kp Y.fDeed.b (pv 1) (ab (ac 3 (pv 3)) af)))
  (ag (fJ (EvS.w (jX 4 abT abS cz dv (pv 4) (ab (aH (ab (ac 3 (pv 3)) (ab (ac 6 (pv 6)) (ab (cu 10 (gP Y hB) (hr.mono (by decide)) Y.fExchange.n.mg Y.fExchange.n.kp Y.fExchange.b (ab (ac 3 (pv 3)) (ab (ac 6 (pv 6)) af))) af)))) af))))
  (ap (aC 3 sc_l_law.nd rfl (Or.inl rfl) (aJ (bf Y) (hr.mono (by decide)) Y.fChanged.n.mg Y.fChanged.n.kp Y.fChanged.b (ab (ac 3 (pv 3)) (ab (ac 6 (pv 6)) af))))))))
  (ag (aK (cT (cS (EvS.w (rq 1 10 (jp Y hB) (hr.mono (by decide)) Y.fEitherOrder.n.mg Y.fEitherOrder.n.kp Y.fEitherOrder.b (pv 1) (ab (ac 3 (pv 3)) af))))) (ap (ay e8)) aE)
  (ag (fI abU rfl (aY (vc (ac 4 (pv 4)) tK)) (gU (n:=3) rfl (bc (aU 7 sc_l_law.nd rfl (Or.inl rfl)) (bc (aU 6 sc_l_law.nd rfl (Or.inl rfl)) (bc (aU 8 sc_l_law.nd rfl (Or.inl rfl)) fR))) (br (br (br gM)))) (ag (aC 9 sc_l_law.nd rfl (Or.inl rfl) (aJ (jo Y) (hr.mono (by decide)) Y.fTurnedAbout.n.mg Y.fTurnedAbout.n.kp Y.fTurnedAbout.b (ab (ac 7 (pv 7)) (ab (ac 6 (pv 6)) af))))
  (ag (aK (dh (e9 (av (mV (hu60 hr)) ky (cu 10 (gP Y hB) (hr.mono (by decide)) Y.fExchange.n.mg Y.fExchange.n.kp Y.fExchange.b (ab (ac 3 (pv 3)) (ab (ac 9 (pv 9)) af))) (EvS.w (wX (ac 8 (pv 8)) tK)) (by first | exact nomark _ | rfl)) (gS (av (mV (hu60 hr)) ky (aJ (bf Y) (hr.mono (by decide)) Y.fChanged.n.mg Y.fChanged.n.kp Y.fChanged.b (ab (ac 3 (pv 3)) (ab (ac 9 (pv 9)) af))) (aw 7 (pv 7)) (by first | exact nomark _ | rfl))))) (ap (ay e8)) aE)
  (ap (aC 3 sc_l_law.nd rfl (Or.inl rfl) (ac 7 (pv 7)))))))
  (ap (aK (dh (cU (av mq jL (bi bn bp (by rfl) Y.b_len aaW (bU (aw 4 (pv 4)))) (EvS.w ae) (by first | exact nomark _ | rfl)) (cU (av (aO (hu60 hr)) aN (aJ (bf Y) (hr.mono (by decide)) Y.fChanged.n.mg Y.fChanged.n.kp Y.fChanged.b (ab (aq (hu1 hr) (fN 4 (hu1 hr) (pv 4) (EvS.w ae)) (EvS.w ae)) (ab (aq (hu1 hr) (fN 4 (hu1 hr) (pv 4) (EvS.w ae)) (EvS.w ae)) af))) (EvS.w (aq (hu1 hr) (fN 4 (hu1 hr) (pv 4) (EvS.w ae)) (EvS.w ae))) (by first | exact nomark _ | rfl)) (cB (av (dJ (hu0 hr)) cM (aq (hu1 hr) (aq (hu1 hr) (fN 4 (hu1 hr) (pv 4) (EvS.w ae)) (EvS.w ae)) (EvS.w ae)) (EvS.w aQ) (by first | exact nomark _ | rfl)))))) (ap (ay e8)) aE))))))))
  (ap (ay e8)))))
theorem wy (Y:Ev K mg) (hB:BMain mg base):FnOk P w K mg base CX0 6 Y.fLaw.f Y.fLaw.fd ["_law_script"] (spLawT K Y.fCheaperFirst_T):=uW (uh Y hB) (uw _)
end
end Pre
namespace Pre
open PySem L2
structure DfIn (K:aad) (x:Str) (st:Stmt) where
 {f:Addr}
 {od an:Option Addr}
 {sl:Array (Option Value)}
 {oc kV dc pm cd ct:Value}
 a:abe K aaD x=some (some (.ref f))
 l:K.lookup f=some ⟨oc,od,.func (acy x x (dQ st) (bz st) (ar st) .none kV dc pm an cd ct),sl⟩
 c:ad1 K cd x=true
 k:abv K (.ref f)=true
noncomputable def mkDf {K:aad} {h:Heap} {mg:Str->Option Value} (X:K.In h) (G:h.Ns aaD mg) {x:Str} {st:Stmt} {ps:List Str} (d:DfIn K x st)
  (hb:∀ (kV doc pm:Value) (an:Option Addr) (cdv ct:Value) (us:List Value),us.length=ps.length->acL (acy x x (dQ st) (bz st) (ar st) .none kV doc pm an cdv ct) ⟨us,[]⟩=pure (ps.zip us)):Df K mg x st ps :=
 ⟨d.f,_,rh d.l d.c d.k,(rh d.l d.c d.k).binds hb,aej X G d.a,d.k⟩
structure TbIn (K:aad) (x:Str) (D:List (Str×Addr)) where
 {a:Addr}
 {es:Array DictEntry}
 {ep:Nat}
 n:abe K aaD x=some (some (.ref a))
 l:K.lookup a=some ⟨.type "dict",none,.dict es ep,#[]⟩
 ne:(a==ach)=false
 r:PyProof.Rows.KTD.Rows (fun (f:Addr) v=>v=aaH f) es.toList D
noncomputable def mkTb {K:aad} {h:Heap} {mg:Str->Option Value} (X:K.In h) (G:h.Ns aaD mg) {x:Str} {D:List (Str×Addr)} (d:TbIn K x D):TabAt K mg x D :=
 ⟨d.a,aej X G d.n,fun _ X'=>⟨d.ne,_,d.es,d.ep,X' _ _ d.l,⟨rfl,rfl,rfl⟩,rfl,d.r⟩⟩
theorem ba1 {fd:aaT} {ps:List Str} (us:List Value) (h:us.length=1) (k:∀ a0,acL fd ⟨[a0],[]⟩=pure (ps.zip [a0])):acL fd ⟨us,[]⟩=pure (ps.zip us):=by obtain ⟨a0,u0,rfl⟩:=aaz (h); obtain rfl:=List.length_eq_zero_iff.mp (aaU (h)); exact k a0
theorem ba2 {fd:aaT} {ps:List Str} (us:List Value) (h:us.length=2) (k:∀ a0 a1,acL fd ⟨[a0,a1],[]⟩=pure (ps.zip [a0,a1])):acL fd ⟨us,[]⟩=pure (ps.zip us):=by obtain ⟨a0,u0,rfl⟩:=aaz (h); obtain ⟨a1,u1,rfl⟩:=aaz (aaU (h)); obtain rfl:=List.length_eq_zero_iff.mp (aaU (aaU (h))); exact k a0 a1
theorem ba3 {fd:aaT} {ps:List Str} (us:List Value) (h:us.length=3) (k:∀ a0 a1 a2,acL fd ⟨[a0,a1,a2],[]⟩=pure (ps.zip [a0,a1,a2])):acL fd ⟨us,[]⟩=pure (ps.zip us):=by obtain ⟨a0,u0,rfl⟩:=aaz (h); obtain ⟨a1,u1,rfl⟩:=aaz (aaU (h)); obtain ⟨a2,u2,rfl⟩:=aaz (aaU (aaU (h))); obtain rfl:=List.length_eq_zero_iff.mp (aaU (aaU (aaU (h)))); exact k a0 a1 a2
theorem ba4 {fd:aaT} {ps:List Str} (us:List Value) (h:us.length=4) (k:∀ a0 a1 a2 a3,acL fd ⟨[a0,a1,a2,a3],[]⟩=pure (ps.zip [a0,a1,a2,a3])):acL fd ⟨us,[]⟩=pure (ps.zip us):=by obtain ⟨a0,u0,rfl⟩:=aaz (h); obtain ⟨a1,u1,rfl⟩:=aaz (aaU (h)); obtain ⟨a2,u2,rfl⟩:=aaz (aaU (aaU (h))); obtain ⟨a3,u3,rfl⟩:=aaz (aaU (aaU (aaU (h)))); obtain rfl:=List.length_eq_zero_iff.mp (aaU (aaU (aaU (aaU (h))))); exact k a0 a1 a2 a3
theorem xm {l:ae4} {w:World} {K:aad} {h:Heap} {mg:Str->Option Value} {fa c T:Addr} {tq1:Tok} (X:K.In h) (G:h.Ns aaD mg) (hfa:mg "law" = some (.ref fa))
  (d1:DfIn K "is_word" j9) (d2:DfIn K "is_whole" iR) (d3:DfIn K "is_open" kf) (d4:DfIn K "ties_by_name" fm) (d5:DfIn K "open_ties" gz) (d6:DfIn K "ranks" sRanks) (d7:DfIn K "are_ends_and_cost" cL) (d8:DfIn K "is_deed" kh) (d9:DfIn K "place_comes" fo) (d10:DfIn K "place_leaves" dX) (d11:DfIn K "tie_comes" gy) (d12:DfIn K "tie_goes" iQ) (d13:DfIn K "tie_costs" gx) (d14:DfIn K "changed" iT) (d15:DfIn K "cheaper_first" dF) (d16:DfIn K "without_round" dE) (d17:DfIn K "cheapest" gB) (d18:DfIn K "between" iU) (d19:DfIn K "exchange" gA) (d20:DfIn K "_law_begin" sBegin) (d21:DfIn K "_law_next" sNext) (d22:DfIn K "_law_words" sWords) (d23:DfIn K "_law_cost" sCost) (d24:DfIn K "_law_ends" sEnds) (d25:DfIn K "_law_net" sNet) (d26:DfIn K "_law_of" sOf) (d27:DfIn K "_law_fresh" sFresh) (d28:DfIn K "_law_new_tie" j8) (d29:DfIn K "_law_deed" sDeed) (d30:DfIn K "_law_turned_about" dW) (d31:DfIn K "_law_either_order" dY) (d32:DfIn K "law" sLaw) (t1:TbIn K "DEEDS" [("place",d9.f),("leave",d10.f),("tie",d11.f),("untie",d12.f),("cost",d13.f)]) (hcd:d15.cd=.ref c) (hC:abG K c T=true)
  (z1:abe K aaD "ValueError" = some none) (z2:abe K aaD "abs" = some none) (z3:abe K aaD "all" = some none) (z4:abe K aaD "bool" = some none) (z5:abe K aaD "int" = some none) (z6:abe K aaD "isinstance" = some none) (z7:abe K aaD "len" = some none) (z8:abe K aaD "list" = some none) (z9:abe K aaD "max" = some none) (z10:abe K aaD "min" = some none) (z11:abe K aaD "range" = some none) (z12:abe K aaD "set" = some none) (z13:abe K aaD "sorted" = some none) (z14:abe K aaD "str" = some none) (z15:abe K aaD "tuple" = some none) (q1:abe K aaD "LONGEST_WORD" = some (some (.int 8 tq1))) :
  ∃ fd:aaT,(∀ (s:Shared) (v:Value),BindsTo s fd ⟨[v],[]⟩ [("_law_script",v)])/\(∃ c,abG K c T=true)/\∀ base:Heap,K.In base->base.Ns aaD mg->BMain mg base->FnOk l.prog w K mg base CX0 6 fa fd ["_law_script"] (Q.spLawT K T):=by
 obtain ⟨V,_,v,vT⟩:∃ V:Ev K mg,∃ hb,V.fLaw=mkDf X G d32 hb/\V.fCheaperFirst_T=T:=⟨{ fIsWord:=mkDf X G d1 (fun _ _ _ _ _ _ us hl=>ba1 us hl fun _=>rfl),fIsWhole:=mkDf X G d2 (fun _ _ _ _ _ _ us hl=>ba1 us hl fun _=>rfl),fIsOpen:=mkDf X G d3 (fun _ _ _ _ _ _ us hl=>ba2 us hl fun _ _=>rfl),fTiesByName:=mkDf X G d4 (fun _ _ _ _ _ _ us hl=>ba1 us hl fun _=>rfl),fOpenTies:=mkDf X G d5 (fun _ _ _ _ _ _ us hl=>ba1 us hl fun _=>rfl),fRanks:=mkDf X G d6 (fun _ _ _ _ _ _ us hl=>ba1 us hl fun _=>rfl),fAreEndsAndCost:=mkDf X G d7 (fun _ _ _ _ _ _ us hl=>ba1 us hl fun _=>rfl),fIsDeed:=mkDf X G d8 (fun _ _ _ _ _ _ us hl=>ba1 us hl fun _=>rfl),fPlaceComes:=mkDf X G d9 (fun _ _ _ _ _ _ us hl=>ba2 us hl fun _ _=>rfl),fPlaceLeaves:=mkDf X G d10 (fun _ _ _ _ _ _ us hl=>ba2 us hl fun _ _=>rfl),fTieComes:=mkDf X G d11 (fun _ _ _ _ _ _ us hl=>ba2 us hl fun _ _=>rfl),fTieGoes:=mkDf X G d12 (fun _ _ _ _ _ _ us hl=>ba2 us hl fun _ _=>rfl),fTieCosts:=mkDf X G d13 (fun _ _ _ _ _ _ us hl=>ba2 us hl fun _ _=>rfl),fChanged:=mkDf X G d14 (fun _ _ _ _ _ _ us hl=>ba2 us hl fun _ _=>rfl),fCheaperFirst:=mkDf X G d15 (fun _ _ _ _ _ _ us hl=>ba2 us hl fun _ _=>rfl),fWithoutRound:=mkDf X G d16 (fun _ _ _ _ _ _ us hl=>ba2 us hl fun _ _=>rfl),fCheapest:=mkDf X G d17 (fun _ _ _ _ _ _ us hl=>ba1 us hl fun _=>rfl),fBetween:=mkDf X G d18 (fun _ _ _ _ _ _ us hl=>ba2 us hl fun _ _=>rfl),fExchange:=mkDf X G d19 (fun _ _ _ _ _ _ us hl=>ba2 us hl fun _ _=>rfl),fBegin:=mkDf X G d20 (fun _ _ _ _ _ _ us hl=>ba1 us hl fun _=>rfl),fNext:=mkDf X G d21 (fun _ _ _ _ _ _ us hl=>ba2 us hl fun _ _=>rfl),fWords:=mkDf X G d22 (fun _ _ _ _ _ _ us hl=>ba2 us hl fun _ _=>rfl),fCost:=mkDf X G d23 (fun _ _ _ _ _ _ us hl=>ba2 us hl fun _ _=>rfl),fEnds:=mkDf X G d24 (fun _ _ _ _ _ _ us hl=>ba4 us hl fun _ _ _ _=>rfl),fNet:=mkDf X G d25 (fun _ _ _ _ _ _ us hl=>ba3 us hl fun _ _ _=>rfl),fOf:=mkDf X G d26 (fun _ _ _ _ _ _ us hl=>ba2 us hl fun _ _=>rfl),fFresh:=mkDf X G d27 (fun _ _ _ _ _ _ us hl=>ba2 us hl fun _ _=>rfl),fNewTie:=mkDf X G d28 (fun _ _ _ _ _ _ us hl=>ba3 us hl fun _ _ _=>rfl),fDeed:=mkDf X G d29 (fun _ _ _ _ _ _ us hl=>ba2 us hl fun _ _=>rfl),fTurnedAbout:=mkDf X G d30 (fun _ _ _ _ _ _ us hl=>ba2 us hl fun _ _=>rfl),fEitherOrder:=mkDf X G d31 (fun _ _ _ _ _ _ us hl=>ba2 us hl fun _ _=>rfl),fLaw:=mkDf X G d32 (fun _ _ _ _ _ _ us hl=>ba1 us hl fun _=>rfl),b_ValueError:=aaP X G z1,b_abs:=aaP X G z2,b_all:=aaP X G z3,b_bool:=aaP X G z4,b_int:=aaP X G z5,b_isinstance:=aaP X G z6,b_len:=aaP X G z7,b_list:=aaP X G z8,b_max:=aaP X G z9,b_min:=aaP X G z10,b_range:=aaP X G z11,b_set:=aaP X G z12,b_sorted:=aaP X G z13,b_str:=aaP X G z14,b_tuple:=aaP X G z15,c_LONGEST_WORD:=⟨_,aej X G q1⟩,t_DEEDS:=mkTb X G t1,fCheaperFirst_T:=T,fCheaperFirst_t:=⟨c,hcd,hC⟩ },fun _ _ _ _ _ _ us hl=>ba1 us hl fun _=>rfl,rfl,rfl⟩
 have g:=fun base hB=>wy (P:=l.prog) (w:=w) (base:=base) V hB
 rw [v,vT] at g
 have e:=hfa.symm.trans (aej X G d32.a)
 obtain rfl:fa=d32.f:=by injection e with e; injection e
 exact ⟨_,fun s v=>.of_eq rfl,⟨c,hC⟩,fun base _ _=>g base⟩
theorem walk {l:ae4} {q:aaq} {loose:List Str} {XP:(Str->Option Value)->Heap->Prop} {YP:World->Heap->Prop} {d:DefRec} {K:Params->aad} {T:Addr} (hn:l.most=some 63) (hdf:d.params.defaults=[])
  (hY:∀ (w:World) (h:Heap),YP w h->(K w.params).In h/\h.get? T=some (adf #[])) (hKT:∀ w:World,(K w.params).lookup T=none)
  (F:∀ (w:World) (mg:Str->Option Value) (fa:Addr) (h:Heap),(K w.params).In h->h.Ns aaD mg->mg d.name=some (.ref fa) ->
   ∃ fd:aaT,(∀ (s:Shared) (u:Value),BindsTo s fd ⟨[u],[]⟩ [("_law_script",u)])/\(∃ c,abG (K w.params) c T=true)/\∀ base:Heap,(K w.params).In base->base.Ns aaD mg->BMain mg base->FnOk l.prog w (K w.params) mg base CX0 6 fa fd ["_law_script"] (Q.spLawT (K w.params) T)) :
  PySem.W.WalkO q loose XP YP l.row.toRowW d [] (fun f vs=>PySem.call f vs) :=
 L2.rR (n:=63) (k:=6) (x := "_law_script") (sp:=fun w=>Q.spLawT (K w.params) T) hn (by decide) hdf ⟨rfl,by decide,by decide,rfl⟩ hY hKT F fun w H a ns hl hS hT=>⟨a,ns,rfl,hS,hl,hT,fun H' ps e=>⟨rfl,ps,e⟩⟩
end Pre
open PySem PySem.W PyProof.Rows
set_option maxRecDepth 100000 in
set_option maxHeartbeats 0 in
theorem PySem.Challenge.cw_cheaptree_k37_whole_there_and_back_holds : PySem.Challenge.rw_cheaptree_k37_whole_there_and_back.Holds := by
 w_on; o_law; km_head; (case hw=>w_witness2)
 k_fill
 refine Pre.walk (l:=PySem.Challenge.rw_cheaptree_k37_whole_there_and_back) rfl rfl (fun w h Y=>⟨PySem.W.km_in_of Y,PySem.W.km_tabs_of Y _ List.mem_cons_self⟩) ?hKT ?F
 case F =>
  intro w mg fa h KX G hmg
  refine' Pre.xm KX G hmg ⟨?a1,?l1,?c1,?k1⟩ ⟨?a2,?l2,?c2,?k2⟩ ⟨?a3,?l3,?c3,?k3⟩ ⟨?a4,?l4,?c4,?k4⟩ ⟨?a5,?l5,?c5,?k5⟩ ⟨?a6,?l6,?c6,?k6⟩ ⟨?a7,?l7,?c7,?k7⟩ ⟨?a8,?l8,?c8,?k8⟩ ⟨?a9,?l9,?c9,?k9⟩ ⟨?a10,?l10,?c10,?k10⟩ ⟨?a11,?l11,?c11,?k11⟩ ⟨?a12,?l12,?c12,?k12⟩ ⟨?a13,?l13,?c13,?k13⟩ ⟨?a14,?l14,?c14,?k14⟩ ⟨?a15,?l15,?c15,?k15⟩ ⟨?a16,?l16,?c16,?k16⟩ ⟨?a17,?l17,?c17,?k17⟩ ⟨?a18,?l18,?c18,?k18⟩ ⟨?a19,?l19,?c19,?k19⟩ ⟨?a20,?l20,?c20,?k20⟩ ⟨?a21,?l21,?c21,?k21⟩ ⟨?a22,?l22,?c22,?k22⟩ ⟨?a23,?l23,?c23,?k23⟩ ⟨?a24,?l24,?c24,?k24⟩ ⟨?a25,?l25,?c25,?k25⟩ ⟨?a26,?l26,?c26,?k26⟩ ⟨?a27,?l27,?c27,?k27⟩ ⟨?a28,?l28,?c28,?k28⟩ ⟨?a29,?l29,?c29,?k29⟩ ⟨?a30,?l30,?c30,?k30⟩ ⟨?a31,?l31,?c31,?k31⟩ ⟨?a32,?l32,?c32,?k32⟩ ⟨?tn1,?tl1,?te1,?tr1⟩ ?hcd ?hC2 ?z1 ?z2 ?z3 ?z4 ?z5 ?z6 ?z7 ?z8 ?z9 ?z10 ?z11 ?z12 ?z13 ?z14 ?z15 ?q1
  (case a1=>k_is); (case l1=>k_is); (case c1=>k_is); (case k1=>k_is); (case a2=>k_is); (case l2=>k_is); (case c2=>k_is); (case k2=>k_is); (case a3=>k_is); (case l3=>k_is); (case c3=>k_is); (case k3=>k_is); (case a4=>k_is); (case l4=>k_is); (case c4=>k_is); (case k4=>k_is)
  (case a5=>k_is); (case l5=>k_is); (case c5=>k_is); (case k5=>k_is); (case a6=>k_is); (case l6=>k_is); (case c6=>k_is); (case k6=>k_is); (case a7=>k_is); (case l7=>k_is); (case c7=>k_is); (case k7=>k_is); (case a8=>k_is); (case l8=>k_is); (case c8=>k_is); (case k8=>k_is)
  (case a9=>k_is); (case l9=>k_is); (case c9=>k_is); (case k9=>k_is); (case a10=>k_is); (case l10=>k_is); (case c10=>k_is); (case k10=>k_is); (case a11=>k_is); (case l11=>k_is); (case c11=>k_is); (case k11=>k_is); (case a12=>k_is); (case l12=>k_is); (case c12=>k_is); (case k12=>k_is)
  (case a13=>k_is); (case l13=>k_is); (case c13=>k_is); (case k13=>k_is); (case a14=>k_is); (case l14=>k_is); (case c14=>k_is); (case k14=>k_is); (case a15=>k_is); (case l15=>k_is); (case c15=>k_is); (case k15=>k_is); (case a16=>k_is); (case l16=>k_is); (case c16=>k_is); (case k16=>k_is)
  (case a17=>k_is); (case l17=>k_is); (case c17=>k_is); (case k17=>k_is); (case a18=>k_is); (case l18=>k_is); (case c18=>k_is); (case k18=>k_is); (case a19=>k_is); (case l19=>k_is); (case c19=>k_is); (case k19=>k_is); (case a20=>k_is); (case l20=>k_is); (case c20=>k_is); (case k20=>k_is)
  (case a21=>k_is); (case l21=>k_is); (case c21=>k_is); (case k21=>k_is); (case a22=>k_is); (case l22=>k_is); (case c22=>k_is); (case k22=>k_is); (case a23=>k_is); (case l23=>k_is); (case c23=>k_is); (case k23=>k_is); (case a24=>k_is); (case l24=>k_is); (case c24=>k_is); (case k24=>k_is)
  (case a25=>k_is); (case l25=>k_is); (case c25=>k_is); (case k25=>k_is); (case a26=>k_is); (case l26=>k_is); (case c26=>k_is); (case k26=>k_is); (case a27=>k_is); (case l27=>k_is); (case c27=>k_is); (case k27=>k_is); (case a28=>k_is); (case l28=>k_is); (case c28=>k_is); (case k28=>k_is)
  (case a29=>k_is); (case l29=>k_is); (case c29=>k_is); (case k29=>k_is); (case a30=>k_is); (case l30=>k_is); (case c30=>k_is); (case k30=>k_is); (case a31=>k_is); (case l31=>k_is); (case c31=>k_is); (case k31=>k_is); (case a32=>k_is); (case l32=>k_is); (case c32=>k_is); (case k32=>k_is)
  (case z1=>k_is); (case z2=>k_is); (case z3=>k_is); (case z4=>k_is); (case z5=>k_is); (case z6=>k_is); (case z7=>k_is); (case z8=>k_is); (case z9=>k_is); (case z10=>k_is); (case z11=>k_is); (case z12=>k_is); (case z13=>k_is); (case z14=>k_is); (case z15=>k_is); (case q1=>k_is)
  (case tn1=>k_is); (case tl1=>k_is); (case te1=>rfl); (case tr1=>repeat (first | exact .nil | refine .cons rfl rfl ?_))
  (case hcd=>exact rfl); (case hC2=>kernel_rfl)
 case hKT=>(intro w; kernel_rfl)
