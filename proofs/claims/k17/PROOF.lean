import PyProof.Rows.All
import Wide.All
import OpenK.AllK
import Wide.FinOn
import Lean
import PyProof.EqAt
import PyProof.EqKinds
import PyProof.TupleCall
import KE.KDictOf
import KE.KDictSum
import KE.KIntText
import KE.KLam
import KE.KMinBuiltin
import KE.KNestM
import KE.KPairComp
import KE.KSortKey
import KE.KSortTup
import KE.KTab
import KE.LcSums
import PyProof.AttrMissHeap
import PyProof.Conv_int_bool
import PyProof.DictValues
import PyProof.Draws
import PyProof.EnumFor
import PyProof.EnumMake
import PyProof.EnumStmt
import PyProof.FactsAll.list_1
import PyProof.ListStr
import PyProof.MeetsStr2
import PyProof.NeKinds
import PyProof.ReprLen
import PyProof.ReprRoads
import PyProof.Rows.EnumRows
import PyProof.Rows.SetFrom
import PyProof.Rows.SortRev
import PyProof.Rows.StrBin
import PyProof.Rows.TupAdd
import PyProof.SetRoads
import PyProof.StrBlockG
import PyProof.StrBlockI
import PyProof.StrLawsChain
import PyProof.StrLawsIn
import PyProof.StrLawsRepr
import PyProof.StrLawsTight
import PyProof.StrWalks
import PyProof.WalksMore
import PyProof.ZipIter
import PySem.Challenge.RW_cheaptree_k17_whole_places_called_otherw
set_option compiler.extract_closed false
set_option Elab.async false
set_option linter.all false
set_option maxRecDepth 100000
open List renaming getElem?_eq_getElem→aaa,length_map→aad,size_toArray→aae,getD_eq_getElem?_getD→aag,getElem?_map→aai,getElem?_eq_none→aan,mem_cons_of_mem→aar,map_cons→aas,mem_cons_self→aat,getElem?_set_ne→aau,getElem?_append_left→aav,map_map→aaw,mem_append_right→aaC,exists_cons_of_length_eq_add_one→aaD,length_append→aaF,replicate→aaG,map_append→aaH,mem_of_getElem?→aaI,map_congr_left→aaK,range→aaR,mem_map_of_mem→aaZ,getElem?_zip_eq_some→aa0,length_take→aa2,length_cons→aa3,getElem?_set→aa8,length_filter_le→aa9,take_length→abd,nil_append→abe,lookup_cons→abf,getElem_mem→abg,append_nil→abh,set_eq_of_length_le→abm,replicate_succ→abo,mapM_cons→abq,getElem_inj→abx,take_succ→abB,mem_of_mem_take→abD,mem_append_left→abE,getElem?_set_self→abF,filter_sublist→abG,find?_cons→abK,flatten_cons→abQ,filter_congr→abR,getElem?_range→abT,filterMap_cons→abU,mem_cons→abZ,length_replicate→ab0,nodup_append→ab3,mem_append→ab4,length_range→ab5,length_nil→ab6,ext_getElem?→ab7,append_assoc→ab8,getElem_of_mem→ace,getElem?_cons_zero→acf,getElem_map→ach,getElem?_toArray→acp,foldl_cons→acq,nodup_iff_pairwise_ne→acw,getElem?_append_right→acx,pairwise_iff_getElem→acA,drop_eq_getElem_cons→acB,getElem?_cons_succ→acN,take_of_length_le→acQ,drop_eq_nil_of_le→acR,length→acX,not_mem_nil→ac7,filter_cons→ac8,of_mem_zip→adm,lookup→adn,perm_ext_iff_of_nodup→adq,length_eraseIdx_of_lt→adr,mem_singleton→adw,map_nil→adx,filterMap_map→ady,mem_of_find?_eq_some→adB,eq_of_mem_replicate→adJ,nodup_range→adV,all_eq_true→adW,mem_filter→ad9,length_singleton→aea,filter_map→aeb,perm_cons→aem,lt_irrefl→aen,map_take→aez,getD→aeA,filter_filter→aeB,take_sublist→aeK,pairwise_map→aeL,foldl_append→aeM,eraseIdxIfInBounds_toArray→aeN,toArray→aeU,mem_map→aeV,take_append_of_le_length→aeZ,map_snd_zip→ae0,any_eq_true→ae1,range_succ→afi,nodup_cons→afj,length_zip→afk,length_set→afl,find?_some→afm,findIdx?_eq_none_iff→afu
open PySem renaming wpAny_bind→aab,wpAny_pure→aaf,starEach→aam,sizeLine_eq→aaA,Program→aaB,wpAny_mono→aaJ,wpAny_holding→aaN,mainGlobals→aaQ,foldedSetIterable→aa4,compareOp→abb,wpAny_newObj_type→abi,FuncData→abA,codeAny_builtin→abJ,wpAny_call_entry→abN,plainId_quiet→abP,mem_of_lookup→abS,attributeBase→abW,swapsWith→ab1,binaryOp→acb,codeAmong→acg,assignEach→aci,Builtin→ack,wpAny_Call_Name_kw→acl,wpAny_passesOwn→acm,bootBuiltins→aco,wpAny_setState_of→acr,wpAny_newList→acs,sysModules→act,behindInMarks→acu,wpAny_seqItems→acy,boot_len→acz,wpAny_askSetting→acD,wpAny_setEntries_of→acE,wpAny_standAt→acJ,strKind→acK,wpAny_pyNext_list_item→acP,wpAny_pyIter_list→acU,keywordEach→acV,wpAny_tryCatch→acY,wpAny_setField→acZ,bindArgs→ac0,wpAny_typeOf→ac2,wpAny_pyNext_list_end→ac3,Keyword→ac9,wpAny_rule→adc,wpAny_updateSeq→ade,sliceBounds→adf,holding→adg,codeAny→adi,tupleKind_room_in1→ads,codeAny_mono→adt,NameKind→adv,wpAny_truthy_bool→adE,wpAny_callSpecial?_slot→adL,swapsWithSole→adM,swappedStores→adN,SetTable→adO,wpAny_ite_split→adZ,wpAny_execs_nil→ad0,pickOrder→ad1,getItem→ad2,builtinLookup_eq_fast→ad3,strKind_is→aee,relayAll→aef,call_meets→aeg,backToKw→aeh,wpAny_newFunctionEnv→aei,wpAny_fieldsOf→aej,wpAny_letGo→aeo,comprehension→aev,wpAny_Name→aeC,valueAt→aeD,fits_of_scanBound→aeE,builtinsNs→aeF,wpAny_eqBool_str→aeW,noFill_tuple_add→aeX,compPost→ae3,updateSeq→ae4,typeLookup_type→ae5,tupleKind→ae7,subscripted→ae8,seqIndex?→ae9,letOwnedTupleGo→afb,callerA→afd,isSubtype_type→afs
open PySem.Heap renaming get?_push_of_some→aac,lt_size→aaj,get?_push_size→aal,get?_update_self→abz,size_push→abC,SameBut→acG,get?_update_other→acS,get?_update_ne→aes
open PySem.W renaming Frag→aah,mg_none_of→abt,keepIn→abH,codeHdIn→abO,nsIn→abX,fnOf→acF,tabObj→adA,codeIn→ael,kas_rev→aep,kas_item→aeu,methodObj→aeG,OpenLaw→afg
open Nat renaming le_refl→aak,ne_of_lt→aap,lt_of_lt_of_le→aaE,lt_or_ge→aaO,zero_le→aaS,zero_add→aaV,le_trans→aaX,lt_succ_of_lt→aa7,lt_irrefl→aba,lt_succ_self→abw,add_assoc→abY,ne_of_gt→aca,le_succ→acW,add_comm→ac6,zero_lt_one→adk,lt_trichotomy→adI,le_of_lt→aeS,le_of_eq→aeT
open Option.some renaming inj→aao,injEq→aeH
open Sum renaming inr→aaq,inl→afe
open Option renaming map_eq_some_iff→aax,toList_some→adu,bind_eq_some_iff→adQ,getD_some→adU,map_some→ad8,isSome_some→aey,isSome_map→aeI
open Array renaming length_toList→aay,getElem?_toList→abp,getElem?_eq_getElem→abI,toArray_toList→ada,getD_eq_getD_getElem?→adp,getElem?_eq_none→adY,toList_push→aeP
open Bool renaming false_ne_true→aaz,and_eq_true→aaT,eq_iff_iff→aaY,false_eq_true→abl,not_true→adT,or_eq_true→aed,not_false→afx,false_and→afy,and_false→afz
open PySem.Heap.SameBut renaming update→aaL
open PySem.Value renaming ref→aaM,none→aa1,type→aby,str→ac4,int→ad4,isStrOf_shape→aer
open PyProof.Rows renaming boot_tuple→aaP,slot_tuple_getitem→ab2,StrsAre→acd,get?_update_seq→acn,listUpdate_at→adb,entry_list_sort→adh,slot_list_sort→adz,boot_abs→ad7,args_list_sort→aek,boot_sorted→aeq,AllBare→aet,assignInOrder_cons→aew,plain_sorted→aeQ,entry_sorted→aeR,tuples'→ae6,seqEpoch_at→afa,kind_sorted→afc,callWith_type1→afh
open PySem.PassesOwn renaming never→aaU
open Nat.succ renaming inj→aaW
open PySem.F renaming type_list_append→aa5,slot_list_append→aa6,plain_max_loop→abV,plainAttrs_list→acL,args_tuple_add_2→adH,entry_tuple_add→adP,slot_tuple_add→adX,type_list_pop→ad5,slot_list_pop→ad6,plain_extend_loop→aft
open PySem.Obj renaming mapSeq→abj,data_mapFields→abu,isFreed_of_fields→ac5,cls_mapFields→aeJ
open PySem.NameKind renaming free→abk,cell→acM
open PySem.Str renaming ofString→abn
open PySem.Around renaming under_plainId→abr
open Ne renaming symm→abv
open List.Pairwise renaming imp_of_mem→abL,nil→aeO
open Int renaming emod_lt_of_pos→abM,emod_nonneg→ab9,toNat_natCast→acv,mul_le_mul_of_nonneg_left→ae2,le_refl→afn
open PySem.SetTable renaming grown→acj,below→ac1,standIn→aeY
open PySem.Builtin.Slice renaming slicePlaces→acC,sliceAdjust→adD,sliceApplied→afr
open False renaming elim→acH
open PySem.Builtin.Tuple renaming tupleExact→acI,tupleItemsOf→afq
open PySem.Builtin.Str renaming occurrences→acO
open PySem.Calls renaming callWith_builtin→acT,call_function_entry→adC,Name_function_global→afp
open PySem.Builtin.List renaming listExtendWith→ado,listTooLong→adK,listLengthHint→afo
open True renaming intro→adF
open PySem.SetTable.below renaming go→adG
open PyProof.Rows.F renaming plain_set_update_loop→adR
open PySem.Data renaming fields→adS
open ForInStep renaming yield→aec
open PySem.Paired renaming length→aex
open PySem.SeqAt.EqAt renaming same→aff
open List.Perm renaming swap→afv
open Classical renaming byContradiction→afw
namespace PySem.W.Fast
def tw7289693880685074395:=()
def tw118042992976126454:=()
def tw9550967427369036830:=()
def tw11399829963313156382:=()
def tw11456695847031600044:=()
def tw15011549004053709483:=()
def tw3881845945353975538:=()
def tw9078428930648056510:=()
def tw17086942421317954600:=()
def tw3321409122916859451:=()
def tw11726365698082089461:=()
def tw10193034264320204696:=()
def tw2061067196449231954:=()
def tw13485152649671040104:=()
def tw11014184164716415912:=()
def tw10079188626288330583:=()
def tw4141504283988997838:=()
def tw9563165794938995357:=()
def tw10316026567838556686:=()
def tw5904740480456993393:=()
def tw5002180400633135123:=()
def tw15276804615850842994:=()
def tw17620344279617170989:=()
def tw13835618258088972652:=()
def tw8611695757444644396:=()
def tw3783398525020842665:=()
def tw9266654942705863583:=()
def tw11460984575814262965:=()
def tw2979058989899065126:=()
def tw15838981253459697067:=()
def tw526150242096708853:=()
def tw14122952097538164427:=()
def tw16037871647412223123:=()
def tw9941349882651861515:=()
def tw5831015530617827870:=()
def tw7892420574831655012:=()
def tw4198236082768529651:=()
def tw8838076025990183467:=()
def tw1555379014982795549:=()
def tw13315297570833732775:=()
def tw11315668540018697677:=()
def tw9524688863947975464:=()
def tw10515397820405912778:=()
def tw8581020478852810206:=()
def tw14995154328522830174:=()
def tw7778608193853786260:=()
def tw3478956904667054091:=()
def tw13724337638670942286:=()
def tw5277260756682023770:=()
def tw2394584338301052406:=()
def tw2722906523704872544:=()
def tw5540058755748134575:=()
def tw12517233685002570631:=()
def tw17080331865174603105:=()
def tw6993161039337281437:=()
def tw13892860921317164574:=()
def tw3687224126023264937:=()
def tw13842844225245190329:=()
def tw16812651925478280121:=()
def tw17973839313354947160:=()
def tw12357014894785125806:=()
def tw7327015087530706696:=()
def tw8263199556709187955:=()
def tw5198050197738541939:=()
def tw10822529235548660137:=()
def tw10878533758687211172:=()
def tw12249089773802465489:=()
def tw11073072116890772023:=()
def tw2535495394334467011:=()
def tw12969257909217182585:=()
def tw13079857115254866716:=()
def tw5547764348570014118:=()
def tw5084427485816627726:=()
def tw4504219983873181455:=()
def tw4499011799175591870:=()
def tw3533544159867382851:=()
def tw2108352669625564696:=()
def tw18107173299345248461:=()
def tw1691268998414763376:=()
def tw14702075874320521142:=()
def tw427683458877309516:=()
def tw4292271080083959819:=()
def tw15886175831547757702:=()
def tw10778397837050190343:=()
def tw5550563411599284803:=()
def tw6356224235064519332:=()
def tw6316093689709495622:=()
def tw501938707984058037:=()
def tw4617763662722899522:=()
def tw15971408945975097238:=()
def tw10370064418559672479:=()
def tw5126807432882683925:=()
def tw14235105102112444891:=()
end PySem.W.Fast
theorem Z0:True:=trivial
namespace L2
open PySem PySem.Spec PyProof.Rows
abbrev Key:=Sum Int Str
def Bu:Key->Value->Bool
 |.inl k,v=>Value.isInt k v
 |.inr x,v=>Value.isStrOf x v
def MI(w:World):Key->Int
 |.inl k=>hashInt k
 |.inr x=>hashStr w x
theorem aM:∀{k:Key} {v:Value},Bu k v=true->(∃i t,k=afe i/\v=ad4 i t)\/(∃x t,k=aaq x/\v=ac4 x t)
 |.inl i,v,h=>by
  obtain⟨t,e⟩:=Value.isInt_shape (k:=i) (v:=v) h
  exact .inl ⟨i,t,rfl,e⟩
 |.inr x,v,h=>by
  obtain⟨t,e⟩:=aer (x:=x) (v:=v) h
  exact .inr ⟨x,t,rfl,e⟩
theorem qd(i:Int)(t:Tok):Bu (.inl i) (.int i t)=true:=by simp[Bu,Value.isInt]
theorem qc(x:Str)(t:Tok):Bu (.inr x) (.str x t)=true:=by simp[Bu,Value.isStrOf]
theorem vD(a b:Int):decide ((afe a:Key)=afe b)=(a==b):=by
 by_cases e:a=b
 .subst e;simp
 .have h:¬ (afe a:Key)=afe b:=λq=>e (Sum.inl.inj q)
  rw[decide_eq_false h]
  exact(beq_eq_false_iff_ne.mpr e).symm
theorem vz(a b:Str):decide ((aaq a:Key)=aaq b)=decide (a=b):=by
 by_cases e:a=b
 .subst e;simp
 .have h:¬ (aaq a:Key)=aaq b:=λq=>e (Sum.inr.inj q)
  rw[decide_eq_false h,decide_eq_false e]
theorem vC(a:Int)(b:Str):decide ((afe a:Key)=aaq b)=false:=decide_eq_false (λq=>nomatch q)
theorem vA(a:Str)(b:Int):decide ((aaq a:Key)=afe b)=false:=decide_eq_false (λq=>nomatch q)
def aA(prog:aaB)(w:World):PySem.KeyKind prog w Key where
 is:=Bu
 hash:=MI w
 inj:=λv a b ha hb=>by
  rcases aM ha with ⟨i,t,rfl,rfl⟩|⟨x,t,rfl,rfl⟩
  .rcases aM hb with ⟨j,u,rfl,e⟩|⟨y,u,rfl,e⟩
   .injection e with e1 _;rw[e1]
   .exact nomatch e
  .rcases aM hb with ⟨j,u,rfl,e⟩|⟨y,u,rfl,e⟩
   .exact nomatch e
   .injection e with e1 _;rw[e1]
 byValue:=λk v h=>by
  rcases aM h with ⟨i,t,rfl,rfl⟩|⟨x,t,rfl,rfl⟩<;>rfl
 pyHash:=λhv h=>by
  rcases aM hv with ⟨i,t,rfl,rfl⟩|⟨x,t,rfl,rfl⟩
  .exact wpAny_pyHash_int h
  .exact wpAny_pyHash_str h
 eqBool:=λhu hv h=>by
  rcases aM hu with ⟨i,t,rfl,rfl⟩|⟨x,t,rfl,rfl⟩
  .rcases aM hv with ⟨j,u,rfl,rfl⟩|⟨y,u,rfl,rfl⟩
   .rw[vD]at h;exact wpAny_eqBool_int h
   .rw[vC]at h;exact SeqAt.EqAt.int_str i t y u _ _ _ _ h
  .rcases aM hv with ⟨j,u,rfl,rfl⟩|⟨y,u,rfl,rfl⟩
   .rw[vA]at h;exact SeqAt.EqAt.str_int x t j u _ _ _ _ h
   .rw[vz]at h;exact aeW h
 «strs»:=λk x t v h=>by
  rcases aM h with ⟨i,u,rfl,e⟩|⟨y,u,rfl,e⟩
  .exact nomatch e
  .injection e with e1 _
   subst e1
   cases v<;>rfl
theorem mP(prog:aaB)(w:World)(i:Int)(t:Tok):(aA prog w).is (.inl i) (.int i t)=true:=qd i t
theorem gJ(prog:aaB)(w:World)(x:Str)(t:Tok):(aA prog w).is (.inr x) (.str x t)=true:=qc x t
inductive V where
 |nE|bl (b:Bool)|int (i:Int)|str (x:Str)|DZ (b:Array UInt8)|NL (b:UInt64)|ref (a:Addr)|ty (n:String)
 deriving DecidableEq
def RelV:V->Value->Prop
 |.nE,u=>u=aa1
 |.bl b,u=>u=Value.bool b
 |.int i,u=>∃t,u=ad4 i t
 |.str x,u=>∃t,u=ac4 x t
 |.DZ b,u=>∃t,u=Value.bytes b t
 |.NL b,u=>∃t,u=Value.float b t
 |.ref a,u=>u=aaM a
 |.ty n,u=>u=aby n
abbrev oR:List V->List Value->Prop:=Paired RelV
variable{xs:List V}{us:List Value}
theorem oR.length(r:oR xs us):xs.length=us.length:=aex r
theorem oR.get:∀{xs:List V} {us:List Value} {i:Nat} {x:V},oR xs us->xs[i]?=some x->∃u,us[i]?=some u/\RelV x u
 |_,_,_,_,.nil,e=>by simp at e
 |_,_,0,_,.cons r _,e=>by simp at e;subst e;exact⟨_,rfl,r⟩
 |_,_,i+1,x,.cons _ t,e=>by
  obtain⟨u,h1,h2⟩:=oR.get (i:=i) (x:=x) t (by simpa using e)
  exact⟨u,by simpa using h1,h2⟩
variable{x:V}{u:Value}
theorem oR.set(r:RelV x u):∀{xs:List V} {us:List Value} (i:Nat),oR xs us->oR (xs.set i x) (us.set i u)
 |_,_,_,.nil=>.nil
 |_,_,0,.cons _ t=>.cons r t
 |_,_,i+1,.cons q t=>.cons q (oR.set r i t)
theorem oR.append:∀{xs ys:List V} {us ws:List Value},oR xs us->oR ys ws->oR (xs++ys) (us++ws)
 |_,_,_,_,.nil,s=>s
 |_,_,_,_,.cons r t,s=>.cons r (oR.append t s)
theorem oR.take:∀{xs:List V} {us:List Value} (n:Nat),oR xs us->oR (xs.take n) (us.take n)
 |_,_,0,_=>.nil
 |_,_,_+1,.nil=>.nil
 |_,_,n+1,.cons r t=>.cons r (oR.take n t)
theorem oR.drop:∀{xs:List V} {us:List Value} (n:Nat),oR xs us->oR (xs.drop n) (us.drop n)
 |_,_,0,r=>r
 |_,_,_+1,.nil=>.nil
 |_,_,n+1,.cons _ t=>oR.drop n t
def Bc:Option V->Option Value->Prop
 |some v,some u=>RelV v u
 |none,none=>True
 |_,_=>False
def KV{κ:Type}:List (κ×V)->List (κ×Value)->Prop:=Paired λ(p:κ×V) (q:κ×Value)=>p.1=q.1/\RelV p.2 q.2
def kV:Key->V
 |.inl i=>.int i
 |.inr x=>.str x
inductive HO where
 |lst (xs:List V)
 |tup (xs:List V)
 |dK (kvs:List (Key×V))|dT (kvs:List (List Key×V))
 |set (S:Int->Bool) (n:Nat)
 |ins (C dx:Addr) (fs:List (Str×V))
 |own (x:Addr)
 |xd (fs:List (Str×V))
 |met (f x:Addr)
 |KY (lo hi:Int)
 |yG (o:Obj) (u:HO)
 |Fo (ps:Array Value)
 |ext (φ:Heap->Prop)
abbrev Hp:=Addr->Option HO
def upd(H:Hp)(a:Addr)(o:HO):Hp:=λb=>if b=a then some o else H b
variable{H:Hp}{a:Addr}{o:HO}
theorem ag:upd H a o a=some o:=by unfold upd;rw[if_pos rfl]
variable{b:Addr}
theorem af(h:b≠a):upd H a o b=H b:=by unfold upd;rw[if_neg h]
theorem sM{u:HO}:upd (upd H a o) a u=upd H a u:=by
 funext b;unfold upd;split<;>rfl
theorem oE{u:HO}(h:H a=some o)(h':H b=some u)(d:o≠u):a≠b:=by
 intro e;subst e;rw[h]at h';exact d (aao h')
theorem aq(h:H a=some o)(h':H b=none):a≠b:=by
 intro e;subst e;rw[h]at h';cases h'
variable(P:aaB)(w:World)
def xa(H:Hp)(h:Heap)(a:Addr):HO->Prop
 |.lst xs=>xs.length<=sizeLine/\∃(gE:List Value) (n:Nat),oR xs gE/\h.get? a=some {cls:=.type "list",data:=.seq gE.toArray n}
 |.tup xs=>xs.length<=sizeLine/\∃gE:List Value,oR xs gE/\IsTup h a gE.toArray
 |.dK kvs=>kvs.length<=sizeLine/\(a==act)=false/\∃vs,KV kvs vs/\h.DictOf (aA P w) a vs
 |.dT kvs=>kvs.length<=sizeLine/\(a==act)=false/\∃xs:List (List Key×Addr×Value),
   Paired (λ(p:List Key×V) (q:List Key×Addr×Value)=>p.1=q.1/\H q.2.1=some (.tup (p.1.map kV))/\RelV p.2 q.2.2) kvs xs /\
   ∃o es ep,h.get? a=some o/\o.ExactDict/\o.data=.dict es ep/\es.toList=xs.map (entryOfKey (ae7 (aA P w)))/\(xs.map (·.1)).Nodup
 |.set S n=>h.SetOf (intKind P w) a S n
 |.ins C dx fs=>H dx=some (.own a)/\fs.length<=1000/\dx≠a/\h.get? a=some (PySem.W.instObj C dx) /\
   ∃mA,h.Ns1 dx mA/\(∀f,Bc (fs.lookup f) (mA f))/\PySem.Within mA (fs.map (·.1))
 |.own _=>∃o,h.get? a=some o
 |.xd fs=>∃mA,h.Ns1 a mA/\∀f,Bc (fs.lookup f) (mA f)
 |.KY lo hi=>∃t u v,h.get? a=some {cls:=.type "range",data:=.fields #[.int lo t,.int hi u,.int 1 v]}
 |.yG o u=>h.get? a=some o/\xa H h a u
 |.Fo ps=>h.get? a=some {cls:=.none,data:=.fields ps}
 |.met f x=>h.get? a=some (aeG (.ref f) (.ref x))
 |.ext φ=>φ h/\(∃o,h.get? a=some o)/\∀h1 h2:Heap,φ h1->(∀o,h1.get? a=some o->h2.get? a=some o)->φ h2
def zl(H:Hp)(h:Heap):Prop:=∀a o,H a=some o->xa P w H h a o
variable{P:aaB}{w:World}{H':Hp}{h h':Heap}
theorem xa.lt(x:xa P w H h a o):a<h.objs.size:=by
 cases o with
 |lst xs=>obtain⟨_,_,_,_,e⟩:=x;exact aaj e
 |tup xs=>obtain⟨_,_,_,p⟩:=x;exact p.lt
 |dK kvs=>obtain⟨_,_,_,_,o,_,_,e,_⟩:=x;exact aaj e
 |dT kvs=>obtain⟨_,_,_,_,o,_,_,e,_⟩:=x;exact aaj e
 |set S n=>obtain⟨o,_,_,_,e,_⟩:=x;exact aaj e
 |ins C dx fs=>obtain⟨_,_,_,e,_⟩:=x;exact aaj e
 |own y=>obtain⟨_,e⟩:=x;exact aaj e
 |xd fs=>obtain⟨_,⟨_,_,_,e,_⟩,_⟩:=x;exact aaj e
 |KY lo hi=>obtain⟨_,_,_,e⟩:=x;exact aaj e
 |yG ob u=>obtain⟨e,_⟩:=x;exact aaj e
 |Fo ps=>exact aaj (show h.get? a=some _ from x)
 |met f y=>exact aaj (show h.get? a=some _ from x)
 |ext φ=>obtain⟨_,⟨_,e⟩,_⟩:=x;exact aaj e
variable{α:Type}
theorem Paired.Hv{β:Type}{F G:α->β->Prop}:∀{l₁:List α} {l₂:List β},Paired F l₁ l₂->(∀a b,F a b->G a b)->Paired G l₁ l₂
 |_,_,.nil,_=>.nil
 |_,_,.cons r t,f=>.cons (f _ _ r) (Paired.Hv t f)
theorem xa.AH(x:xa P w H h a o)(k:∀b u,(b=a\/H b=some (.own a))->h.get? b=some u->h'.get? b=some u)
  (ho:∀b,H b=some (.own a)->H' b=some (.own a)) (ht:∀b xs,H b=some (.tup xs)->H' b=some (.tup xs)):xa P w H' h' a o:=by
 induction o with
 |lst xs=>obtain⟨z,gE,n,r,e⟩:=x;exact⟨z,gE,n,r,k _ _ (.inl rfl) e⟩
 |tup xs=>obtain⟨z,gE,r,ob,e,c⟩:=x;exact⟨z,gE,r,ob,k _ _ (.inl rfl) e,c⟩
 |dK kvs=>obtain⟨z,y,vs,r,ob,es,ep,e,c⟩:=x;exact⟨z,y,vs,r,ob,es,ep,k _ _ (.inl rfl) e,c⟩
 |dT kvs=>
  obtain⟨z,y,xs,r,ob,es,ep,e,c⟩:=x
  exact⟨z,y,xs,Paired.Hv r λp q z=>⟨z.1,ht _ _ z.2.1,z.2.2⟩,ob,es,ep,k _ _ (.inl rfl) e,c⟩
 |set S n=>obtain⟨ob,es,ep,t,e,c⟩:=x;exact⟨ob,es,ep,t,k _ _ (.inl rfl) e,c⟩
 |ins C dx fs=>
  obtain⟨d,z,ne,e,mA,⟨od,es,ep,e2,c⟩,r⟩:=x
  exact⟨ho _ d,z,ne,k _ _ (.inl rfl) e,mA,⟨od,es,ep,k _ _ (.inr d) e2,c⟩,r⟩
 |own y=>obtain⟨ob,e⟩:=x;exact⟨ob,k _ _ (.inl rfl) e⟩
 |xd fs=>obtain⟨mA,⟨od,es,ep,e,c⟩,r⟩:=x;exact⟨mA,⟨od,es,ep,k _ _ (.inl rfl) e,c⟩,r⟩
 |KY lo hi=>obtain⟨t,u,v,e⟩:=x;exact⟨t,u,v,k _ _ (.inl rfl) e⟩
 |yG ob u ih=>obtain⟨e,q⟩:=x;exact⟨k _ _ (.inl rfl) e,ih q⟩
 |Fo ps=>
  have e:h.get? a=some {cls:=.none,data:=.fields ps}:=x
  show h'.get? a=some {cls:=.none,data:=.fields ps}
  exact k a _ (.inl rfl) e
 |met f y=>
  have e:h.get? a=some (aeG (.ref f) (.ref y)):=x
  show h'.get? a=some (aeG (.ref f) (.ref y))
  exact k a _ (.inl rfl) e
 |ext φ=>obtain⟨p,⟨o,e⟩,st⟩:=x;exact⟨st _ _ p λo q=>k _ _ (.inl rfl) q,⟨o,k _ _ (.inl rfl) e⟩,st⟩
theorem zl.lt(x:zl P w H h)(e:H a=some o):a<h.objs.size:=(x a o e).lt
theorem zl.fresh(x:zl P w H h)(e:h.objs.size<=a):H a=none:=by
 cases q:H a with
 |none=>rfl
 |some u=>exact absurd (aaE (x.lt q) e) (aba _)
theorem zl.kept(x:zl P w H h)(k:∀b u,h.get? b=some u->h'.get? b=some u):zl P w H h':=λa o e=>
 (x a o e).AH (λb u _ q=>k b u q) (λ_ q=>q) λ_ _ q=>q
theorem zl.laid(x:zl P w H h)(k:∀b u,h.get? b=some u->h'.get? b=some u)(hp:h.objs.size<=a)(new:xa P w (upd H a o) h' a o):zl P w (upd H a o) h':=λb u e=>by
 have hn:=x.fresh hp
 by_cases hb:b=a
 .subst hb;rw[ag]at e;cases e;exact new
 .rw[af hb]at e
  exact(x b u e).AH (λc v _ q=>k c v q) (λc q=>by rw[af (aq q hn)];exact q) λc xs q=>by rw[af (aq q hn)];exact q
def Rd(H:Hp)(a:Addr)(u:HO):Prop:=H a=some u\/∃o,H a=some (.yG o u)
theorem Rd.ok{u:HO}(r:Rd H a u)(x:zl P w H h):xa P w H h a u:=by
 rcases r with r|⟨o,r⟩
 .exact x a u r
 .obtain⟨_,q⟩:=x a _ r
  exact q
def KH:Option HO->Prop
 |some (.lst _)=>True
 |some (.dK _)=>True
 |some (.dT _)=>True
 |some (.set _ _)=>True
 |some (.ins _ _ _)=>True
 |some (.ext _)=>True
 |_=>False
variable{x e:Addr}{o':HO}
theorem zl.write(ok:zl P w H h)(mu:KH (H x))(he:e=x\/H e=some (.own x))(k:∀b u,b≠e->h.get? b=some u->h'.get? b=some u)(IK:∃u,h'.get? e=some u)
  (new:xa P w (upd H x o') h' x o'):zl P w (upd H x o') h':=λb u q=>by
 have JE:∀c y,H c=some (.own y)->c≠x:=λc y r z=>by subst z;rw[r]at mu;exact mu
 have Mx:∀c xs,H c=some (.tup xs)->c≠x:=λc xs r z=>by subst z;rw[r]at mu;exact mu
 by_cases hb:b=x
 .subst hb;rw[ag]at q;cases q;exact new
 .rw[af hb]at q
  by_cases DV:b=e
  .have q':H b=some (.own x):=by
    rcases he with z|z
    .exact absurd (DV.trans z) hb
    .rw[DV];exact z
   rw[q]at q';cases q'
   obtain⟨v,hv⟩:=IK
   exact⟨v,by rw[DV];exact hv⟩
  .refine(ok b u q).AH (λc v hc r=>k c v ?_ r) (λc r=>by rw[af (JE c b r)];exact r) λc xs r=>by rw[af (Mx c xs r)];exact r
   rcases hc with rfl|hc
   .exact DV
   .rintro rfl
    rcases he with z|z
    .exact JE c b hc z
    .rw[hc]at z;cases z;exact hb rfl
structure Un(fs ex:List Addr)(H H':Hp)(h h':Heap):Prop where
 keep:∀b o,h.get? b=some o->H b=none->b∉fs->b∉ex->h'.get? b=some o
 slot:∀b o,h.get? b=some o->H b=none->b∈fs->b∉ex->∃sl,h'.get? b=some {o with slots:=sl}
 free:∀b o,h.get? b=some o->H b=none->b∉ex->H' b=none
 there:∀b o,h.get? b=some o->b∉ex->∃o',h'.get? b=some o'
 Al:∀b xs,H b=some (.tup xs)->H' b=some (.tup xs)
 A0:∀b o u,H b=some (.yG o u)->H' b=some (.yG o u)
 Bg:∀b ps,H b=some (.Fo ps)->∃more,H' b=some (.Fo (ps++more))
section
variable{fs RF ex SV:List Addr}{H1 H2:Hp}{h1 h2:Heap}
theorem Un.any(u:Un fs ex H H1 h h1){ob:Obj}(q:h.get? b=some ob)(n:H b=none)(hx:b∉ex):∃sl,h1.get? b=some {ob with slots:=sl}:=by
 by_cases hb:b∈fs
 .exact u.slot b ob q n hb hx
 .exact⟨ob.slots,u.keep b ob q n hb hx⟩
theorem Un.kept(k:∀b u,h.get? b=some u->h'.get? b=some u):Un fs ex H H h h' :=
 ⟨λb ob q _ _ _=>k b ob q,λb ob q _ _ _=>⟨ob.slots,k b ob q⟩,λ_ _ _ n _=>n,λb ob q _=>⟨ob,k b ob q⟩,λ_ _ q=>q,λ_ _ _ q=>q,λ_ ps q=>⟨#[],by rw[q];simp⟩⟩
theorem Un.refl:Un fs ex H H h h:=Un.kept λ_ _ q=>q
theorem Un.laid(k:∀b u,h.get? b=some u->h'.get? b=some u)(hp:h.objs.size<=a)(hn:H a=none):Un fs ex H (upd H a o) h h' where
 keep:=λb u q _ _ _=>k b u q
 slot:=λb u q _ _ _=>⟨u.slots,k b u q⟩
 free:=λb u q n _=>by rw[af (aap (aaE (aaj q) hp))];exact n
 there:=λb u q _=>⟨u,k b u q⟩
 Al:=λb xs q=>by rw[af (aq q hn)];exact q
 A0:=λb u xs q=>by rw[af (aq q hn)];exact q
 Bg:=λb ps q=>⟨#[],by rw[af (aq q hn),q];simp⟩
theorem Un.write(mu:KH (H x))(he:e=x\/H e=some (.own x))(k:∀b u,b≠e->h.get? b=some u->h'.get? b=some u)(IK:∃u,h'.get? e=some u):Un fs ex H (upd H x o) h h':=by
 have hx:∀b,H b=none->b≠x:=λb n z=>by subst z;rw[n]at mu;exact mu
 have hb:∀b,H b=none->b≠e:=λb n z=>by
  subst z
  rcases he with r|r
  .exact hx b n r
  .rw[n]at r;cases r
 have hm:∀b u,H b=some u->¬ KH (some u)->b≠x:=λb u q nm z=>by subst z;rw[q]at mu;exact nm mu
 refine⟨λb u q n _ _=>k b u (hb b n) q,λb u q n _ _=>⟨u.slots,k b u (hb b n) q⟩,λb u q n _=>by rw[af (hx b n)];exact n,λb u q _=>?_,
  λb xs q=>by rw[af (hm b _ q λz=>z)];exact q,λb u xs q=>by rw[af (hm b _ q λz=>z)];exact q,λb ps q=>⟨#[],by rw[af (hm b _ q λz=>z),q];simp⟩⟩
 by_cases DV:b=e
 .subst DV;exact IK
 .exact⟨u,k b u DV q⟩
end
def KQ(h:Heap)(H:Hp):List Addr:=(aaR h.objs.size).filter λa=>(H a).isSome
def Bk(h:Heap)(H:Hp):Heap:=PySem.W.hideAll h (KQ h H)
theorem qi(h:Heap)(H:Hp):(Bk h H).objs.size=h.objs.size:=PySem.W.hideAll_size _ _
theorem rV{o:Obj}(e:h.get? b=some o)(n:H b=none):(Bk h H).get? b=some o :=
 PySem.W.hideAll_get _ e λhm=>by
  have q:(H b).isSome=true:=(List.mem_filter.mp hm).2
  rw[n]at q;simp at q
theorem tR{o:Obj}(e:(Bk h H).get? b=some o):h.get? b=some o/\H b=none:=by
 have e':h.get? b=some o:=PySem.W.of_hideAll (KQ h H) e
 refine⟨e',?_⟩
 cases q:H b with
 |none=>rfl
 |some x=>
  have hm:b∈KQ h H:=List.mem_filter.mpr ⟨List.mem_range.mpr (aaj e'),by simp[q]⟩
  have z:(Bk h H).get? b=none:=PySem.W.hideAll_none (KQ h H) hm
  rw[z]at e;cases e
def gx(g h:Heap)(L:Addr):List (Addr×Obj):=(aaR h.objs.size).filterMap λa=>if a=L\/(g.get? a).isSome=true then none else (h.get? a).map λo=>(a,o)
variable{g:Heap}{L:Addr}
theorem dQ{o:Obj}(h1:a≠L)(h2:g.get? a=none)(h3:h.get? a=some o):(a,o)∈gx g h L :=
 List.mem_filterMap.mpr ⟨a,List.mem_range.mpr (aaj h3),by simp[h1,h2,h3]⟩
theorem jI{p:Addr×Obj}(hp:p∈gx g h L):p.1≠L/\g.get? p.1=none/\h.get? p.1=some p.2:=by
 obtain⟨b,_,e⟩:=List.mem_filterMap.mp hp
 split at e
 .cases e
 .rename_i hn
  cases q:h.get? b with
  |none=>rw[q]at e;simp at e
  |some u=>
   rw[q]at e
   simp only[ad8,aeH]at e
   subst e
   refine⟨λz=>hn (.inl z),?_,q⟩
   show g.get? b=none
   cases r:g.get? b with
   |none=>rfl
   |some v=>exact(hn (.inr (by simp[r]))).elim
theorem ig:News g L h (gx g h L):=λp hp=>let ⟨a,b,c⟩:=jI hp;⟨c,a,b⟩
structure Mod(K:aah)(mg:Str->Option Value)(base:Heap):Prop where
 kin:K.In base
 glob:base.Ns aaQ mg
 blt:∃mb,base.Ns aeF mb/\∀x:Str,x ≠ "__name__" -> mb x=aco x
 nolimit:base.NoLimit
structure Cx where
 prog:aaB
 w:World
 K:aah
 mg:Str->Option Value
 base:Heap
 A:Around
 N:List Str
 s₀:Shared
 H₀:Hp
 env:Env
 outer:List Env
 stack:List Env
 ex:List Addr
 fn:Str->Bool
 calm:Bool
 pn:List (Addr×Obj)
 xe:Value->Shared->Prop
def EU(l:List Env):List Addr:=l.filterMap (·.frame)
abbrev Cx.fs(X:Cx):List Addr:=EU X.outer
def D3(sc:Scope)(x:Str):Prop:=sc.names.lookup x=some .local\/sc.names.lookup x=some .cell\/sc.names.lookup x=some .free
def Loc(sc:Scope)(x:Str):Prop:=sc.names.lookup x=some .local\/sc.names.lookup x=some .cell
def Look(env:Env)(h:Heap)(m:Str->Option Value)(x:Str)(u:Value):Prop :=
 (env.kindOf x=some .local/\m x=some u)\/((env.kindOf x=some .cell\/env.kindOf x=some .free)/\∃c,env.cells.lookup x=some c/\h.IsCell c (some u))
structure Cx.Ok(X:Cx):Prop where
 mod:Mod X.K X.mg X.base
 kind:X.env.scope.kind=.function
 glob:X.env.globals=aaQ
 blt:X.env.builtins=aeF
 above:X.s₀.heap.objs.size<=X.env.locals
 inj:∀x y c,X.env.cells.lookup x=some c->X.env.cells.lookup y=some c->x=y
 has:∀x,(X.env.kindOf x=some .cell\/X.env.kindOf x=some .free)->∃c,X.env.cells.lookup x=some c
 Kv:∀x c,X.fn x=true->X.env.cells.lookup x=some c->X.s₀.heap.objs.size<=c
 hd:X.calm=true->X.A.handled=none
 frames:X.A.frames=some X.stack
 KS:X.stack=X.outer\/(X.stack=X.env::X.outer/\X.env.frame=some X.env.locals)
 O9:∀b∈X.ex,b≠X.env.locals/\∀x c,X.env.cells.lookup x=some c->c≠b
 bs:∀b o,X.base.get? b=some o->X.s₀.heap.get? b=some o/\X.H₀ b=none
 GP:X.base.objs.size<=X.s₀.heap.objs.size
 EI:∀b o,X.base.get? b=some o->b∉X.ex
 FR:∀b∈X.ex,b∉X.fs
 AZ:X.s₀.heap.FunFrames X.base X.outer
 IS:∀b∈X.fs,X.H₀ b=none
structure Inv(X:Cx)(pins:List (Addr×Obj))(σ:List (Option V))(H:Hp)(s:Shared):Prop where
 ok:X.Ok
 os:s.os=X.s₀.os
 bare:aet s.gens
 base:Un X.fs X.ex X.H₀ H X.s₀.heap s.heap
 loc:∃m,s.heap.Ns X.env.locals m/\∀(i:Nat) (x:Str) (v:V),X.N[i]?=some x->σ[i]?=some (some v)->D3 X.env.scope x->∃u,RelV v u/\Look X.env s.heap m x u
 cell:∀x c,X.env.cells.lookup x=some c->∃v,s.heap.IsCell c v
 free:H X.env.locals=none
 yA:∀x c,X.env.cells.lookup x=some c->H c=none
 pin:∀p∈X.pn++pins,s.heap.get? p.1=some p.2/\H p.1=none/\p.1≠X.env.locals/\p.1∉X.fs/\∀v,p.2.data≠.cell v
 wU:zl X.prog X.w H s.heap
 len:σ.length=X.N.length
variable{X:Cx}{pins:List (Addr×Obj)}{σ:List (Option V)}{s:Shared}
theorem Cx.Ok.Mz(ok:X.Ok){o:Obj}(e:X.base.get? b=some o):b∉X.fs:=λhb=>by
 have:=(ok.AZ.mem hb).1
 rw[e]at this;cases this
theorem Inv.bs(I:Inv X pins σ H s):∀b o,X.base.get? b=some o->s.heap.get? b=some o/\H b=none:=λb o e=>
 ⟨I.base.keep b o (I.ok.bs b o e).1 (I.ok.bs b o e).2 (I.ok.Mz e) (I.ok.EI b o e),I.base.free b o (I.ok.bs b o e).1 (I.ok.bs b o e).2 (I.ok.EI b o e)⟩
theorem Inv.bk(I:Inv X pins σ H s):∀b o,X.base.get? b=some o->s.heap.get? b=some o:=λb o e=>(I.bs b o e).1
theorem Inv.mod(I:Inv X pins σ H s):Mod X.K X.mg X.base:=I.ok.mod
theorem Inv.Hy(I:Inv X pins σ H s):X.K.In s.heap:=I.ok.mod.kin.keeps I.bk
theorem Inv.fr(I:Inv X pins σ H s):∃m,Fr X.base X.env.locals s.heap m :=
 let ⟨m,hn,_⟩:=I.loc
 ⟨m,hn,I.bk,aaX I.ok.GP I.ok.above⟩
theorem Inv.lt(I:Inv X pins σ H s):X.env.locals<s.heap.objs.size:=let ⟨_,hn,_⟩:=I.loc;hn.lt
theorem Inv.sz(I:Inv X pins σ H s):X.s₀.heap.objs.size<=s.heap.objs.size:=aaX I.ok.above (aeS I.lt)
theorem Inv.My(I:Inv X pins σ H s)(h:s.heap.objs.size<=a):a∉X.fs:=λhb=>by
 obtain⟨_,o,ho,_⟩:=I.ok.AZ.mem hb
 exact absurd (aaE (aaj ho) (aaX I.sz h)) (aba _)
theorem Inv.Ik(I:Inv X pins σ H s):∀x c,X.env.cells.lookup x=some c->c≠X.env.locals:=λx c e z=>by
 obtain⟨v,o,ho,hd⟩:=I.cell x c e
 obtain⟨m,⟨o',es,ep,BW,Lw,_⟩,_⟩:=I.loc
 rw[z,BW]at ho;cases ho;rw[Lw]at hd;cases hd
theorem Inv.AZ(I:Inv X pins σ H s):s.heap.FunFrames X.base X.outer:=by
 have all:∀(l:List Env),(∀b∈EU l,b∈X.fs)->X.s₀.heap.FunFrames X.base l->s.heap.FunFrames X.base l:=by
  intro l
  induction l with
  |nil=>intro _ _;trivial
  |cons env r ih=>
   intro hs hl
   obtain⟨hk,⟨L,o,hf,hn,ho,hd⟩,hr⟩:=hl
   have hL:L∈X.fs:=hs L (by unfold EU;rw[abU,hf];exact aat)
   obtain⟨sl,e⟩:=I.base.slot L o ho (I.ok.IS L hL) hL λz=>I.ok.FR L z hL
   exact⟨hk,⟨L,_,hf,hn,e,hd⟩,ih (λb hb=>hs b (by unfold EU;rw[abU,hf];exact aar _ hb)) hr⟩
 exact all X.outer (λ_ hb=>hb) I.ok.AZ
theorem Inv.stack(I:Inv X pins σ H s):s.heap.FunFrames X.base X.stack:=by
 rcases I.ok.KS with e|⟨e,hf⟩
 .rw[e];exact I.AZ
 .rw[e]
  obtain⟨m,hn,_⟩:=I.loc
  refine .cons (by rw[I.ok.kind];decide) hf hn ?_ I.AZ
  exact Heap.get?_none_of_le (aaX I.ok.GP I.ok.above)
theorem Inv.zM(I:Inv X pins σ H s):∀b∈EU X.stack,b∈X.env.locals::X.fs:=λb hb=>by
 rcases I.ok.KS with e|⟨e,hf⟩
 .rw[e]at hb;exact aar _ hb
 .rw[e]at hb
  unfold EU at hb
  rw[abU,hf]at hb
  exact hb
theorem Inv.Dg(I:Inv X pins σ H s):∀b∈EU X.stack,H b=none:=λb hb=>by
 rcases List.mem_cons.mp (I.zM b hb)with e|hb
 .rw[e];exact I.free
 .obtain⟨_,o,ho,_⟩:=I.ok.AZ.mem hb
  exact I.base.free b o ho (I.ok.IS b hb) λz=>I.ok.FR b z hb
variable{t':Nat}
theorem Inv.step{g':Array GenState}{d':Drawn}{ch:List Addr}(I:Inv X pins σ H s)
  (Fg:∀b∈ch,(b∈X.ex\/X.s₀.heap.objs.size<=b)/\b≠X.env.locals/\(∀x c,X.env.cells.lookup x=some c->c≠b)/\∀p∈X.pn++pins,p.1≠b)
  (keep:∀b o,b≠X.env.locals->b∉X.fs->b∉ch->s.heap.get? b=some o->H b=none->h'.get? b=some o)
  (slot:∀b o,b≠X.env.locals->b∈X.fs->b∉ch->s.heap.get? b=some o->H b=none->∃sl,h'.get? b=some {o with slots:=sl}) (free:∀b o,b∉ch->s.heap.get? b=some o->H b=none->H' b=none)
  (there:∀b o,b∉ch->s.heap.get? b=some o->∃o',h'.get? b=some o')
  (Al:∀b xs,H b=some (.tup xs)->H' b=some (.tup xs)) (A0:∀b o u,H b=some (.yG o u)->H' b=some (.yG o u)) (Bg:∀b ps,H b=some (.Fo ps)->∃more,H' b=some (.Fo (ps++more)))
  (ns:∀m,s.heap.Ns X.env.locals m->h'.Ns X.env.locals m) (wU:zl X.prog X.w H' h') (hg:aet g') :
  Inv X pins σ H' {s with heap:=h',gens:=g',drawn:=d',toks:=t'}:=by
 have Ox:∀b o,X.s₀.heap.get? b=some o->b≠X.env.locals:=λb o e=>aap (aaE (aaj e) I.ok.above)
 have ID:∀b o,X.s₀.heap.get? b=some o->b∉X.ex->b∉ch:=λb o e hx hb=>by
  rcases(Fg b hb).1 with z|z
  .exact hx z
  .exact absurd (aaE (aaj e) z) (aba _)
 have cellK:∀x c,X.env.cells.lookup x=some c->∀v,s.heap.IsCell c v->h'.IsCell c v:=λx c e v ⟨o,ho,hd⟩=>by
  have JH:c∉ch:=λz=>(Fg c z).2.2.1 x c e rfl
  by_cases hc:c∈X.fs
  .obtain⟨sl,q⟩:=slot c o (I.Ik x c e) hc JH ho (I.yA x c e)
   exact⟨_,q,hd⟩
  .exact⟨o,keep c o (I.Ik x c e) hc JH ho (I.yA x c e),hd⟩
 refine⟨I.ok,I.os,hg,⟨λb o e n hb hx=>?_,λb o e n hb hx=>?_,λb o e n hx=>?_,λb o e hx=>?_,λb xs e=>Al b xs (I.base.Al b xs e),λb o xs e=>A0 b o xs (I.base.A0 b o xs e),λb ps e=>?_⟩,?_,λx c e=>?_,?_,λx c e=>?_,λp hp=>?_,wU,I.len⟩
 .exact keep b o (Ox b o e) hb (ID b o e hx) (I.base.keep b o e n hb hx) (I.base.free b o e n hx)
 .obtain⟨sl,e1⟩:=I.base.slot b o e n hb hx
  obtain⟨PZ,e2⟩:=slot b _ (Ox b o e) hb (ID b o e hx) e1 (I.base.free b o e n hx)
  exact⟨PZ,e2⟩
 .obtain⟨o',e1⟩:=I.base.there b o e hx
  exact free b o' (ID b o e hx) e1 (I.base.free b o e n hx)
 .obtain⟨o',e1⟩:=I.base.there b o e hx
  exact there b o' (ID b o e hx) e1
 .obtain⟨m1,e1⟩:=I.base.Bg b ps e
  obtain⟨m2,e2⟩:=Bg b _ e1
  exact⟨m1++m2,by rw[e2,Array.append_assoc]⟩
 .obtain⟨m,hn,hl⟩:=I.loc
  refine⟨m,ns m hn,λi x v e1 e2 e3=>?_⟩
  obtain⟨u,r,l⟩:=hl i x v e1 e2 e3
  refine⟨u,r,?_⟩
  rcases l with l|⟨k,c,e,z⟩
  .exact .inl l
  .exact .inr ⟨k,c,e,cellK x c e _ z⟩
 .obtain⟨v,z⟩:=I.cell x c e
  exact⟨v,cellK x c e v z⟩
 .obtain⟨m,⟨o,_,_,ho,_⟩,_⟩:=I.loc
  exact free _ o (λz=>(Fg _ z).2.1 rfl) ho I.free
 .obtain⟨v,o,ho,hd⟩:=I.cell x c e
  exact free c o (λz=>(Fg c z).2.2.1 x c e rfl) ho (I.yA x c e)
 .obtain⟨e,n,ne,nf,d⟩:=I.pin p hp
  have JH:p.1∉ch:=λz=>(Fg p.1 z).2.2.2 p hp rfl
  exact⟨keep p.1 p.2 ne nf JH e n,free p.1 p.2 JH e n,ne,nf,d⟩
theorem Inv.un(I:Inv X pins σ H s)(u:Un X.fs [] H H' s.heap h')(wU:zl X.prog X.w H' h'):Inv X pins σ H' {s with heap:=h',toks:=t'}:=by
 obtain⟨m,⟨o,es,ep,ho,r⟩,_⟩:=id I.loc
 obtain⟨sl,hL⟩:=u.any ho I.free (by simp)
 exact I.step (g':=s.gens) (d':=s.drawn) (ch:=[]) (λ_ z=>nomatch z) (λb o _ hb _ e n=>u.keep b o e n hb (by simp)) (λb o _ hb _ e n=>u.slot b o e n hb (by simp)) (λb o _ e n=>u.free b o e n (by simp)) (λb o _ e=>u.there b o e (by simp)) u.Al u.A0 u.Bg (λm' hm=>by
  obtain⟨o',Ck,LA,BW,r'⟩:=hm
  rw[ho]at BW;cases BW
  exact⟨_,Ck,LA,hL,r'⟩) wU I.bare
theorem Inv.call{g':Array GenState}{d':Drawn}{ch:List Addr}(I:Inv X pins σ H s)(u:Un (EU X.stack) ch H H' s.heap h')(wU:zl X.prog X.w H' h')(hg:aet g')
  (Fg:∀b∈ch,(b∈X.ex\/X.s₀.heap.objs.size<=b)/\b≠X.env.locals/\(∀x c,X.env.cells.lookup x=some c->c≠b)/\∀p∈X.pn++pins,p.1≠b) :
  Inv X pins σ H' {s with heap:=h',gens:=g',drawn:=d',toks:=t'}:=by
 obtain⟨m,⟨o,es,ep,ho,r⟩,_⟩:=id I.loc
 obtain⟨sl,hL⟩:=u.any ho I.free λz=>(Fg _ z).2.1 rfl
 exact I.step (ch:=ch) Fg (λb o hL hb hc e n=>u.keep b o e n (λz=>(List.mem_cons.mp (I.zM b z)).elim hL hb) hc) (λb o _ _ hc e n=>u.any e n hc) (λb o hc e n=>u.free b o e n hc) (λb o hc e=>u.there b o e hc) u.Al u.A0 u.Bg (λm' hm=>by
  obtain⟨o',Ck,LA,BW,r'⟩:=hm
  rw[ho]at BW;cases BW
  exact⟨_,Ck,LA,hL,r'⟩) wU hg
variable{it:Addr}
theorem Inv.turned(I:Inv X pins σ H s)(k:∀b o,b≠it->s.heap.get? b=some o->h'.get? b=some o)(hn:H it=none)(hL:it≠X.env.locals)
  (h1:it∈X.ex\/X.s₀.heap.objs.size<=it) (h2:∀x c,X.env.cells.lookup x=some c->c≠it) (h3:∀p∈X.pn++pins,p.1≠it):Inv X pins σ H {s with heap:=h',toks:=t'}:=by
 have JG:∀b u,H b=some u->b≠it:=λb u e z=>by rw[z,hn]at e;cases e
 refine I.step (g':=s.gens) (d':=s.drawn) (ch:=[it]) (λb hb=>?_) (λb o _ _ hc e _=>k b o (λz=>hc (by simp[z])) e) (λb o _ _ hc e _=>⟨o.slots,k b o (λz=>hc (by simp[z])) e⟩) (λ_ _ _ _ n=>n)
  (λb o hc e=>⟨o,k b o (λz=>hc (by simp[z])) e⟩) (λ_ _ e=>e) (λ_ _ _ e=>e) (λb ps e=>⟨#[],by rw[e];simp⟩) (λm hm=>?_) (λb u e=>?_) I.bare
 .have e:b=it:=by simpa using hb
  subst e
  exact⟨h1,hL,h2,h3⟩
 .obtain⟨o,es,ep,ho,r⟩:=hm
  exact⟨o,es,ep,k _ o (abv hL) ho,r⟩
 .refine(I.wU b u e).AH (λc v hc q=>k c v ?_ q) (λ_ q=>q) λ_ _ q=>q
  rcases hc with z|z
  .rw[z];exact JG b u e
  .exact JG c _ z
theorem Inv.tok(I:Inv X pins σ H s)(t:Nat):Inv X pins σ H {s with toks:=t}:=I.un (h':=s.heap) (t':=t) Un.refl I.wU
theorem Inv.kept(I:Inv X pins σ H s)(k:∀b u,s.heap.get? b=some u->h'.get? b=some u):Inv X pins σ H {s with heap:=h',toks:=t'}:=I.un (Un.kept k) (I.wU.kept k)
theorem Inv.laid(I:Inv X pins σ H s)(k:∀b u,s.heap.get? b=some u->h'.get? b=some u)(hp:s.heap.objs.size<=a)(new:xa X.prog X.w (upd H a o) h' a o):
  Inv X pins σ (upd H a o) {s with heap:=h',toks:=t'}:=I.un (Un.laid k hp (I.wU.fresh hp)) (I.wU.laid k hp new)
theorem Inv.write(I:Inv X pins σ H s)(mu:KH (H x))(he:e=x\/H e=some (.own x))(k:∀b u,b≠e->s.heap.get? b=some u->h'.get? b=some u)(IK:∃u,h'.get? e=some u)
  (new:xa X.prog X.w (upd H x o) h' x o):Inv X pins σ (upd H x o) {s with heap:=h',toks:=t'}:=I.un (Un.write mu he k IK) (I.wU.write mu he k IK new)
theorem Inv.weak{σ':List (Option V)}(I:Inv X pins σ H s)(hl:σ'.length=σ.length)(w:∀(i:Nat) v,σ'[i]?=some (some v)->σ[i]?=some (some v)):Inv X pins σ' H s :=
 ⟨I.ok,I.os,I.bare,I.base,let ⟨m,hn,Ce⟩:=I.loc;⟨m,hn,λi x v e1 e2 e3=>Ce i x v e1 (w i v e2) e3⟩,I.cell,I.free,I.yA,I.pin,I.wU,hl.trans I.len⟩
theorem Inv.Dk{Gs:List (Addr×Obj)}(I:Inv X pins σ H s)(h:∀p∈Gs,s.heap.get? p.1=some p.2/\H p.1=none/\p.1≠X.env.locals/\p.1∉X.fs/\∀v,p.2.data≠.cell v):Inv X Gs σ H s :=
 ⟨I.ok,I.os,I.bare,I.base,I.loc,I.cell,I.free,I.yA,λp hp=>(List.mem_append.mp hp).elim (λz=>I.pin p (abE _ z)) (h p),I.wU,I.len⟩
variable{N:List Str}{i j:Nat}
theorem lL(hN:N.Nodup){x:Str}(a:N[i]?=some x)(b:N[j]?=some x):i=j:=by
 obtain⟨h1,e1⟩:=List.getElem?_eq_some_iff.mp a
 obtain⟨h2,e2⟩:=List.getElem?_eq_some_iff.mp b
 exact(abx hN).mp (e1.trans e2.symm)
variable{M:Model}{A:Around}{E:Value->Shared->Prop}{v:V}{Q:Unit->Shared->Prop}
theorem j5{x:Str}(I:Inv X pins σ H s)(hN:X.N.Nodup)(hi:X.N[i]?=some x)(hx:Loc X.env.scope x)(r:RelV v u)
  (h:∀s',Inv X pins (σ.set i (some v)) H s'->(∃a,acG a s.heap s'.heap/\(a=X.env.locals\/X.env.cells.lookup x=some a))->Q () s') (hf:X.fn x=true\/X.env.scope.names.lookup x=some .local:=by first|exact .inl rfl|exact .inr rfl|assumption):wpAny M A (storeName X.env x u) Q E s:=by
 obtain⟨m,hn,hl⟩:=id I.loc
 have Nv:(X.env.scope.kind==.class || (X.env.scope.kind==.module && X.env.locals != X.env.globals))=false:=by rw[I.ok.kind];rfl
 have hiσ:i<σ.length:=by rw[I.len];exact(List.getElem?_eq_some_iff.mp hi).1
 have Ik:=I.Ik
 have tracked:∀{a:Addr} {h':Heap},(∃o,s.heap.get? a=some o/\H a=none)->acG a s.heap h'->zl X.prog X.w H h':=λ{a h'} ha hs b ob e=>by
  obtain⟨_,_,Dv⟩:=ha
  refine(I.wU b ob e).AH (λc w' hc q=>(hs.2 c ?_).trans q) (λ_ q=>q) λ_ _ q=>q
  rintro rfl
  rcases hc with rfl|hc
  .rw[Dv]at e;cases e
  .rw[Dv]at hc;cases hc
 rcases hx with hk|hk
 .refine wpAny_storeName_local hk hn (λh' ER hs=>?_) Nv
  obtain⟨oL,_,_,DR,_⟩:=id hn
  refine h _ ⟨I.ok,I.os,I.bare,⟨λb o e n hb hx=>?_,λb o e n hb hx=>?_,I.base.free,λb o e hx=>?_,I.base.Al,I.base.A0,I.base.Bg⟩,⟨_,ER,λj y v' e1 e2 e3=>?_⟩,λy c e=>?_,I.free,I.yA,λp hp=>?_,tracked ⟨oL,DR,I.free⟩ hs,by simpa using I.len⟩ ⟨_,hs,.inl rfl⟩
  .exact(hs.2 b (aap (aaE (aaj e) I.ok.above))).trans (I.base.keep b o e n hb hx)
  .obtain⟨sl,e1⟩:=I.base.slot b o e n hb hx
   exact⟨sl,(hs.2 b (aap (aaE (aaj e) I.ok.above))).trans e1⟩
  .obtain⟨o',e1⟩:=I.base.there b o e hx
   exact⟨o',(hs.2 b (aap (aaE (aaj e) I.ok.above))).trans e1⟩
  .by_cases hj:j=i
   .subst hj
    rw[hi]at e1;cases e1
    rw[abF hiσ]at e2
    cases e2
    exact⟨u,r,.inl ⟨hk,by simp⟩⟩
   .rw[aau (abv hj)]at e2
    obtain⟨u',r',q⟩:=hl j y v' e1 e2 e3
    refine⟨u',r',?_⟩
    rcases q with ⟨k,e⟩|⟨k,c,e,z⟩
    .refine .inl ⟨k,?_⟩
     have:y≠x:=λe=>hj (lL hN e1 (e ▸ hi))
     simp[this,e]
    .exact .inr ⟨k,c,e,z.sameBut hs (Ik y c e)⟩
  .obtain⟨w',z⟩:=I.cell y c e
   exact⟨w',z.sameBut hs (Ik y c e)⟩
  .obtain⟨e,n,ne,nf,d⟩:=I.pin p hp
   exact⟨(hs.2 p.1 ne).trans e,n,ne,nf,d⟩
 .have Nm:X.fn x=true:=by
   rcases hf with z|z
   .exact z
   .rw[z]at hk;cases hk
  obtain⟨c,hc⟩:=I.ok.has x (.inl hk)
  obtain⟨w',z⟩:=I.cell x c hc
  refine wpAny_storeName_cell I.ok.kind hk hc z (λh' Cg hs=>?_)
  obtain⟨oc,IG,M6⟩:=id z
  refine h {s with heap:=h'} ⟨I.ok,I.os,I.bare,⟨λb o e n hb hx=>?_,λb o e n hb hx=>?_,I.base.free,λb o e hx=>?_,I.base.Al,I.base.A0,I.base.Bg⟩,⟨m,hn.sameBut hs (abv (Ik x c hc)),λj y v' e1 e2 e3=>?_⟩,λy c' e=>?_,I.free,I.yA,λp hp=>?_,tracked ⟨oc,IG,I.yA x c hc⟩ hs,by simpa using I.len⟩ ⟨c,hs,.inr hc⟩
  .exact(hs.2 b (aap (aaE (aaj e) (I.ok.Kv x c Nm hc)))).trans (I.base.keep b o e n hb hx)
  .obtain⟨sl,e1⟩:=I.base.slot b o e n hb hx
   exact⟨sl,(hs.2 b (aap (aaE (aaj e) (I.ok.Kv x c Nm hc)))).trans e1⟩
  .obtain⟨o',e1⟩:=I.base.there b o e hx
   exact⟨o',(hs.2 b (aap (aaE (aaj e) (I.ok.Kv x c Nm hc)))).trans e1⟩
  .by_cases hj:j=i
   .subst hj
    rw[hi]at e1;cases e1
    rw[abF hiσ]at e2
    cases e2
    exact⟨u,r,.inr ⟨.inl hk,c,hc,Cg⟩⟩
   .rw[aau (abv hj)]at e2
    obtain⟨u',r',q⟩:=hl j y v' e1 e2 e3
    refine⟨u',r',?_⟩
    rcases q with q|⟨k,c',e,z'⟩
    .exact .inl q
    .refine .inr ⟨k,c',e,z'.sameBut hs ?_⟩
     rintro rfl
     exact hj (lL hN e1 (I.ok.inj _ _ _ e hc ▸ hi))
  .by_cases Nw:c'=c
   .subst Nw;exact⟨_,Cg⟩
   .obtain⟨w2,z2⟩:=I.cell y c' e
    exact⟨w2,z2.sameBut hs Nw⟩
  .obtain⟨e,n,ne,nf,d⟩:=I.pin p hp
   refine⟨(hs.2 p.1 ?_).trans e,n,ne,nf,d⟩
   intro q
   rw[q,IG]at e
   have q':oc=p.2:=aao e
   exact d w' (by rw[<- q'];exact M6)
theorem eZ{x:Str}(I:Inv X pins σ H s)(hN:X.N.Nodup)(hi:X.N[i]?=some x)(hx:Loc X.env.scope x)(r:RelV v u)
  (h:∀s',Inv X pins (σ.set i (some v)) H s'->Q () s') (hf:X.fn x=true\/X.env.scope.names.lookup x=some .local:=by first|exact .inl rfl|exact .inr rfl|assumption):wpAny M A (storeName X.env x u) Q E s :=
 j5 I hN hi hx r (λs' I' _=>h s' I') hf
variable{s':Shared}
theorem Inv.Ku{ch:List Addr}(I:Inv X pins σ H s)(ho:s'.os=s.os)(u:Un (EU X.stack) ch H H' s.heap s'.heap)(wU:zl X.prog X.w H' s'.heap)(hg:aet s'.gens)
  (Fg:∀b∈ch,(b∈X.ex\/X.s₀.heap.objs.size<=b)/\b≠X.env.locals/\(∀x c,X.env.cells.lookup x=some c->c≠b)/\∀p∈X.pn++pins,p.1≠b):Inv X pins σ H' s':=by
 obtain⟨h',g',d',t',o'⟩:=s'
 have e:o'=s.os:=ho
 subst e
 exact I.call (g':=g') (t':=t') (d':=d') u wU hg Fg
abbrev XK:=Value->Option Addr->Hp->Prop
abbrev St:=List (Option V)
abbrev VK:=V->Hp->Prop
abbrev TE:=St->Hp->VK->Prop
abbrev TT:=St->Hp->(Bool->Hp->Prop)->Prop
abbrev TA:=St->Hp->(List V->Hp->Prop)->Prop
structure Ends where
 nx:St->Hp->Prop
 rt:VK
 bk:St->Hp->Prop:=λ_ _=>False
 ct:St->Hp->Prop:=λ_ _=>False
abbrev TS:=Ends->St->Hp->Prop
def EP(X:Cx)(pins:List (Addr×Obj))(σ:St)(Q:VK)(u:Value)(s':Shared):Prop:=∃v H',Inv X pins σ H' s'/\RelV v u/\Q v H'
def TP(X:Cx)(pins:List (Addr×Obj))(σ:St)(Q:Bool->Hp->Prop)(b:Bool)(s':Shared):Prop:=∃H',Inv X pins σ H' s'/\Q b H'
def AP(X:Cx)(pins:List (Addr×Obj))(σ:St)(Q:List V->Hp->Prop)(us:List Value)(s':Shared):Prop:=∃vs H',Inv X pins σ H' s'/\oR vs us/\Q vs H'
def SP(X:Cx)(pins:List (Addr×Obj))(D:Ends)(f:Flow)(s':Shared):Prop :=
 match f with
 |.next=>∃σ' H',Inv X pins σ' H' s'/\D.nx σ' H'
 |.brk=>∃σ' H',Inv X pins σ' H' s'/\D.bk σ' H'
 |.cont=>∃σ' H',Inv X pins σ' H' s'/\D.ct σ' H'
 |.ret u=>∃v σ' H',Inv X pins σ' H' s'/\RelV v u/\D.rt v H'
def PE(X:Cx)(e:Expr)(t:TE):Prop :=
 ∀(pins:List (Addr×Obj)) (s:Shared) (σ:St) (H:Hp) (Q:VK),Inv X pins σ H s->t σ H Q->wpAny (model X.prog X.w) X.A (eval e X.env) (EP X pins σ Q) X.xe s
def PT(X:Cx)(e:Expr)(t:TT):Prop :=
 ∀(pins:List (Addr×Obj)) (s:Shared) (σ:St) (H:Hp) (Q:Bool->Hp->Prop),Inv X pins σ H s->t σ H Q->wpAny (model X.prog X.w) X.A (isTrue e X.env (eval e X.env)) (TP X pins σ Q) X.xe s
def PW(X:Cx)(e:Expr)(t:TT):Prop :=
 ∀(whole:Sem Value) (pins:List (Addr×Obj)) (s:Shared) (σ:St) (H:Hp) (Q:Bool->Hp->Prop),Inv X pins σ H s->t σ H Q->wpAny (model X.prog X.w) X.A (isTrue e X.env whole) (TP X pins σ Q) X.xe s
theorem PW.pt{e:Expr}{t:TT}(h:PW X e t):PT X e t:=h _
def PA(X:Cx)(es:List Expr)(t:TA):Prop :=
 ∀(pos:Pos) (pins:List (Addr×Obj)) (s:Shared) (σ:St) (H:Hp) (Q:List V->Hp->Prop),Inv X pins σ H s->t σ H Q->wpAny (model X.prog X.w) X.A (spliced (backTo pos (aam es X.env))) (AP X pins σ Q) X.xe s
def PS(X:Cx)(st:Stmt)(t:TS):Prop :=
 ∀(pins:List (Addr×Obj)) (s:Shared) (σ:St) (H:Hp) (D:Ends),Inv X pins σ H s->t D σ H->wpAny (model X.prog X.w) X.A (exec st X.env) (SP X pins D) X.xe s
def C3(X:Cx)(st:List Stmt)(t:TS):Prop :=
 ∀(pins:List (Addr×Obj)) (s:Shared) (σ:St) (H:Hp) (D:Ends),Inv X pins σ H s->t D σ H->wpAny (model X.prog X.w) X.A (execs st X.env) (SP X pins D) X.xe s
theorem xH{t:Sem α}{Q Q':α->Shared->Prop}(h:wpAny M A t Q E s)(hQ:∀a s,Q a s->Q' a s):wpAny M A t Q' E s:=aaJ h hQ λ_ _ x=>x
def xx(i:Nat):TE:=λσ H Q=>∃v,σ[i]?=some (some v)/\Q v H
def tC(v:V):TE:=λ_ H Q=>Q v H
variable{pos:Pos}
theorem uX{x:Str}(hN:X.N[i]?=some x)(hv:D3 X.env.scope x)(hd:(x==("__debug__" : Str))=false:=by decide)(hcd:(x==("__classdict__" : Str))=false:=by decide):PE X (.Name x pos) (xx i):=by
 intro pins s σ H Q I h
 obtain⟨v,e,h⟩:=h
 obtain⟨m,hn,hl⟩:=I.loc
 obtain⟨u,r,l⟩:=hl i x v hN e hv
 have fin:EP X pins σ Q u s:=⟨v,H,I,r,h⟩
 rcases l with ⟨hk,hm⟩|⟨hk,c,hc,ze⟩
 .exact aeC (wpAny_loadName_local I.ok.kind hk hn hm fin) hd
 .rcases hk with hk|hk
  .exact aeC (wpAny_loadName_cell I.ok.kind hk hc ze fin) hd
  .exact aeC (wpAny_loadName_free I.ok.kind hk hc ze fin hcd) hd
theorem aB{i j pos}:PE X (.Constant (.int i) j pos) (tC (.int i)):=λ_ _ _ H _ I h=>wpAny_Constant_int ⟨.int i,H,I.tok _,⟨_,rfl⟩,h⟩
theorem wC{b j pos}:PE X (.Constant (.bool b) j pos) (tC (.bl b)):=λ_ _ _ H _ I h=>Constant_bool ⟨.bl b,H,I,rfl,h⟩
theorem u5{j pos}:PE X (.Constant .none j pos) (tC .nE):=λ_ _ _ H _ I h=>Constant_none ⟨.nE,H,I,rfl,h⟩
theorem uZ{x j pos}:PE X (.Constant (.str x) j pos) (tC (.str x)):=λ_ _ _ H _ I h=>Calls.Constant_str ⟨.str x,H,I.tok _,⟨_,rfl⟩,h⟩
def Gl(X:Cx)(x:Str):Prop:=X.env.kindOf x=some .globalImplicit
theorem t5{σ:St}{x:Str}{Q:Value->Shared->Prop}(I:Inv X pins σ H s)(hg:Gl X x)(hm:X.mg x=some u)(h:Q u s)
  (hd:(x==("__debug__" : Str))=false:=by decide):wpAny (model X.prog X.w) X.A (eval (.Name x pos) X.env) Q E s :=
 afp I.ok.kind hg (Calls.loadGlobal_global (by rw[I.ok.glob];exact I.mod.glob.keeps I.bk) hm h) hd
theorem ed{σ:St}{x:Str}{Q:Value->Shared->Prop}(I:Inv X pins σ H s)(hg:Gl X x)(hm:X.mg x=none)(hv:aco x=some u)(h:Q u s)
  (hn:x ≠ "__name__" :=by decide) (hd:(x==("__debug__" : Str))=false:=by decide):wpAny (model X.prog X.w) X.A (eval (.Name x pos) X.env) Q E s:=by
 obtain⟨mb,h1,h2⟩:=I.mod.blt
 exact afp I.ok.kind hg (Calls.loadGlobal_builtin (by rw[I.ok.glob];exact I.mod.glob.keeps I.bk) hm (by rw[I.ok.blt];exact h1.keeps I.bk) ((h2 x hn).trans hv) h) hd
variable{a b:Expr}{ta tb:TE}
variable{tA KR:TT}{rest:List Expr}
def DK(t u:TT):TT:=λσ H Q=>t σ H λc H1=>if c=true then u σ H1 Q else Q false H1
def IA(t u:TT):TT:=λσ H Q=>t σ H λc H1=>if c=true then Q true H1 else u σ H1 Q
def Eo(t:TT):TT:=λσ H Q=>t σ H λc H1=>Q (!c) H1
theorem pw_and1(ha:PT X a tA):PW X (.BoolOp .And [a] pos) tA:=by
 intro wh pins s σ H Q I h
 refine isTrue_and (xH (ha pins s σ H Q I h) λc s1 e=>?_)
 cases c with
 |true=>exact isTrue_and_nil e
 |false=>exact e
theorem pw_or1(ha:PT X a tA):PW X (.BoolOp .Or [a] pos) tA:=by
 intro wh pins s σ H Q I h
 refine isTrue_or (xH (ha pins s σ H Q I h) λc s1 e=>?_)
 cases c with
 |false=>exact isTrue_or_nil e
 |true=>exact e
theorem pw_and(ha:PT X a tA)(hb:PW X (.BoolOp .And (b::rest) pos) KR):PW X (.BoolOp .And (a::b::rest) pos) (DK tA KR):=by
 intro wh pins s σ H Q I h
 refine isTrue_and (xH (ha pins s σ H _ I h) λc s1 ⟨H1,I1,q1⟩=>?_)
 cases c with
 |true=>exact hb wh pins s1 σ H1 Q I1 q1
 |false=>exact⟨H1,I1,q1⟩
theorem pw_or(ha:PT X a tA)(hb:PW X (.BoolOp .Or (b::rest) pos) KR):PW X (.BoolOp .Or (a::b::rest) pos) (IA tA KR):=by
 intro wh pins s σ H Q I h
 refine isTrue_or (xH (ha pins s σ H _ I h) λc s1 ⟨H1,I1,q1⟩=>?_)
 cases c with
 |true=>exact⟨H1,I1,q1⟩
 |false=>exact hb wh pins s1 σ H1 Q I1 q1
theorem uU(ha:PT X a tA):PT X (.UnaryOp .Not a pos) (Eo tA):=by
 intro pins s σ H Q I h
 exact isTrue_not (ha pins s σ H (λc H1=>Q (!c) H1) I h)
def Jj(ta tb:TE):TE:=λσ H Q=>ta σ H λx H1=>∃c,x=.bl c/\if c=true then tb σ H1 Q else Q (.bl false) H1
theorem u4{op}{t:TE}(h:PE X a t):PE X (.BoolOp op [a] pos) t:=λpins s σ H Q I hw=>BoolOp_one (h pins s σ H Q I hw)
theorem u8(ha:PE X a ta)(hb:PE X (.BoolOp .And (b::rest) pos) tb):PE X (.BoolOp .And (a::b::rest) pos) (Jj ta tb):=by
 intro pins s σ H Q I h
 refine BoolOp_and (xH (ha pins s σ H _ I h) λv s1 ⟨x,H1,I1,r1,q1⟩=>?_)
 obtain⟨c,rfl,q1⟩:=q1
 cases r1
 refine adE ?_
 cases c with
 |true=>exact hb pins s1 σ H1 Q I1 q1
 |false=>exact⟨.bl false,H1,I1,rfl,q1⟩
def PY(t:TT)(ta tb:TE):TE:=λσ H Q=>t σ H λc H1=>if c=true then ta σ H1 Q else tb σ H1 Q
variable{c:Expr}
theorem rj(hc:PT X c tA)(ha:PE X a ta)(hb:PE X b tb):PE X (.IfExp c a b pos) (PY tA ta tb):=by
 intro pins s σ H Q I h
 refine wpAny_IfExp (xH (hc pins s σ H _ I h) λd s1 ⟨H1,I1,q1⟩=>?_)
 cases d with
 |true=>exact ha pins s1 σ H1 Q I1 q1
 |false=>exact hb pins s1 σ H1 Q I1 q1
def yf(K:aah)(H:Hp)(a:Addr)(xs:List V):Prop :=
 Rd H a (.lst xs) \/
  ∃(o:Obj) (gE:Array Value) (n:Nat),K.lookup a=some o/\o.cls=.type "list" /\ o.dict=none/\o.data=.seq gE n/\gE.size<=sizeLine/\oR xs gE.toList
def yI(K:aah)(H:Hp)(a:Addr)(xs:List V):Prop :=
 Rd H a (.tup xs) \/
  ∃(o:Obj) (gE:Array Value) (n:Nat),K.lookup a=some o/\o.cls=.type "tuple" /\ o.data=.seq gE n/\gE.size<=sizeLine/\oR xs gE.toList
def NX:Value->Option V
 |.none=>some .nE
 |.bool b=>some (.bl b)
 |.int i _=>some (.int i)
 |.str x _=>some (.str x)
 |.bytes b _=>some (.DZ b)
 |.float b _=>some (.NL b)
 |.ref a=>some (.ref a)
 |.type n=>some (.ty n)
 |_=>none
theorem RelV.abs{x:V}(r:RelV x u):NX u=some x:=by
 cases x with
 |nE=>cases r;rfl
 |bl _=>cases r;rfl
 |int _=>obtain⟨t,rfl⟩:=r;rfl
 |str _=>obtain⟨t,rfl⟩:=r;rfl
 |DZ _=>obtain⟨t,rfl⟩:=r;rfl
 |NL _=>obtain⟨t,rfl⟩:=r;rfl
 |ref _=>cases r;rfl
 |ty _=>cases r;rfl
variable{y:V}
theorem RelV.inj{x:V}(r:RelV x u)(q:RelV y u):x=y:=aao (r.abs.symm.trans q.abs)
theorem oR.inj:∀{xs ys:List V} {us:List Value},oR xs us->oR ys us->xs=ys
 |_,_,_,.nil,.nil=>rfl
 |_,_,_,.cons r t,.cons r' t'=>by rw[r.inj r',oR.inj t t']
variable{σ:St}{a:Addr}{ys:List V}
variable{K:aah}
theorem yf.of(h:H a=some (.lst xs)):yf K H a xs:=.inl (.inl h)
theorem Inv.list(I:Inv X pins σ H s)(h:yf X.K H a xs):∃gE:List Value,oR xs gE/\PlainL s.heap a gE.toArray/\xs.length<=sizeLine:=by
 rcases h with h|⟨o,gE,n,hk,hc,hd,hs,hz,r⟩
 .obtain⟨z,gE,n,r,e⟩:=h.ok I.wU
  exact⟨gE,r,⟨_,n,e,rfl,rfl,rfl⟩,z⟩
 .refine⟨gE.toList,r,⟨o,n,I.Hy a o hk,hc,hd,by simpa using hs⟩,?_⟩
  have e:=r.length
  simp only[aay]at e
  omega
theorem Inv.tuple(I:Inv X pins σ H s)(h:yI X.K H a xs):∃gE:List Value,oR xs gE/\IsTup s.heap a gE.toArray/\xs.length<=sizeLine:=by
 rcases h with h|⟨o,gE,n,hk,hc,hs,hz,r⟩
 .obtain⟨z,gE,r,p⟩:=h.ok I.wU
  exact⟨gE,r,p,z⟩
 .refine⟨gE.toList,r,⟨o,I.Hy a o hk,hc,n,by simpa using hs⟩,?_⟩
  have e:=r.length
  simp only[aay]at e
  omega
theorem Inv.Cb(I:Inv X pins σ H s)(h:yf X.K H a xs)(h':yf X.K H a ys):xs=ys:=by
 obtain⟨gE,r,⟨o,n,e,_,_,d⟩,_⟩:=I.list h
 obtain⟨its',r',⟨o',n',e',_,_,d'⟩,_⟩:=I.list h'
 rw[e]at e';cases e'
 rw[d]at d'
 injection d' with d1 _
 have:gE=its':=by simpa using congrArg Array.toList d1
 subst this
 exact r.inj r'
theorem Inv.zL(I:Inv X pins σ H s)(h:yI X.K H a xs)(h':yI X.K H a ys):xs=ys:=by
 obtain⟨gE,r,⟨o,e,_,n,d⟩,_⟩:=I.tuple h
 obtain⟨its',r',⟨o',e',_,n',d'⟩,_⟩:=I.tuple h'
 rw[e]at e';cases e'
 rw[d]at d'
 injection d' with d1 _
 have:gE=its':=by simpa using congrArg Array.toList d1
 subst this
 exact r.inj r'
abbrev Cx.Bf(X:Cx)(E:Value->Shared->Prop):Cx:={X with xe:=E}
abbrev Cx.EH(X:Cx):Cx:=X.Bf λ_ _=>False
theorem Cx.Ok.Bf(ok:X.Ok)(E:Value->Shared->Prop):(X.Bf E).Ok :=
 ⟨ok.mod,ok.kind,ok.glob,ok.blt,ok.above,ok.inj,ok.has,ok.Kv,ok.hd,ok.frames,ok.KS,ok.O9,ok.bs,ok.GP,ok.EI,ok.FR,ok.AZ,ok.IS⟩
theorem Cx.Ok.y8(ok:(X.Bf E).Ok):X.Ok :=
 ⟨ok.mod,ok.kind,ok.glob,ok.blt,ok.above,ok.inj,ok.has,ok.Kv,ok.hd,ok.frames,ok.KS,ok.O9,ok.bs,ok.GP,ok.EI,ok.FR,ok.AZ,ok.IS⟩
theorem Inv.Bf(I:Inv X pins σ H s)(E:Value->Shared->Prop):Inv (X.Bf E) pins σ H s:=⟨I.ok.Bf E,I.os,I.bare,I.base,I.loc,I.cell,I.free,I.yA,I.pin,I.wU,I.len⟩
theorem Inv.y8(I:Inv (X.Bf E) pins σ H s):Inv X pins σ H s:=⟨I.ok.y8,I.os,I.bare,I.base,I.loc,I.cell,I.free,I.yA,I.pin,I.wU,I.len⟩
theorem SP.y8{D:Ends}{f:Flow}(h:SP (X.Bf E) pins D f s'):SP X pins D f s':=by
 cases f with
 |next=>obtain⟨σ',H',I,q⟩:=h;exact⟨σ',H',I.y8,q⟩
 |brk=>obtain⟨σ',H',I,q⟩:=h;exact⟨σ',H',I.y8,q⟩
 |cont=>obtain⟨σ',H',I,q⟩:=h;exact⟨σ',H',I.y8,q⟩
 |ret u=>obtain⟨v,σ',H',I,r,q⟩:=h;exact⟨v,σ',H',I.y8,r,q⟩
theorem C3.EH{st:List Stmt}{t:TS}(h:C3 X.EH st t):C3 X st t:=λpins s σ H D I hw=>
 aaJ (h pins s σ H D (I.Bf _) hw) (λ_ _ q=>q.y8) λ_ _ z=>acH z
variable{st:Stmt}{rest:List Stmt}{t u:TS}{e:Expr}{te:TE}
def Gf:TS:=λD σ H=>D.nx σ H
def Em(t u:TS):TS:=λD σ H=>t {D with nx:=u D} σ H
theorem m6:C3 X [] Gf:=λ_ _ σ H _ I h=>ad0 ⟨σ,H,I,h⟩
theorem bE(h1:PS X st t)(h2:C3 X rest u):C3 X (st::rest) (Em t u):=by
 intro pins s σ H D I h
 refine wpAny_execs_cons (xH (h1 pins s σ H {D with nx:=u D} I h) λf s1 q=>?_)
 cases f with
 |next=>
  obtain⟨σ',H',I',q⟩:=q
  exact h2 pins s1 σ' H' D I' q
 |ret v=>exact q
 |brk=>exact q
 |cont=>exact q
theorem cR(h1:PS X st t):C3 X [st] t:=by
 intro pins s σ H D I h
 refine wpAny_execs_cons (xH (h1 pins s σ H D I h) λf s1 q=>?_)
 cases f with
 |next=>exact ad0 q
 |ret v=>exact q
 |brk=>exact q
 |cont=>exact q
theorem Inv.quiet(I:Inv X pins σ H s):interactive X.env=false:=by simp[interactive,I.ok.kind]
def Je(te:TE):TS:=λD σ H=>te σ H λ_ H1=>D.nx σ H1
theorem ga(he:PE X e te)(hs:ab1 e none pos.line X.env=pure false:=by rfl):PS X (.Expr e pos) (Je te):=by
 intro pins s σ H D I h
 exact wpAny_Expr_any (xH (he pins s σ H _ I h) λv s1 ⟨x,H1,I1,r1,q1⟩=>⟨σ,H1,I1,q1⟩) I.quiet hs
def G2(te:TE):TS:=λD σ H=>te σ H D.rt
theorem cZ(he:PE X e te):PS X (.Return (some e) pos) (G2 te):=by
 intro pins s σ H D I h
 exact wpAny_Return_some (xH (he pins s σ H _ I h) λv s1 ⟨x,H1,I1,r1,q1⟩=>⟨x,σ,H1,I1,r1,q1⟩)
def Jd(c:TT)(t u:TS):TS:=λD σ H=>c σ H λb H1=>if b=true then t D σ H1 else u D σ H1
theorem sx{a b:List Stmt}{tc:TT}(hc:PT X c tc)(ha:C3 X a t)(hb:C3 X b u):PS X (.If c a b pos) (Jd tc t u):=by
 intro pins s σ H D I h
 refine wpAny_If (xH (hc pins s σ H _ I h) λd s1 ⟨H1,I1,q1⟩=>?_)
 cases d with
 |true=>exact ha pins s1 σ H1 D I1 q1
 |false=>exact hb pins s1 σ H1 D I1 q1
abbrev TG:=V->St->Hp->(St->Hp->Prop)->Prop
abbrev Ed:=List V->St->Hp->(St->Hp->Prop)->Prop
def PG(X:Cx)(target:Expr)(t:TG):Prop :=
 ∀(pins:List (Addr×Obj)) (s:Shared) (σ:St) (H:Hp) (v:V) (u:Value) (Q:St->Hp->Prop),Inv X pins σ H s->RelV v u->t v σ H Q ->
  wpAny (model X.prog X.w) X.A (assign target X.env u) (λ_ s'=>∃σ' H',Inv X pins σ' H' s'/\Q σ' H') X.xe s
def KC(X:Cx)(ts:List Expr)(t:Ed):Prop :=
 ∀(pins:List (Addr×Obj)) (s:Shared) (σ:St) (H:Hp) (vs:List V) (us:List Value) (Q:St->Hp->Prop),Inv X pins σ H s->oR vs us->t vs σ H Q ->
  wpAny (model X.prog X.w) X.A (assignInOrder ((aci ts X.env).map (·.2)) us) (λ_ s'=>∃σ' H',Inv X pins σ' H' s'/\Q σ' H') X.xe s
abbrev E6:=V->V->V->Hp->(Hp->Prop)->Prop
def Cr(X:Cx)(t:E6):Prop :=
 ∀(pins:List (Addr×Obj)) (s:Shared) (σ:St) (H:Hp) (o i v:V) (ov iv u:Value) (Q:Hp->Prop),Inv X pins σ H s->RelV o ov->RelV i iv->RelV v u->t o i v H Q ->
  wpAny (model X.prog X.w) X.A (setItem ov iv u) (λ_ s'=>∃H',Inv X pins σ H' s'/\Q H') X.xe s
def yL(i:Nat):TG:=λv σ H Q=>Q (σ.set i (some v)) H
theorem aI{x:Str}(hN:X.N.Nodup)(hi:X.N[i]?=some x)(hx:Loc X.env.scope x)(hf:X.fn x=true\/X.env.scope.names.lookup x=some .local:=by first|exact .inl rfl|exact .inr rfl|assumption):PG X (.Name x pos) (yL i):=by
 intro pins s σ H v u Q I r h
 exact wpAny_assign_Name (eZ I hN hi hx r (λs' I'=>⟨_,H,I',h⟩) hf)
def HX:Ed:=λvs σ H Q=>vs=[]/\Q σ H
def Cj(t:TG)(u:Ed):Ed:=λvs σ H Q=>∃v r,vs=v::r/\t v σ H λσ' H'=>u r σ' H' Q
theorem na:KC X [] HX:=by
 intro pins s σ H vs us Q I r h
 obtain⟨e,h⟩:=h
 subst e
 cases r
 exact assignInOrder_nil ⟨σ,H,I,h⟩
theorem hV{es:List Expr}{t:TG}{u:Ed}(h1:PG X e t)(h2:KC X es u)
  (hs:(aci (e::es) X.env).map (·.2)=assign e X.env::(aci es X.env).map (·.2):=by rfl):KC X (e::es) (Cj t u):=by
 intro pins s σ H vs us Q I r h
 obtain⟨v,vr,e1,h⟩:=h
 subst e1
 cases r with
 |cons r rr=>
  rw[hs]
  refine aew (xH (h1 pins s σ H _ _ _ I r h) λ_ s1 ⟨σ1,H1,I1,q1⟩=>?_)
  exact h2 pins s1 σ1 H1 _ _ Q I1 rr q1
def HV(K:aah)(n:Nat)(t:Ed):TG:=λv σ H Q=>∃a xs,v=.ref a/\yI K H a xs/\xs.length=n/\t xs σ H Q
variable{k n:Nat}
theorem pI{es:List Expr}{t:Ed}(hc:X.calm=true)(h:KC X es t)
  (hn:(aci es X.env).length=n:=by rfl) (Bv:(aci es X.env).findIdx? (·.1)=none:=by rfl):PG X (.Tuple es k pos) (HV X.K n t):=by
 intro pins s σ H v u Q I r hw
 obtain⟨a,xs,e1,hq,hl,hw⟩:=hw
 subst e1
 cases r
 obtain⟨gE,rv,ht,hz⟩:=I.tuple hq
 refine assign_Tuple_tuple (I.ok.hd hc) ht (by simp[hn,<- hl,rv.length]) Bv λh' hx=>?_
 have I1:Inv X pins σ H {s with heap:=h'}:=I.kept (t':=s.toks) λb o e=>hx b o (aap (aaj e)) e
 exact h pins _ σ H xs _ Q I1 (by simpa using rv) hw
def HW(to ti:TE)(t:E6):TG:=λv σ H Q=>to σ H λo H1=>ti σ H1 λi H2=>t o i v H2 λH3=>Q σ H3
variable{to:TE}
theorem lC{o i:Expr}{ti:TE}{t:E6}(ho:PE X o to)(hi:PE X i ti)(hs:Cr X t)
  (ha:∀v,assign (.Subscript o i pos) X.env v=(do
   let ov <- adg [v] (eval o X.env)
   let iv <- adg [v,ov] (eval i X.env)
   standAt pos
   adg [v,ov,iv] (setItem ov iv v)
   release [v,ov,iv] []):=by intro _;rfl):PG X (.Subscript o i pos) (HW to ti t):=by
 intro pins s σ H v u Q I r h
 rw[ha]
 refine aab (aaN (xH (ho pins s σ H _ I h) λov s1 ⟨x,H1,I1,r1,q1⟩=>?_))
 refine aab (aaN (xH (hi pins s1 σ H1 _ I1 q1) λiv s2 ⟨y,H2,I2,r2,q2⟩=>?_))
 refine aab (acJ (aab (aaN (xH (hs pins s2 σ H2 x y v ov iv u _ I2 r1 r2 r q2) λ_ s3 ⟨H3,I3,q3⟩=>?_))))
 exact wpAny_release ⟨σ,H3,I3,q3⟩
def DJ(te:TE)(g:TG):TS:=λD σ H=>te σ H λx H1=>g x σ H1 D.nx
variable{tg:Expr}
theorem iO{g:TG}(he:PE X e te)(hg:PG X tg g)(hs:adM [tg] e pos.line X.env=pure false:=by rfl)(hw:adN [tg] e X.env=pure none:=by rfl)
  (h1:(aci [tg] X.env).map (·.2)=[assign tg X.env]:=by rfl):PS X (.Assign [tg] e pos) (DJ te g):=by
 intro pins s σ H D I h
 refine wpAny_Assign_stores (xH (he pins s σ H _ I h) λv s1 ⟨x,H1,I1,r1,q1⟩=>?_) hs hw
 rw[h1]
 exact xH (hg pins s1 σ H1 x v _ I1 r1 q1) λ_ s2 q=>q
variable{pos':Pos}
theorem cY{x:Str}(hN:X.N.Nodup)(hi:X.N[i]?=some x)(hx:Loc X.env.scope x)(he:PE X e te)(hs:ab1 e (some (.Name x pos')) pos.line X.env=pure false:=by rfl)(hf:X.fn x=true\/X.env.scope.names.lookup x=some .local:=by first|exact .inl rfl|exact .inr rfl|assumption):
  PS X (.Assign [.Name x pos'] e pos) (DJ te (yL i)):=by
 intro pins s σ H D I h
 refine wpAny_Assign_Name (xH (he pins s σ H _ I h) λv s1 ⟨y,H1,I1,r1,q1⟩=>?_) hs
 exact eZ I1 hN hi hx r1 (λs2 I2=>⟨_,H1,I2,q1⟩) hf
def Me(i j:Nat)(ta:TA):TS:=λD σ H=>ta σ H λvs H1=>∃v w,vs=[v,w]/\D.nx ((σ.set i (some v)).set j (some w)) H1
theorem uV{x y:Str}{a:Expr}{ta:TA}{px py pt:Pos}{kt k2 pt2}(hc:X.calm=true)(hN:X.N.Nodup)(hi:X.N[i]?=some x)(hj:X.N[j]?=some y)(Ae:i≠j)
  (hx:X.env.scope.names.lookup x=some .local) (hy:X.env.scope.names.lookup y=some .local) (ha:PA X [a,b] ta)
  (hw:adN [.Tuple [.Name x px,.Name y py] kt pt] (.Tuple [a,b] k2 pt2) X.env=pure (some [x,y]))
  (hs:adM [.Tuple [.Name x px,.Name y py] kt pt] (.Tuple [a,b] k2 pt2) pos.line X.env=pure false:=by rfl) :
  PS X (.Assign [.Tuple [.Name x px,.Name y py] kt pt] (.Tuple [a,b] k2 pt2) pos) (Me i j ta):=by
 intro pins s σ H D I h
 rw[exec_Assign_arm]
 refine aab (acJ ?_)
 rw[hs]
 refine aab (aaf ?_)
 rw[if_neg (by decide)]
 refine aab (Tuple_ (xH (ha _ pins s σ H _ I h) λus s1 ⟨vs,H1,I1,r1,q1⟩=>?_))
 obtain⟨v,w,e1,q1⟩:=q1
 subst e1
 obtain⟨u1,u2,rfl,rv,AA⟩:∃u1 u2,us=[u1,u2]/\RelV v u1/\RelV w u2:=by
  cases r1 with
  |cons p q=>
   cases q with
   |cons p' q'=>
    cases q'
    exact⟨_,_,rfl,p,p'⟩
 refine abi ?_ (by show 2<=sizeLine;decide)
 have I2:Inv X pins σ H1 {s1 with heap:=s1.heap.push {cls:=.type "tuple",data:=.seq [u1,u2].toArray}}:=I1.kept (t':=s1.toks) λb o e=>aac _ e
 rw[hw]
 refine aab (aaf ?_)
 show wpAny (model X.prog X.w) X.A (do rule "assign.swapped-stores"; let items <- unpackItems (.ref s1.heap.objs.size) 2 none;assignInOrder [λv=>bindName X.env y v,λv=>bindName X.env x v] items.reverse;pure Flow.next) _ _ _
 refine aab (adc (aab (unpackItems_tuple (items:=#[u1,u2]) (I.ok.hd hc) (IsTup.new s1.heap _) λh' Lm=>?_)))
 have I3:=I2.kept (h':=h') (t':=s1.toks) λb o e=>Lm b o (aap (aaj e)) e
 show wpAny _ _ (assignInOrder [λv=>bindName X.env y v,λv=>bindName X.env x v] [u2,u1] >>= λ_=>pure Flow.next) _ _ _
 refine aab (aew (wpAny_bindName (eZ I3 hN hj (.inl hy) AA (λs2 I4=>?_) (.inr hy))))
 refine aew (wpAny_bindName (eZ I4 hN hi (.inl hx) rv (λs3 I5=>assignInOrder_nil (aaf ?_)) (.inr hx)))
 rw[List.set_comm _ _ (abv Ae)]at I5
 exact⟨_,H1,I5,q1⟩
def G0(c:TT)(tb:TS):TS:=λD σ H=>∃W:Nat->St->Hp->Prop,(∃m,W m σ H)/\∀m σ H,W m σ H ->
 c σ H λb H1=>if b=true then ∃N:St->Hp->Prop,(∀σ' H',N σ' H'->∃m',m'<m/\W m' σ' H')/\tb {D with nx:=N,ct:=N,bk:=D.nx} σ H1 else D.nx σ H1
variable{body:List Stmt}
theorem lw{tc:TT}{tb:TS}(hp:PassesOwn (model X.prog X.w) X.A X.env X.xe)(hc:PT X c tc)(hb:C3 X body tb):PS X (.While c body [] pos) (G0 tc tb):=by
 intro pins s σ H D I h
 obtain⟨W,⟨m0,w0⟩,turn⟩:=h
 refine wpAny_While (codeAny_whileLoop (λn s'=>∃σ' H',Inv X pins σ' H' s'/\W n σ' H') ?_ m0 ⟨σ,H,I,w0⟩)
 rintro n s1 ⟨σ1,H1,I1,w1⟩
 refine acm hp (xH (hc pins s1 σ1 H1 _ I1 (turn n σ1 H1 w1)) λb s2 ⟨H2,I2,q2⟩=>?_)
 cases b with
 |true=>
  obtain⟨N,hN,q2⟩:=q2
  rw[if_pos rfl]
  refine acm hp (xH (hb pins s2 σ1 H2 _ I2 q2) λf s3 q3=>?_)
  cases f with
  |next=>
   obtain⟨σ3,H3,I3,n3⟩:=q3
   obtain⟨m',hm,w3⟩:=hN σ3 H3 n3
   exact⟨m',hm,σ3,H3,I3,w3⟩
  |cont=>
   obtain⟨σ3,H3,I3,n3⟩:=q3
   obtain⟨m',hm,w3⟩:=hN σ3 H3 n3
   exact⟨m',hm,σ3,H3,I3,w3⟩
  |brk=>exact q3
  |ret v=>exact q3
 |false=>
  rw[if_neg aaz]
  exact ad0 ⟨σ1,H2,I2,q2⟩
structure It where
 go:Nat->Hp->Prop
 yld:Nat->Hp->V->Hp->Prop
 stop:Nat->Hp->Prop
def zJ(X:Cx)(pins:List (Addr×Obj))(H:Hp)(b:Addr):Prop :=
 H b=none/\b≠X.env.locals/\b∉X.fs/\(b∈X.ex\/X.s₀.heap.objs.size<=b)/\(∀x c,X.env.cells.lookup x=some c->c≠b)/\∀p∈X.pn++pins,p.1≠b
theorem Inv.DW{b:Addr}(I:Inv X pins σ H s)(hb:s.heap.objs.size<=b)(hn:H' b=none):zJ X pins H' b:=by
 refine⟨hn,aca (aaE I.lt hb),I.My hb,.inr (aaX I.sz hb),λx c e z=>?_,λp hp z=>?_⟩
 .obtain⟨v,q⟩:=I.cell x c e
  exact absurd (aaE q.lt (by rw[z];exact hb)) (aba _)
 .exact absurd (aaE (aaj (I.pin p hp).1) (by rw[z];exact hb)) (aba _)
structure Turn(P:aaB)(w:World)(K:aah)(tg:Expr)(J:It)(fp:List Addr)(it:Addr)(tn:Nat->Heap->Prop):Prop where
 mem:it∈fp
 obj:∀i h,tn i h->∀b∈fp,∃o,h.get? b=some o/\∀v,o.data≠.cell v
 keep:∀i h h',tn i h->(∀b∈fp,∀o,h.get? b=some o->h'.get? b=some o)->tn i h'
 item:∀(X:Cx),X.prog=P->X.w=w->X.K=K->X.calm=true->∀(i:Nat) (pins:List (Addr×Obj)) (s:Shared) (σ:St) (H:Hp) (E:Value->Shared->Prop),Inv X pins σ H s->(∀b∈fp,zJ X pins H b)->tn i s.heap->J.go i H ->
  wpAny (model P w) X.A (pyNext (.ref it)) (λr s1=>∃u,r=some u /\
   wpAny (model P w) X.A (afb tg (.ref it) u) (λ_ s2=>∃x H',Inv X pins σ H' s2/\RelV x u/\J.yld i H x H'/\tn (i+1) s2.heap/\∀b∈fp,H' b=none) E s1) E s
 done:∀(X:Cx),X.prog=P->X.w=w->X.K=K->X.calm=true->∀(i:Nat) (pins:List (Addr×Obj)) (s:Shared) (σ:St) (H:Hp) (E:Value->Shared->Prop),Inv X pins σ H s->(∀b∈fp,zJ X pins H b)->tn i s.heap->J.stop i H ->
  wpAny (model P w) X.A (pyNext (.ref it)) (λr s1=>r=none/\Inv X pins σ H s1) E s
 self:∀(A:Around) (i:Nat) (s:Shared) (Q:Value->Shared->Prop) (E:Value->Shared->Prop),tn i s.heap->Q (.ref it) s->wpAny (model P w) A (pyIter (.ref it)) Q E s
abbrev TI:=St->Hp->(It->Hp->Prop)->Prop
def Pk(X:Cx)(pins:List (Addr×Obj))(σ:St)(tg:Expr)(R:It->Hp->Prop)(Lf:Value)(s2:Shared):Prop :=
 ∃(it:Addr) (fp:List Addr) (tn:Nat->Heap->Prop) (J:It) (H':Hp),Lf=.ref it/\Inv X pins σ H' s2/\Turn X.prog X.w X.K tg J fp it tn/\tn 0 s2.heap/\(∀b∈fp,zJ X pins H' b)/\R J H'
def PI(X:Cx)(tg iter:Expr)(wi:TI):Prop :=
 ∀(pins:List (Addr×Obj)) (s:Shared) (σ:St) (H:Hp) (R:It->Hp->Prop),Inv X pins σ H s->wi σ H R ->
  wpAny (model X.prog X.w) X.A (eval iter X.env) (λv s1=>wpAny (model X.prog X.w) X.A (pyIter v) (Pk X pins σ tg R) X.xe s1) X.xe s
theorem kW{u:Value}{o:Obj}{n:String}{vs:Array Value}(ho:s.heap.get? it=some o)(hc:o.cls=.type n)(hd:o.data=.fields vs)
  (hn:["enumerate", "zip", "dict_itemiterator", "dict_reverseitemiterator", "odict_iterator", "itertools.zip_longest", "itertools.pairwise"].contains n=false) (hQ:Q () s):wpAny M A (afb tg (.ref it) u) Q E s:=by
 unfold afb
 cases tg<;>first
  |exact aaf hQ
  |(cases u<;>first
    |exact aaf hQ
    |(
      refine aab (wpAny_load ho ?_)
      rw[hc,hd]
      show wpAny M A (if (["enumerate", "zip", "dict_itemiterator", "dict_reverseitemiterator", "odict_iterator", "itertools.zip_longest", "itertools.pairwise"].contains n && vs[0]?==some (rawInt _))=true then _ else _) Q E s
      rw[if_neg (by intro h;rw[hn,afy]at h;cases h)]
      exact aaf hQ))
def Fm(K:aah)(a:Addr):It :=
 ⟨λi H=>∃xs x,yf K H a xs/\xs[i]?=some x,λi H x H'=>H'=H/\∀xs,yf K H a xs->xs[i]?=some x,λi H=>∃xs,yf K H a xs/\xs.length<=i⟩
def N1(K:aah)(a:Addr):It :=
 ⟨λi H=>∃xs x,yI K H a xs/\xs[i]?=some x,λi H x H'=>H'=H/\∀xs,yI K H a xs->xs[i]?=some x,λi H=>∃xs,yI K H a xs/\xs.length<=i⟩
def LI(lo:Int)(n:Nat):It:=⟨λi _=>i<n,λi H x H'=>H'=H/\x=.int (lo+i),λi _=>n<=i⟩
theorem j4(a it:Addr):Turn P w K tg (Fm K a) [it] it (λi h=>h.IsListIter it a i) where
 mem:=by simp
 obj:=λi h st b hb=>by
  have e:b=it:=by simpa using hb
  subst e
  obtain⟨o,e,c,d⟩:=st
  exact⟨o,e,λv z=>by rw[d]at z;cases z⟩
 keep:=λi h h' st k=>st.at λo e=>k it (by simp) o e
 item:=by
  intro X hP hw hK hc i pins s σ H E I hf st hg
  subst hP hw hK
  obtain⟨xs,x,hq,hx⟩:=hg
  obtain⟨gE,rv,p,hz⟩:=I.list hq
  obtain⟨u,hu,ru⟩:=rv.get hx
  obtain⟨f0,f1,f2,f3,f4,f5⟩:=hf it (by simp)
  refine acP st p.isList (x:=u) (by simpa using hu) λh' BE sb=>?_
  have I1:Inv X pins σ H {s with heap:=h'}:=I.turned (t':=s.toks) (λb o hb e=>(sb.2 b hb).trans e) f0 f1 f3 f4 f5
  obtain⟨o,e,c,d⟩:=id BE
  exact⟨u,rfl,kW (s:={s with heap:=h'}) e c d (by decide) ⟨x,H,I1,ru,⟨rfl,λys hy=>by rw[I.Cb hy hq];exact hx⟩,BE,λb hb=>(hf b hb).1⟩⟩
 done:=by
  intro X hP hw hK hc i pins s σ H E I hf st hg
  subst hP hw hK
  obtain⟨xs,hq,hx⟩:=hg
  obtain⟨gE,rv,p,hz⟩:=I.list hq
  obtain⟨f0,f1,f2,f3,f4,f5⟩:=hf it (by simp)
  have hl:=rv.length
  exact ac3 (I.ok.hd hc) st p.isList (by simp;omega) λh' eb=>⟨rfl,I.turned (t':=s.toks) (λb o hb e=>eb b o hb e) f0 f1 f3 f4 f5⟩
 self:=λ_ _ _ _ _ st h=>wpAny_pyIter_listiter st h
theorem n5(a it:Addr):Turn P w K tg (N1 K a) [it] it (λi h=>h.IsTupleIter it a i) where
 mem:=by simp
 obj:=λi h st b hb=>by
  have e:b=it:=by simpa using hb
  subst e
  obtain⟨o,e,c,d⟩:=st
  exact⟨o,e,λv z=>by rw[d]at z;cases z⟩
 keep:=λi h h' st k=>st.at λo e=>k it (by simp) o e
 item:=by
  intro X hP hw hK hc i pins s σ H E I hf st hg
  subst hP hw hK
  obtain⟨xs,x,hq,hx⟩:=hg
  obtain⟨gE,rv,p,hz⟩:=I.tuple hq
  obtain⟨u,hu,ru⟩:=rv.get hx
  obtain⟨f0,f1,f2,f3,f4,f5⟩:=hf it (by simp)
  refine wpAny_pyNext_tuple_item st (show s.heap.IsTuple a gE.toArray from p) (x:=u) (by simpa using hu) λh' BE sb=>?_
  have I1:Inv X pins σ H {s with heap:=h'}:=I.turned (t':=s.toks) (λb o hb e=>(sb.2 b hb).trans e) f0 f1 f3 f4 f5
  obtain⟨o,e,c,d⟩:=id BE
  exact⟨u,rfl,kW (s:={s with heap:=h'}) e c d (by decide) ⟨x,H,I1,ru,⟨rfl,λys hy=>by rw[I.zL hy hq];exact hx⟩,BE,λb hb=>(hf b hb).1⟩⟩
 done:=by
  intro X hP hw hK hc i pins s σ H E I hf st hg
  subst hP hw hK
  obtain⟨xs,hq,hx⟩:=hg
  obtain⟨gE,rv,p,hz⟩:=I.tuple hq
  obtain⟨f0,f1,f2,f3,f4,f5⟩:=hf it (by simp)
  have hl:=rv.length
  exact wpAny_pyNext_tuple_end (I.ok.hd hc) st (show s.heap.IsTuple a gE.toArray from p) (by simp;omega) λh' eb=>⟨rfl,I.turned (t':=s.toks) (λb o hb e=>eb b o hb e) f0 f1 f3 f4 f5⟩
 self:=λ_ _ _ _ _ st h=>wpAny_pyIter_tupleiter st h
theorem n6(it:Addr)(lo:Int)(n:Nat):Turn P w K tg (LI lo n) [it] it (λi h=>IsRangeIter h it (lo+(i:Nat)*1) ((n:Int) - (i:Nat)) 1) where
 mem:=by simp
 obj:=λi h st b hb=>by
  have e:b=it:=by simpa using hb
  subst e
  exact⟨_,st,λv z=>by
   have z':adS _=Data.cell v:=z
   cases z'⟩
 keep:=λi h h' st k=>k it (by simp) _ st
 item:=by
  intro X hP hw hK hc i pins s σ H E I hf st hg
  subst hP hw hK
  obtain⟨f0,f1,f2,f3,f4,f5⟩:=hf it (by simp)
  have W:=Walks.range (prog:=X.prog) (w:=X.w) (I.ok.hd hc) it lo 1 n
  refine W.item i s _ _ hg st λv h' tk hv BE kk=>?_
  obtain⟨t,rfl⟩:=hv
  have I1:Inv X pins σ H {s with heap:=h',toks:=tk}:=I.turned (λb o hb e=>kk b o (by simpa using hb) e) f0 f1 f3 f4 f5
  refine⟨_,rfl,kW (s:={s with heap:=h',toks:=tk}) (n := "range_iterator") BE rfl rfl (by decide) ⟨.int (lo+i),H,I1,⟨t,?_⟩,⟨rfl,rfl⟩,BE,λb hb=>(hf b hb).1⟩⟩
  rw[Int.mul_one]
 done:=by
  intro X hP hw hK hc i pins s σ H E I hf st hg
  subst hP hw hK
  obtain⟨f0,f1,f2,f3,f4,f5⟩:=hf it (by simp)
  exact wpAny_pyNext_range_end (I.ok.hd hc) st (by have:n<=i:=hg;omega) λh' eb=>⟨rfl,I.turned (t':=s.toks) (λb o hb e=>eb b o hb e) f0 f1 f3 f4 f5⟩
 self:=λ_ _ _ _ _ st h=>wpAny_pyIter_rangeiter st h
def JY(K:aah)(tl:TE):TI:=λσ H R=>tl σ H λx H1=>∃a,x=.ref a/\(∃xs,yf K H1 a xs)/\R (Fm K a) H1
theorem m8{l:Expr}{tl:TE}(hl:PE X l tl):PI X tg l (JY X.K tl):=by
 intro pins s σ H R I h
 refine xH (hl pins s σ H _ I h) λv s1 ⟨x,H1,I1,r1,q1⟩=>?_
 obtain⟨a,e,⟨xs,hq⟩,q⟩:=q1
 subst e
 cases r1
 obtain⟨gE,rv,p,hz⟩:=I1.list hq
 refine acU p.isList ?_
 refine⟨s1.heap.objs.size,[s1.heap.objs.size],_,_,H1,rfl,I1.kept (t':=s1.toks) λb o e=>aac _ e,j4 a _,⟨_,aal _ rfl,rfl,rfl⟩,λb hb=>?_,q⟩
 have e:b=s1.heap.objs.size:=by simpa using hb
 subst e
 exact I1.DW (aak _) (I1.wU.fresh (aak _))
theorem qW{R:It->Hp->Prop}{lo hi:Int}{t u v:Tok}{tk:Nat}(I:Inv X pins σ H s)(h1 : -(2 ^ 62)<=lo)(h2:lo<2 ^ 62)(h3 : -(2 ^ 62)<=hi)(h4:hi<2 ^ 62)
  (q:R (LI lo (hi - lo).toNat) H):wpAny (model X.prog X.w) X.A (pyIter (.ref s.heap.objs.size)) (Pk X pins σ tg R) E {s with heap:=s.heap.push {cls:=.type "range",data:=.fields #[.int lo t,.int hi u,.int 1 v]},toks:=tk}:=by
 refine wpAny_pyIter_range (IsRange.new ..) (small_one h1 h2 h3 h4) ?_
 have I1:Inv X pins σ H {s with heap:=s.heap.push {cls:=.type "range",data:=.fields #[.int lo t,.int hi u,.int 1 v]},toks:=tk}:=I.kept λb o e=>aac _ e
 refine⟨(s.heap.push {cls:=.type "range",data:=.fields #[.int lo t,.int hi u,.int 1 v]}).objs.size,[(s.heap.push {cls:=.type "range",data:=.fields #[.int lo t,.int hi u,.int 1 v]}).objs.size],_,_,H,rfl,
  I1.kept (t':=tk) λb o e=>aac _ e,n6 _ lo (hi - lo).toNat,?_,λb hb=>?_,q⟩
 .have e1:lo+((0:Nat):Int)*1=lo:=by simp
  have e2:(((hi - lo).toNat:Nat):Int) - ((0:Nat):Int)=Builtin.Range.rangeSize lo hi 1:=by rw[rangeSize_one];split<;>omega
  show IsRangeIter _ _ (lo+((0:Nat):Int)*1) ((((hi - lo).toNat:Nat):Int) - ((0:Nat):Int)) 1
  rw[e1,e2]
  exact aal _ rfl
 .have e:b=(s.heap.push {cls:=.type "range",data:=.fields #[.int lo t,.int hi u,.int 1 v]}).objs.size:=by simpa using hb
  subst e
  exact I1.DW (aak _) (I1.wU.fresh (aak _))
def JX(ta:TA):TI:=λσ H R=>ta σ H λvs H1=>∃j:Int,vs=[.int j] /\ -(2 ^ 62)<=j/\j<2 ^ 62/\R (LI 0 j.toNat) H1
theorem pH{a:Expr}{ta:TA}{p:Pos}(hg:Gl X "range")(hm:X.mg "range" = none)(ha:PA X [a] ta)(hs:aam [a] X.env=[(false,eval a X.env)]:=by rfl):PI X tg (.Call (.Name "range" p) [a] [] pos) (JX ta):=by
 intro pins s σ H R I h
 refine Call_ (ed I hg hm boot_range (afh (xH (ha pos pins s σ H _ I h) λus s1 ⟨vs,H1,I1,r1,q1⟩=>?_) hs rfl))
 obtain⟨j,e,q1,q2,q⟩:=q1
 subst e
 cases r1 with
 |cons r rr=>
  cases rr
  obtain⟨t,rfl⟩:=r
  exact call_range_1 (qW I1 (by omega) (by omega) q1 q2 (by simpa using q))
def Mf(wi:TI)(g:TG)(tb:TS):TS:=λD σ H=>wi σ H λJ H1=>∃W:Nat->Nat->St->Hp->Prop,(∃m,W 0 m σ H1)/\∀i m σ H,W i m σ H ->
 (J.stop i H/\D.nx σ H)\/(J.go i H/\∃N:St->Hp->Prop,(∀σ' H',N σ' H'->∃m',m'<m/\W (i+1) m' σ' H')/\∀x H',J.yld i H x H'->g x σ H' λσ2 H2=>tb {D with nx:=N,ct:=N,bk:=D.nx} σ2 H2)
def zP(fp:List Addr)(h:Heap):List (Addr×Obj):=fp.filterMap λb=>(h.get? b).map λo=>(b,o)
variable{fp:List Addr}
theorem bJ{b:Addr}{o:Obj}(hb:b∈fp)(e:h.get? b=some o):(b,o)∈zP fp h:=List.mem_filterMap.mpr ⟨b,hb,by rw[e];rfl⟩
theorem pT{p:Addr×Obj}(hp:p∈zP fp h):p.1∈fp/\h.get? p.1=some p.2:=by
 obtain⟨b,hb,e⟩:=List.mem_filterMap.mp hp
 cases q:h.get? b with
 |none=>rw[q]at e;cases e
 |some o=>
  rw[q]at e
  have e':(b,o)=p:=aao e
  subst e'
  exact⟨hb,q⟩
theorem Inv.pinned(I:Inv X pins σ H s)(hf:∀b∈fp,zJ X pins H b)(ho:∀b∈fp,∃o,s.heap.get? b=some o/\∀v,o.data≠.cell v):Inv X (pins++zP fp s.heap) σ H s :=
 I.Dk λp hp=>(List.mem_append.mp hp).elim (λz=>I.pin p (aaC _ z)) λz=>by
  obtain⟨hb,e⟩:=pT z
  obtain⟨f0,f1,f2,_⟩:=hf p.1 hb
  obtain⟨o,e',d⟩:=ho p.1 hb
  rw[e]at e';cases e'
  exact⟨e,f0,f1,f2,d⟩
theorem Inv.y9{pl:List (Addr×Obj)}(I:Inv X (pins++pl) σ H s):Inv X pins σ H s:=I.Dk λp hp=>I.pin p (aaC _ (abE _ hp))
theorem pD{iter:Expr}{wi:TI}{g:TG}{tb:TS}(hp:PassesOwn (model X.prog X.w) X.A X.env X.xe)(hc:X.calm=true)(hi:PI X tg iter wi)(hg:PG X tg g)(hb:C3 X body tb)
  (hs:∀x,aa4 iter X.env x=pure x:=by intro _;rfl):PS X (.For tg iter body [] pos) (Mf wi g tb):=by
 intro pins s σ H D I h
 refine wpAny_For (xH (hi pins s σ H _ I h) λv s1 h1=>xH h1 λLf s2 h2=>?_) hs
 obtain⟨it,fp,tn,J,H2,e,I2,T,G7,f2,W,⟨m0,w0⟩,turn⟩:=h2
 subst e
 have G5:∀{H':Hp},(∀b∈fp,H' b=none)->∀b∈fp,zJ X pins H' b:=λhn b hb=>⟨hn b hb,(f2 b hb).2⟩
 refine codeAny_forLoop_any (λn s'=>∃i σ' H',Inv X pins σ' H' s'/\tn i s'.heap/\(∀b∈fp,H' b=none)/\W i n σ' H') ?_ m0 ⟨0,σ,H2,I2,G7,λb hb=>(f2 b hb).1,w0⟩
 rintro n s3 ⟨i,σ3,H3,I3,Oc,O6,w3⟩
 rcases turn i n σ3 H3 w3 with ⟨stop,qn⟩|⟨go,N,hN,step⟩
 .refine acm hp (xH (T.done X rfl rfl rfl hc i pins s3 σ3 H3 X.xe I3 (G5 O6) Oc stop) λr s4 ⟨hr,I4⟩=>?_)
  subst hr
  exact ad0 ⟨σ3,H3,I4,qn⟩
 .refine acm hp (xH (T.item X rfl rfl rfl hc i pins s3 σ3 H3 X.xe I3 (G5 O6) Oc go) λr s4 ⟨u,hr,h4⟩=>?_)
  subst hr
  refine acm hp (xH h4 λ_ s5 ⟨x,H5,I5,r5,y5,Fp,HY⟩=>?_)
  have Sn:=I5.pinned (G5 HY) (T.obj _ _ Fp)
  refine acm hp (xH (hg _ s5 σ3 H5 x u _ Sn r5 (step x H5 y5)) λ_ s6 ⟨σ6,H6,I6,q6⟩=>?_)
  refine acm hp (xH (hb _ s6 σ6 H6 _ I6 q6) λf s7 q7=>?_)
  have again:∀{σ7:St} {H7:Hp},Inv X (pins++zP fp s5.heap) σ7 H7 s7->N σ7 H7->∃m,m<n/\∃i σ' H',Inv X pins σ' H' s7/\tn i s7.heap/\(∀b∈fp,H' b=none)/\W i m σ' H':=λ{σ7 H7} I7 n7=>by
   obtain⟨m',hm,w7⟩:=hN σ7 H7 n7
   refine⟨m',hm,i+1,σ7,H7,I7.y9,T.keep _ _ _ Fp λb hb o e=>(I7.pin (b,o) (aaC _ (aaC _ (bJ hb e)))).1,λb hb=>?_,w7⟩
   obtain⟨o,e,d⟩:=T.obj _ _ Fp b hb
   exact(I7.pin (b,o) (aaC _ (aaC _ (bJ hb e)))).2.1
  cases f with
  |next=>obtain⟨σ7,H7,I7,n7⟩:=q7;exact again I7 n7
  |cont=>obtain⟨σ7,H7,I7,n7⟩:=q7;exact again I7 n7
  |brk=>obtain⟨σ7,H7,I7,q7⟩:=q7;exact⟨σ7,H7,I7.y9,q7⟩
  |ret v=>obtain⟨x7,σ7,H7,I7,r7,q7⟩:=q7;exact⟨x7,σ7,H7,I7.y9,r7,q7⟩
theorem r8{g:TG}{tb:TS}{D:Ends}(Pv:Nat->St->Hp->Prop)(h0:Pv 0 σ H)(hl:∀i σ H,i<=xs.length->Pv i σ H->yf K H a xs)
  (hs:∀i x σ H,xs[i]?=some x->Pv i σ H->g x σ H λσ2 H2=>tb {D with nx:=Pv (i+1),ct:=Pv (i+1),bk:=D.nx} σ2 H2) (hd:∀σ H,Pv xs.length σ H->D.nx σ H) :
  ∃W:Nat->Nat->St->Hp->Prop,(∃m,W 0 m σ H)/\∀i m σ H,W i m σ H ->
   ((Fm K a).stop i H/\D.nx σ H)\/((Fm K a).go i H/\∃N:St->Hp->Prop,(∀σ' H',N σ' H'->∃m',m'<m/\W (i+1) m' σ' H')/\∀x H',(Fm K a).yld i H x H'->g x σ H' λσ2 H2=>tb {D with nx:=N,ct:=N,bk:=D.nx} σ2 H2):=by
 refine⟨λi m σ H=>m=xs.length - i/\i<=xs.length/\Pv i σ H,⟨xs.length,by simp,aaS _,h0⟩,?_⟩
 rintro i m σ H ⟨rfl,hi,p⟩
 have q:=hl i σ H hi p
 by_cases xA:i<xs.length
 .refine .inr ⟨⟨xs,xs[i],q,by simp[xA]⟩,Pv (i+1),λσ' H' p'=>⟨xs.length - (i+1),by omega,rfl,xA,p'⟩,λx H' y=>?_⟩
  obtain⟨e,y⟩:=y
  subst e
  exact hs i x σ _ (y xs q) p
 .have e:i=xs.length:=by omega
  subst e
  exact .inl ⟨⟨xs,q,aak _⟩,hd σ H p⟩
abbrev R2:=V->V->Hp->VK->Prop
def ya(X:Cx)(f:Value->Value->Sem Value)(r:R2):Prop :=
 ∀(pins:List (Addr×Obj)) (s:Shared) (σ:St) (H:Hp) (x y:V) (v u:Value) (Q:VK),Inv X pins σ H s->RelV x v->RelV y u->r x y H Q ->
  wpAny (model X.prog X.w) X.A (f v u) (EP X pins σ Q) X.xe s
def NY(X:Cx)(f:Value->Sem Value)(r:V->Hp->VK->Prop):Prop :=
 ∀(pins:List (Addr×Obj)) (s:Shared) (σ:St) (H:Hp) (x:V) (v:Value) (Q:VK),Inv X pins σ H s->RelV x v->r x H Q ->
  wpAny (model X.prog X.w) X.A (f v) (EP X pins σ Q) X.xe s
def wX(X:Cx)(f:Value)(r:List V->Hp->VK->Prop):Prop :=
 ∀(pins:List (Addr×Obj)) (s:Shared) (σ:St) (H:Hp) (xs:List V) (us:List Value) (Q:VK),Inv X pins σ H s->oR xs us->r xs H Q ->
  wpAny (model X.prog X.w) X.A (call f us) (EP X pins σ Q) X.xe s
def NZ(X:Cx)(r:V->Hp->(Bool->Hp->Prop)->Prop):Prop :=
 ∀(pins:List (Addr×Obj)) (s:Shared) (σ:St) (H:Hp) (x:V) (v:Value) (Q:Bool->Hp->Prop),Inv X pins σ H s->RelV x v->r x H Q ->
  wpAny (model X.prog X.w) X.A (truthy v) (TP X pins σ Q) X.xe s
def An(r:R2)(ta tb:TE):TE:=λσ H Q=>ta σ H λx H1=>tb σ H1 λy H2=>r x y H2 Q
def PU(r:V->Hp->VK->Prop)(ta:TE):TE:=λσ H Q=>ta σ H λx H1=>r x H1 Q
def rI(C:Int->Int->Prop)(g:Int->Int->V):R2:=λx y H Q=>∃i j,x=.int i/\y=.int j/\C i j/\Q (g i j) H
def D8(g:Int->Int->V):R2:=λx y H Q=>∃i j,x=.int i/\y=.int j/\Q (g i j) H
def rU(g:Int->V):V->Hp->VK->Prop:=λx H Q=>∃i,x=.int i/\Q (g i) H
variable{a:Expr}{tc:TE}
theorem Im(ha:PE X a ta)(hb:PE X b tb){R:V->V->Hp->Prop}(I:Inv X pins σ H s)
  (h:ta σ H λx H1=>tb σ H1 λy H2=>R x y H2) {Q:Value->Shared->Prop} {f:Value->Value->Sem Value}
  (hf:∀v u s2 x y H2,Inv X pins σ H2 s2->RelV x v->RelV y u->R x y H2->wpAny (model X.prog X.w) X.A (f v u) Q X.xe s2) :
  wpAny (model X.prog X.w) X.A (eval a X.env) (λv s₁=>wpAny (model X.prog X.w) X.A (eval b X.env) (λu s₂=>wpAny (model X.prog X.w) X.A (f v u) Q X.xe s₂) X.xe s₁) X.xe s:=by
 refine xH (ha pins s σ H _ I h) λv s1 ⟨x,H1,I1,r1,q1⟩=>?_
 refine xH (hb pins s1 σ H1 _ I1 q1) λu s2 ⟨y,H2,I2,r2,q2⟩=>?_
 exact hf v u s2 x y H2 I2 r1 r2 q2
variable{r:R2}
theorem bc{op:Operator}(ho:ya X (acb op) r)(ha:PE X a ta)(hb:PE X b tb):PE X (.BinOp a op b pos) (An r ta tb):=by
 intro pins s σ H Q I h
 exact wpAny_BinOp (Im ha hb I h λv u s2 x y H2 I2 rx ry q=>ho pins s2 σ H2 x y v u Q I2 rx ry q)
theorem wA{op:UnaryOp}{r:V->Hp->VK->Prop}(ho:NY X (unaryOp op) r)(ha:PE X a ta):PE X (.UnaryOp op a pos) (PU r ta):=by
 intro pins s σ H Q I h
 exact UnaryOp_ (xH (ha pins s σ H _ I h) λv s1 ⟨x,H1,I1,r1,q1⟩=>ho pins s1 σ H1 x v Q I1 r1 q1)
variable{f:Value->Value->Sem Value}
theorem K0{C:Int->Int->Prop}{g:Int->Int->Int}
  (rule:∀(i j:Int) (t u:Tok) (s:Shared) (Q:Value->Shared->Prop) (E:Value->Shared->Prop),C i j->Q (.int (g i j) s.toks) {s with toks:=s.toks+1}->wpAny (model X.prog X.w) X.A (f (.int i t) (.int j u)) Q E s) :
  ya X f (rI C λi j=>.int (g i j)):=by
 intro pins s σ H x y v u Q I rx ry h
 obtain⟨i,j,rfl,rfl,hc,q⟩:=h
 obtain⟨t,rfl⟩:=rx
 obtain⟨t',rfl⟩:=ry
 exact rule i j t t' s _ _ hc ⟨.int (g i j),H,I.tok _,⟨_,rfl⟩,q⟩
theorem JD{g:Int->Int->Int}
  (rule:∀(i j:Int) (t u:Tok) (s:Shared) (Q:Value->Shared->Prop) (E:Value->Shared->Prop),Q (.int (g i j) s.toks) {s with toks:=s.toks+1}->wpAny (model X.prog X.w) X.A (f (.int i t) (.int j u)) Q E s) :
  ya X f (D8 λi j=>.int (g i j)):=by
 intro pins s σ H x y v u Q I rx ry h
 obtain⟨i,j,rfl,rfl,q⟩:=h
 obtain⟨t,rfl⟩:=rx
 obtain⟨t',rfl⟩:=ry
 exact rule i j t t' s _ _ ⟨.int (g i j),H,I.tok _,⟨_,rfl⟩,q⟩
theorem Hr{g:Int->Int->Bool}
  (rule:∀(i j:Int) (t u:Tok) (s:Shared) (Q:Value->Shared->Prop) (E:Value->Shared->Prop),Q (.bool (g i j)) s->wpAny (model X.prog X.w) X.A (f (.int i t) (.int j u)) Q E s) :
  ya X f (D8 λi j=>.bl (g i j)):=by
 intro pins s σ H x y v u Q I rx ry h
 obtain⟨i,j,rfl,rfl,q⟩:=h
 obtain⟨t,rfl⟩:=rx
 obtain⟨t',rfl⟩:=ry
 exact rule i j t t' s _ _ ⟨.bl (g i j),H,I,rfl,q⟩
def Iw(i j:Int):Prop:=0<j/\j<1073741824
def N7(i j:Int):Prop:=0<=j/\j<=1000000/\i.natAbs<2 ^ 64
def D5(i j:Int):Prop:=(-(2 ^ 64)<i/\i<2 ^ 64)\/(-(2 ^ 64)<j/\j<2 ^ 64)
theorem D5.ok{i j:Int}(h:D5 i j):IntMulOk i j:=by
 rcases h with ⟨h1,h2⟩|⟨h1,h2⟩
 .exact .of_left (intBits_le_64 h1 h2)
 .exact .of_right (intBits_le_64 h1 h2)
theorem fL:ya X (acb .Add) (D8 λi j=>.int (i+j)):=JD λ_ _ _ _ _ _ _ q=>add_int q
theorem vd:ya X (acb .Sub) (D8 λi j=>.int (i - j)):=JD λ_ _ _ _ _ _ _ q=>sub_int q
theorem iR:ya X (acb .Mult) (rI D5 λi j=>.int (i*j)):=K0 λ_ _ _ _ _ _ _ hc q=>mul_int q hc.ok
theorem jH:ya X (acb .FloorDiv) (rI Iw λi j=>.int (i / j)):=K0 λi j _ _ _ _ _ hc q=>by
 have h1:(0:Int)<j:=hc.1
 have h2:j<1073741824:=hc.2
 exact floordiv_int (by omega) (by rw[Int.fdiv_eq_ediv_of_nonneg i (by omega)];exact q) (.inl (PyProof.noPylong_small (by omega)))
theorem da:ya X (acb .Mod) (rI (λ_ j=>0<j) λi j=>.int (i % j)):=K0 λi j _ _ _ _ _ hc q=>by
 have h1:(0:Int)<j:=hc
 exact mod_int' (by omega) (by rw[Int.fmod_eq_emod_of_nonneg i (by omega)];exact q)
theorem lI:ya X (acb .Pow) (rI N7 λi j=>.int (i ^ j.toNat)):=K0 λ_ _ _ _ _ _ _ hc q=>pow_int_small hc.1 hc.2.1 hc.2.2 q
theorem PD{f:Value->Sem Value}{g:Int->Int}
  (rule:∀(i:Int) (t:Tok) (s:Shared) (Q:Value->Shared->Prop) (E:Value->Shared->Prop),Q (.int (g i) s.toks) {s with toks:=s.toks+1}->wpAny (model X.prog X.w) X.A (f (.int i t)) Q E s) :
  NY X f (rU λi=>.int (g i)):=by
 intro pins s σ H x v Q I rx h
 obtain⟨i,rfl,q⟩:=h
 obtain⟨t,rfl⟩:=rx
 exact rule i t s _ _ ⟨.int (g i),H,I.tok _,⟨_,rfl⟩,q⟩
theorem uM:NY X (unaryOp .USub) (rU λi=>.int (-i)):=PD λ_ _ _ _ _ q=>neg_int q
def Fu:V->V->Bool
 |.nE,.nE=>true|.nE,.int _=>true|.int _,.nE=>true|.nE,.bl _=>true|.bl _,.nE=>true|.nE,.str _=>true|.str _,.nE=>true
 |.int _,.int _=>true|.bl _,.bl _=>true|.str _,.str _=>true|.DZ _,.DZ _=>true
 |.int _,.str _=>true|.str _,.int _=>true|.bl _,.str _=>true|.str _,.bl _=>true
 |_,_=>false
def P5:R2:=λx y H Q=>Fu x y=true/\Q (.bl (decide (x=y))) H
def Jt:R2:=λx y H Q=>Fu x y=true/\Q (.bl (!decide (x=y))) H
theorem nQ{i j:Int}:decide (V.int i=V.int j)=(i==j):=by
 rw[aaY]
 simp
theorem qB{i j:Bool}:decide (V.bl i=V.bl j)=(i==j):=by
 rw[aaY]
 simp
theorem nO{i j:Str}:decide (V.str i=V.str j)=(i==j):=by
 rw[aaY]
 simp
theorem nR{i j:Array UInt8}:decide (V.DZ i=V.DZ j)=(i.toList==j.toList):=by
 rw[aaY]
 cases i
 cases j
 simp
theorem aE{Q:VK}{k k':Bool}(I:Inv X pins σ H s)(q:Q (.bl k) H)(e:k=k'):EP X pins σ Q (.bool k') s:=by
 subst e
 exact⟨.bl k,H,I,rfl,q⟩
theorem wG:ya X (abb .Eq) P5:=by
 intro pins s σ H x y v u Q I rx ry h
 obtain⟨hs,q⟩:=h
 cases x with
 |nE=>
  cases rx
  cases y with
  |nE=>cases ry;exact PySem.EqNone.eq_none_none (aE I q (by simp))
  |bl j=>cases ry;exact PySem.EqNone.eq_none_bool (aE I q (by simp))
  |int j=>obtain⟨t',rfl⟩:=ry;exact PySem.EqNone.eq_none_int (aE I q (by simp))
  |str j=>obtain⟨t',rfl⟩:=ry;exact PySem.EqNone.eq_none_str (aE I q (by simp))
  |_=>exact absurd (show false=true from hs) aaz
 |bl i=>
  cases rx
  cases y with
  |nE=>cases ry;exact PySem.EqNone.eq_bool_none (aE I q (by simp))
  |bl j=>cases ry;exact eq_bool (aE I q qB)
  |str j=>obtain⟨t',rfl⟩:=ry;exact PySem.EqMixed.eq_bool_str (aE I q (by simp))
  |_=>exact absurd (show false=true from hs) aaz
 |int i=>
  obtain⟨t,rfl⟩:=rx
  cases y with
  |nE=>cases ry;exact PySem.EqNone.eq_int_none (aE I q (by simp))
  |int j=>obtain⟨t',rfl⟩:=ry;exact eq_int (aE I q nQ)
  |str j=>obtain⟨t',rfl⟩:=ry;exact PySem.EqMixed.eq_int_str (aE I q (by simp))
  |_=>exact absurd (show false=true from hs) aaz
 |str i=>
  obtain⟨t,rfl⟩:=rx
  cases y with
  |nE=>cases ry;exact PySem.EqNone.eq_str_none (aE I q (by simp))
  |bl j=>cases ry;exact PySem.EqMixed.eq_str_bool (aE I q (by simp))
  |int j=>obtain⟨t',rfl⟩:=ry;exact PySem.EqMixed.eq_str_int (aE I q (by simp))
  |str j=>obtain⟨t',rfl⟩:=ry;exact eq_str (aE I q nO)
  |_=>exact absurd (show false=true from hs) aaz
 |DZ i=>
  obtain⟨t,rfl⟩:=rx
  cases y with
  |DZ j=>obtain⟨t',rfl⟩:=ry;exact PySem.W.eq_bytes (aE I q nR)
  |_=>exact absurd (show false=true from hs) aaz
 |_=>cases y<;>exact absurd (show false=true from hs) aaz
theorem sB:ya X (abb .NotEq) Jt:=by
 intro pins s σ H x y v u Q I rx ry h
 obtain⟨hs,q⟩:=h
 cases x with
 |nE=>
  cases rx
  cases y with
  |nE=>cases ry;exact PySem.EqNone.ne_none_none (aE I q (by simp))
  |bl j=>cases ry;exact PySem.EqNone.ne_none_bool (aE I q (by simp))
  |int j=>obtain⟨t',rfl⟩:=ry;exact PySem.EqNone.ne_none_int (aE I q (by simp))
  |str j=>obtain⟨t',rfl⟩:=ry;exact PySem.EqNone.ne_none_str (aE I q (by simp))
  |_=>exact absurd (show false=true from hs) aaz
 |bl i=>
  cases rx
  cases y with
  |nE=>cases ry;exact PySem.EqNone.ne_bool_none (aE I q (by simp))
  |bl j=>cases ry;exact ne_bool (aE I q (congrArg not qB))
  |str j=>obtain⟨t',rfl⟩:=ry;exact PySem.EqMixed.ne_bool_str (aE I q (by simp))
  |_=>exact absurd (show false=true from hs) aaz
 |int i=>
  obtain⟨t,rfl⟩:=rx
  cases y with
  |nE=>cases ry;exact PySem.EqNone.ne_int_none (aE I q (by simp))
  |int j=>obtain⟨t',rfl⟩:=ry;exact ne_int (aE I q (congrArg not nQ))
  |str j=>obtain⟨t',rfl⟩:=ry;exact PySem.EqMixed.ne_int_str (aE I q (by simp))
  |_=>exact absurd (show false=true from hs) aaz
 |str i=>
  obtain⟨t,rfl⟩:=rx
  cases y with
  |nE=>cases ry;exact PySem.EqNone.ne_str_none (aE I q (by simp))
  |bl j=>cases ry;exact PySem.EqMixed.ne_str_bool (aE I q (by simp))
  |int j=>obtain⟨t',rfl⟩:=ry;exact PySem.EqMixed.ne_str_int (aE I q (by simp))
  |str j=>obtain⟨t',rfl⟩:=ry;exact ne_str (aE I q (congrArg not nO))
  |_=>exact absurd (show false=true from hs) aaz
 |DZ i=>
  obtain⟨t,rfl⟩:=rx
  cases y with
  |DZ j=>obtain⟨t',rfl⟩:=ry;exact PySem.W.ne_bytes (aE I q (congrArg not nR))
  |_=>exact absurd (show false=true from hs) aaz
 |_=>cases y<;>exact absurd (show false=true from hs) aaz
theorem wD:ya X (abb .Lt) (D8 λi j=>.bl (decide (i<j))):=Hr λ_ _ _ _ _ _ _ q=>lt_int q
theorem wE:ya X (abb .Gt) (D8 λi j=>.bl (decide (j<i))):=Hr λ_ _ _ _ _ _ _ q=>gt_int q
theorem wF:ya X (abb .GtE) (D8 λi j=>.bl (decide (j<=i))):=Hr λ_ _ _ _ _ _ _ q=>ge_int q
theorem pR:ya X (abb .Lt) (λx y H Q=>∃i j,x=.str i/\y=.str j/\Q (.bl (decide (i.cps.toList<j.cps.toList))) H):=by
 intro pins s σ H x y v u Q I rx ry h
 obtain⟨i,j,rfl,rfl,q⟩:=h
 obtain⟨t,rfl⟩:=rx
 obtain⟨t',rfl⟩:=ry
 exact lt_str (aE I q rfl)
theorem pS:ya X (abb .In) (λx y H Q=>∃i j,x=.str i/\y=.str j/\Q (.bl (!(acO j i 0 j.length 1).isEmpty)) H):=by
 intro pins s σ H x y v u Q I rx ry h
 obtain⟨i,j,rfl,rfl,q⟩:=h
 obtain⟨t,rfl⟩:=rx
 obtain⟨t',rfl⟩:=ry
 exact in_str (aE I q rfl)
variable{op:CmpOp}
theorem zQ(b:Expr)(h:op≠.In:=by decide)(h2:op≠.NotIn:=by decide):acu op b=false:=by
 have e1:(op==CmpOp.In)=false:=by cases op<;>first|rfl|exact absurd rfl h
 have e2:(op==CmpOp.NotIn)=false:=by cases op<;>first|rfl|exact absurd rfl h2
 cases b<;>simp[acu,e1,e2]
theorem ng(ho:ya X (abb op) r)(ha:PE X a ta)(hb:PE X b tb)(hm:acu op b=false):PE X (.Compare a [op] [b] pos) (An r ta tb):=by
 intro pins s σ H Q I h
 exact wpAny_Compare1 (Im ha hb I h λv u s2 x y H2 I2 rx ry q=>ho pins s2 σ H2 x y v u Q I2 rx ry q) hm
def El(t:TE):TT:=λσ H Q=>t σ H λx H'=>∃k,x=.bl k/\Q k H'
theorem dW(ho:ya X (abb op) r)(ha:PE X a ta)(hb:PE X b tb)(hm:acu op b=false):PT X (.Compare a [op] [b] pos) (El (An r ta tb)):=by
 intro pins s σ H Q I h
 refine wpAny_isTrue_Compare1 (xH (ha pins s σ H _ I h) λv s1 ⟨x,H1,I1,r1,q1⟩=>xH (hb pins s1 σ H1 _ I1 q1) λu s2 ⟨y,H2,I2,r2,q2⟩=>
  xH (ho pins s2 σ H2 x y v u _ I2 r1 r2 q2) λc s3 ⟨z,H3,I3,r3,k,e,q3⟩=>?_) hm
 subst e
 cases r3
 exact adE ⟨H3,I3,q3⟩
def Kx(K:aah)(x:V)(H:Hp)(k:Bool):Prop :=
 match x with
 |.nE=>k=false
 |.bl b=>k=b
 |.int i=>k=(i != 0)
 |.str y=>y.length<=sizeLine/\k=((y.length:Int) != 0)
 |.DZ y=>y.size<=sizeLine/\k=((y.size:Int) != 0)
 |.ref p=>(∃xs,yf K H p xs/\k=!xs.isEmpty)\/(∃xs,yI K H p xs/\k=!xs.isEmpty)\/∃kvs,H p=some (.dK kvs)/\k=!kvs.isEmpty
 |_=>False
theorem oK{κ:Type}{kvs:List (κ×V)}{vs:List (κ×Value)}(r:KV kvs vs):(!vs.isEmpty)=!kvs.isEmpty:=by
 cases r<;>rfl
variable{gE:List Value}
theorem iY(r:oR xs gE):(!gE.toArray.isEmpty)=!xs.isEmpty:=by
 cases r<;>simp
theorem zv:(sizeLine:Nat)<2 ^ 63:=by rw[aaA];decide
theorem uO:NZ X (λx H Q=>∃k,Kx X.K x H k/\Q k H):=by
 intro pins s σ H x v Q I rx h
 obtain⟨k,e,q⟩:=h
 have hl:=zv
 have hs:sizeLine=16777216:=aaA
 cases x with
 |nE=>
  cases rx
  have e':k=false:=e
  subst e'
  exact truthy_none ⟨H,I,q⟩
 |bl b=>
  cases rx
  have e':k=b:=e
  subst e'
  exact adE ⟨H,I,q⟩
 |int i=>
  obtain⟨t,rfl⟩:=rx
  have e':k=(i != 0):=e
  subst e'
  exact PySem.P.truthy_int ⟨H,I,q⟩
 |str y=>
  obtain⟨t,rfl⟩:=rx
  obtain⟨hy,e'⟩:y.length<=sizeLine/\k=((y.length:Int) != 0):=e
  subst e'
  exact PySem.P.truthy_str (by omega) ⟨H,I.tok _,q⟩
 |DZ y=>
  obtain⟨t,rfl⟩:=rx
  obtain⟨hy,e'⟩:y.size<=sizeLine/\k=((y.size:Int) != 0):=e
  subst e'
  exact PySem.W.truthy_bytes (by omega) ⟨H,I.tok _,q⟩
 |ref p=>
  cases rx
  have e':(∃xs,yf X.K H p xs/\k=!xs.isEmpty)\/(∃xs,yI X.K H p xs/\k=!xs.isEmpty)\/∃kvs,H p=some (.dK kvs)/\k=!kvs.isEmpty:=e
  rcases e' with ⟨xs,hx,e'⟩|⟨xs,hx,e'⟩|⟨kvs,hx,e'⟩
  .subst e'
   obtain⟨gE,r,pl,hz⟩:=I.list hx
   have hlen:=r.length
   exact wpAny_truthy_list pl.isList (by simp only[aae];omega) ⟨H,I.tok _,by rw[iY r];exact q⟩
  .subst e'
   obtain⟨gE,r,pl,hz⟩:=I.tuple hx
   have hlen:=r.length
   exact truthy_tuple pl (by simp only[aae];omega) ⟨H,I.tok _,by rw[iY r];exact q⟩
  .subst e'
   obtain⟨hz,hS,vs,r,m⟩:kvs.length<=sizeLine/\(p==act)=false/\∃vs,KV kvs vs/\s.heap.DictOf (aA X.prog X.w) p vs:=I.wU p _ hx
   have hlen:kvs.length=vs.length:=aex r
   exact wpAny_truthy_dict hS m (by omega) ⟨H,I.tok _,by rw[oK r];exact q⟩
 |_=>exact(show False from e).elim
theorem qY(ha:PE X a ta)(he:∀whole,isTrue a X.env whole=(do let v <- whole;standAt a.pos;adg [v] (truthy v))):
  PT X a (λσ H Q=>ta σ H λx H'=>∃k,Kx X.K x H' k/\Q k H'):=by
 intro pins s σ H Q I h
 exact isTrue_plain (xH (ha pins s σ H _ I h) λv s1 ⟨x,H1,I1,r1,q1⟩=>uO pins s1 σ H1 x v Q I1 r1 q1) (he _)
theorem oC:ya X (acb .Add) (λx y H Q=>∃i j,x=.str i/\y=.str j/\i.length+j.length<=sizeLine/\Q (.str (i++j)) H):=by
 intro pins s σ H x y v u Q I rx ry h
 obtain⟨i,j,rfl,rfl,hz,q⟩:=h
 obtain⟨t,rfl⟩:=rx
 obtain⟨t',rfl⟩:=ry
 exact add_str (λt' tk=>⟨.str (i++j),H,I.tok _,⟨_,rfl⟩,q⟩) hz
theorem vals1{x:V}(r:oR [x] us):∃u,us=[u]/\RelV x u:=by
 cases r with
 |cons r1 r2=>cases r2;exact⟨_,rfl,r1⟩
theorem vals2{x:V}(r:oR [x,y] us):∃u w',us=[u,w']/\RelV x u/\RelV y w':=by
 cases r with
 |cons r1 r2=>
  cases r2 with
  |cons r3 r4=>cases r4;exact⟨_,_,rfl,r1,r3⟩
theorem ir:wX X (.builtin "abs") (λxs H Q=>∃i,xs=[.int i]/\Q (.int (if i<0 then -i else i)) H):=by
 intro pins s σ H xs us Q I r h
 obtain⟨i,rfl,q⟩:=h
 obtain⟨u,rfl,t,rfl⟩:=vals1 r
 exact call_abs_int λu tk=>⟨.int (if i<0 then -i else i),H,I.tok _,⟨_,rfl⟩,q⟩
theorem qF(hc:X.calm=true):wX X (.builtin "max") (λxs H Q=>∃i j,xs=[.int i,.int j]/\Q (.int (if j > i then j else i)) H):=by
 intro pins s σ H xs us Q I r h
 obtain⟨i,j,rfl,q⟩:=h
 obtain⟨u,w',rfl,⟨t,rfl⟩,⟨t',rfl⟩⟩:=vals2 r
 refine max_two_ints (I.ok.hd hc) λh' tk k=>⟨_,H,I.kept k,?_,q⟩
 by_cases hj:j > i
 .rw[if_pos hj,if_pos hj];exact⟨_,rfl⟩
 .rw[if_neg hj,if_neg hj];exact⟨_,rfl⟩
variable{prog:aaB}{dx C f:Addr}{mA:Str->Option Value}{name:Str}{v:Value}
theorem Bc.some_of{v:V}{o:Option Value}(r:Bc (some v) o):∃u,o=some u/\RelV v u:=by
 cases o with
 |none=>exact(show False from r).elim
 |some u=>exact⟨u,rfl,r⟩
section
variable{a:Addr}{fs RF:List (Str×V)}
end
section
variable{a:Addr}{fs:List (Str×V)}{f:Str}{v:V}
end
variable{o value:Expr}{f:Str}{Ek:Pos}{tv:TE}
variable{Q:Value->Shared->Prop}{c:Value}{b:Bool}
structure xw(k:Nat)(A:Around):Prop where
 hd:A.handled=none
 dp:A.depth+3*k+5<recursionLimit
 un:A.units+16*k+200<cLine
 gd:A.guards=some []
theorem xw.mono(r:xw k A)(h:j<=k):xw j A:=⟨r.hd,by have:=r.dp;omega,by have:=r.un;omega,r.gd⟩
theorem xw.deeper(r:xw (k+1) A)(env:Env):xw k (A.deeper env) :=
 ⟨r.hd,by have:=r.dp;show A.depth+1+3*k+5<_;omega,by have:=r.un;show A.units+3+16*k+200<_;omega,r.gd⟩
theorem xw.depth(r:xw k A):A.depth<recursionLimit:=by have:=r.dp;omega
theorem xw.GY(r:xw k A):A.units<cLine:=by have:=r.un;omega
def DI:TA:=λ_ H Q=>Q [] H
def Gg(ta:TE)(tr:TA):TA:=λσ H Q=>ta σ H λx H1=>tr σ H1 λxs H2=>Q (x::xs) H2
variable{es:List Expr}{t:TA}
theorem aV:PA X [] DI:=λ_ _ _ _ H Q I h=>Calls.spliced_nil ⟨[],H,I,.nil,h⟩
theorem aP(ha:PE X e te)(hr:PA X es t)(hs:aam (e::es) X.env=(false,eval e X.env)::aam es X.env:=by rfl):PA X (e::es) (Gg te t):=by
 intro pos pins s σ H Q I h
 rw[hs]
 show wpAny _ _ (spliced ((false,eval e X.env)::backTo pos (aam es X.env))) _ _ s
 refine Calls.spliced_cons (xH (ha pins s σ H _ I h) λu s1 ⟨x,H1,I1,r1,q1⟩=>?_)
 exact xH (hr pos pins s1 σ H1 _ I1 q1) λus s2 ⟨xs,H2,I2,r2,q2⟩=>⟨x::xs,H2,I2,.cons r1 r2,q2⟩
def Mc(t:TA):TE:=λσ H Q=>t σ H λxs H1=>xs.length<=sizeLine/\∀p,H1 p=none->Q (.ref p) (upd H1 p (.tup xs))
def G3(t:TA):TE:=λσ H Q=>t σ H λxs H1=>xs.length<=sizeLine/\∀p,H1 p=none->Q (.ref p) (upd H1 p (.lst xs))
theorem uY{x1}(h:PA X es t):PE X (.Tuple es x1 pos) (Mc t):=by
 intro pins s σ H Q I hq
 refine wpAny_Tuple_spliced (xH (h pos pins s σ H _ I hq) λus s1 ⟨xs,H1,I1,r,z,q⟩=>⟨by rw[<- r.length];exact z,?_⟩)
 have hf:H1 s1.heap.objs.size=none:=I1.wU.fresh (aak _)
 refine⟨.ref s1.heap.objs.size,upd H1 s1.heap.objs.size (.tup xs),I1.laid (t':=s1.toks) (λb u e=>aac _ e) (aak _) ?_,rfl,q _ hf⟩
 exact⟨z,us,r,⟨_,aal _ rfl,rfl,_,rfl⟩⟩
theorem fJ(h:PA X es t):PE X (.List es pos) (G3 t):=by
 intro pins s σ H Q I hq
 refine wpAny_List_spliced (xH (h pos pins s σ H _ I hq) λus s1 ⟨xs,H1,I1,r,z,q⟩=>⟨by rw[<- r.length];exact z,?_⟩)
 have hf:H1 s1.heap.objs.size=none:=I1.wU.fresh (aak _)
 refine⟨.ref s1.heap.objs.size,upd H1 s1.heap.objs.size (.lst xs),I1.laid (t':=s1.toks) (λb u e=>aac _ e) (aak _) ?_,rfl,q _ hf⟩
 exact⟨z,us,0,r,aal _ rfl⟩
abbrev Sp:=List V->Hp->VK->XK->Prop
abbrev IW:=List Env->Hp->Shared->XK->Value->Shared->Prop
structure Gc(P:aaB)(w:World)(K:aah)(mg:Str->Option Value)(base:Heap)(A:Around)(outer:List Env)(s:Shared)(H:Hp):Prop where
 frames:A.frames=some outer
 mod:Mod K mg base
 bs:∀b o,base.get? b=some o->s.heap.get? b=some o/\H b=none
 GP:base.objs.size<=s.heap.objs.size
 AZ:s.heap.FunFrames base outer
 IS:∀b∈EU outer,H b=none
 wU:zl P w H s.heap
 bare:aet s.gens
def CE(outer:List Env)(P:aaB)(w:World)(H:Hp)(s:Shared)(Q:VK)(u:Value)(s':Shared):Prop :=
 ∃v H',s'.os=s.os/\aet s'.gens/\Un (EU outer) [] H H' s.heap s'.heap/\zl P w H' s'.heap/\RelV v u/\Q v H'
def CR(CX:IW)(outer:List Env)(P:aaB)(w:World)(H:Hp)(s:Shared)(Q:VK)(E:XK)(r:Result)(s':Shared):Prop :=
 match r with
 |.ok (.ret u)=>CE outer P w H s Q u s'
 |.ok _=>False
 |.error e=>CX outer H s E e s'
structure w4(P:aaB)(w:World)(K:aah)(mg:Str->Option Value)(base:Heap)(CX:IW)(k:Nat)(f:Addr)(fd:abA)(ps:List Str)(sp:Sp):Prop where
 len:∀vs H Q E,sp vs H Q E->vs.length=ps.length
 run:∀(A:Around) (outer:List Env) (s:Shared) (H:Hp) (args:Args) (us:List Value) (vs:List V) (Q:VK) (E:XK),xw k A->Gc P w K mg base A outer s H->BindsTo s fd args (ps.zip us)->oR vs us->sp vs H Q E ->
  adi (model P w) A (.call (.ref f) args) (CR CX outer P w H s Q E) s
variable{mg:Str->Option Value}{base:Heap}{CX:IW}{fd:abA}{ps:List Str}{sp:Sp}
theorem w4.imp{f:Addr}{Oe:Sp}(F:w4 P w K mg base CX k f fd ps sp)
  (h:∀vs H Q E,Oe vs H Q E->sp vs H Q E):w4 P w K mg base CX k f fd ps Oe :=
 ⟨λvs H Q E q=>F.len vs H Q E (h _ _ _ _ q),λA outer s H args us vs Q E hr he hb hv hs=>F.run A outer s H args us vs Q E hr he hb hv (h _ _ _ _ hs)⟩
theorem Inv.NN(I:Inv X pins σ H s):Gc X.prog X.w X.K X.mg X.base X.A X.stack s H :=
 ⟨I.ok.frames,I.ok.mod,I.bs,aaX I.ok.GP I.sz,I.stack,I.Dg,I.wU,I.bare⟩
theorem Inv.after{Q:VK}{u:Value}(I:Inv X pins σ H s)(h:CE X.stack X.prog X.w H s Q u s'):EP X pins σ Q u s':=by
 obtain⟨v,H',os,bare,un,wU,r,q⟩:=h
 obtain⟨hh,g,d,t,Dl⟩:=s'
 obtain rfl:Dl=s.os:=os
 exact⟨v,H',I.call (h':=hh) (g':=g) (d':=d) (t':=t) (ch:=[]) un wU bare (λb z=>absurd z (by simp)),r,q⟩
def Jh(sp:Sp)(GN:List V)(E:XK)(t:TA):TE:=λσ H Q=>t σ H λvs H1=>sp (vs++GN) H1 Q E
def Binds(K:aah)(fd:abA)(ps:List Str)(ds:List Value):Prop :=
 ∀(s:Shared) (us:List Value),K.In s.heap->(us++ds).length=ps.length->BindsTo s fd ⟨us,[]⟩ (ps.zip (us++ds))
theorem Binds.all(h:∀us:List Value,us.length=ps.length->ac0 fd ⟨us,[]⟩=pure (ps.zip us)):Binds K fd ps []:=λs us _ hl=>by
 rw[abh]at hl ⊢
 exact .of_eq (h us hl)
def C2(CX:IW)(X:Cx)(E:XK):Prop:=∀(pins:List (Addr×Obj)) (σ:St) (H:Hp) (s:Shared) (e:Value) (s':Shared),Inv X pins σ H s->CX X.stack H s E e s'->X.xe e s'
variable{f:Addr}{GN:List V}{ds:List Value}{E:XK}{x m:Str}{p apos:Pos}
variable{vs:List V}
theorem uR{Q:VK}(F:w4 X.prog X.w X.K X.mg X.base CX k f fd ps sp)(hr:xw k X.A)(hb:Binds X.K fd ps ds)(hd:oR GN ds)(hx:C2 CX X E)
  (I:Inv X pins σ H s) (r:oR vs us) (h:sp (vs++GN) H Q E):wpAny (model X.prog X.w) X.A (call (.ref f) us) (EP X pins σ Q) X.xe s:=by
 have r2:oR (vs++GN) (us++ds):=r.append hd
 have hl:(us++ds).length=ps.length:=by rw[<- r2.length];exact F.len _ _ _ _ h
 refine wpAny_call (adt (F.run X.A X.stack s H ⟨us,[]⟩ (us++ds) (vs++GN) Q E hr I.NN (hb s us I.Hy hl) r2 h) λr s' hq=>?_)
 cases r with
 |error e=>exact hx pins σ H s e s' I hq
 |ok fl=>
  cases fl with
  |ret u=>exact I.after hq
  |next=>exact acH hq
  |brk=>exact acH hq
  |cont=>exact acH hq
theorem dX(F:w4 X.prog X.w X.K X.mg X.base CX k f fd ps sp)(hr:xw k X.A)(hg:Gl X x)(hm:X.mg x=some (.ref f))(hk:abH X.K (.ref f)=true)(hb:Binds X.K fd ps ds)(hd:oR GN ds)(hx:C2 CX X E)
  (ha:PA X (e::es) t) (zR:(x==("__debug__" : Str))=false:=by decide) (he:aam (e::es) X.env=(false,eval e X.env)::aam es X.env:=by rfl) (yt:(backTo pos (aam es X.env)).any (·.1)=false:=by rfl) :
  PE X (.Call (.Name x p) (e::es) [] pos) (Jh sp GN E t):=by
 intro pins s σ H Q I h
 refine acl (t5 I hg hm ?_ zR)
 refine PySem.W.callWith_K (h₀:=X.base) I.ok.mod.kin hk (xH (ha pos pins s σ H _ I h) λus s1 ⟨vs,H1,I1,r,q⟩=>⟨I1.Hy,?_⟩) he yt
 exact uR F hr hb hd hx I1 r q
def PK(X:Cx)(JM:List ac9)(t:TA):Prop :=
 ∀(pos:Pos) (pins:List (Addr×Obj)) (s:Shared) (σ:St) (H:Hp) (Q:List V->Hp->Prop),Inv X pins σ H s->t σ H Q->wpAny (model X.prog X.w) X.A (evalAll ((aeh pos (acV JM X.env)).map (·.2))) (AP X pins σ Q) X.xe s
variable{ks:List Str}{zd:Pos}{JM:List ac9}{tk:TA}{nm:Option Str}
theorem pG:PK X [] DI:=λ_ _ _ _ H Q I h=>wpAny_evalAll_nil ⟨[],H,I,.nil,h⟩
theorem m7(ha:PE X e te)(hr:PK X JM t):PK X (⟨nm,e,zd⟩::JM) (Gg te t):=by
 intro pos pins s σ H Q I h
 show wpAny _ _ (evalAll ((do let v <- eval e X.env;standAt pos;pure v)::(aeh pos (acV JM X.env)).map (·.2))) _ _ s
 refine wpAny_evalAll_cons (aab (xH (ha pins s σ H _ I h) λu s1 ⟨x,H1,I1,r1,q1⟩=>aab (acJ (aaf ?_))))
 exact xH (hr pos pins s1 σ H1 _ I1 q1) λus s2 ⟨xs,H2,I2,r2,q2⟩=>⟨x::xs,H2,I2,.cons r1 r2,q2⟩
variable{g:List Value->List Value->List Value}{gV:List V->List V->List V}
structure az(N P:List Str)(sc:Scope):Prop where
 kind:sc.kind=.function
 co:sc.isCoroutine=false
 gen:sc.isGenerator=false
 nd:N.Nodup
 pre:N.take P.length=P
 par:∀x∈P,sc.names.lookup x=some .local\/sc.names.lookup x=some .cell
 CM:∀y∈sc.names,y.2≠.free
variable{kindOf:Str->Option adv}
theorem kI:∀{binds:List (Str×Value)} {m:Str->Option Value},(∀v,(x,v)∉binds)->bindL kindOf binds m x=m x
 |[],_,_=>rfl
 |(n,v)::r,m,h=>by
  unfold bindL
  rw[kI λw hw=>h w (aar _ hw)]
  split
  .have:x≠n:=by rintro rfl;exact h v aat
   simp[this]
  .rfl
theorem kK:∀{binds:List (Str×Value)} {m:Str->Option Value},(∀v,(x,v)∉binds)->bindC kindOf binds m x=m x
 |[],_,_=>rfl
 |(n,v)::r,m,h=>by
  unfold bindC
  rw[kK λw hw=>h w (aar _ hw)]
  split
  .rfl
  .have:x≠n:=by rintro rfl;exact h v aat
   simp[this]
theorem kJ:∀{P:List Str} {vs:List Value} {i:Nat} {m:Str->Option Value},P.Nodup->P[i]?=some x->vs[i]?=some v->kindOf x=some .local ->
  bindL kindOf (P.zip vs) m x=some v
 |[],_,_,_,_,h,_,_=>by simp at h
 |_::_,[],_,_,_,_,h,_=>by simp at h
 |p::P,w::vs,0,m,nd,h1,h2,hk=>by
  simp at h1 h2;subst h1;subst h2
  show bindL kindOf ((p,w)::P.zip vs) m p=_
  unfold bindL
  rw[kI λv hv=>(List.nodup_cons.mp nd).1 (adm hv).1,if_pos hk]
  simp
 |p::P,w::vs,i+1,m,nd,h1,h2,hk=>by
  show bindL kindOf ((p,w)::P.zip vs) m x=_
  unfold bindL
  exact kJ (i:=i) (List.nodup_cons.mp nd).2 (by simpa using h1) (by simpa using h2) hk
theorem kL:∀{P:List Str} {vs:List Value} {i:Nat} {m:Str->Option Value},P.Nodup->P[i]?=some x->vs[i]?=some v->kindOf x≠some .local ->
  bindC kindOf (P.zip vs) m x=some v
 |[],_,_,_,_,h,_,_=>by simp at h
 |_::_,[],_,_,_,_,h,_=>by simp at h
 |p::P,w::vs,0,m,nd,h1,h2,hk=>by
  simp at h1 h2;subst h1;subst h2
  show bindC kindOf ((p,w)::P.zip vs) m p=_
  unfold bindC
  rw[kK λv hv=>(List.nodup_cons.mp nd).1 (adm hv).1,if_neg hk]
  simp
 |p::P,w::vs,i+1,m,nd,h1,h2,hk=>by
  show bindC kindOf ((p,w)::P.zip vs) m x=_
  unfold bindC
  exact kL (i:=i) (List.nodup_cons.mp nd).2 (by simpa using h1) (by simpa using h2) hk
def start(N:List Str)(vs:List V):St:=vs.map some++aaG (N.length - vs.length) none
def Aw(CX:IW)(P:aaB)(w:World)(K:aah)(mg:Str->Option Value)(base:Heap)(N:List Str)(qual:Str)(scope:Scope)(f:Addr)(cd:Value)(A:Around)(outer:List Env)(s:Shared)(H:Hp)(E:XK):Cx where
 prog:=P
 w:=w
 K:=K
 mg:=mg
 base:=base
 A:=A.deeper (envOfC qual scope s.heap.objs.size f cd)
 N:=N
 s₀:=s
 H₀:=H
 env:=envOfC qual scope s.heap.objs.size f cd
 outer:=outer
 stack:=envOfC qual scope s.heap.objs.size f cd::outer
 ex:=[]
 calm:=true
 fn:=λ_=>true
 pn:=[]
 xe:=λe s'=>wpAny (model P w) (A.deeper (envOfC qual scope s.heap.objs.size f cd)) (leaving (envOfC qual scope s.heap.objs.size f cd) e) (λ_ Jn=>CX outer H s E e Jn) (λe' Jn=>CX outer H s E e' Jn) s'
theorem mw{sc:Scope}(h:sc.names.lookup x=some .cell):∃c,(cellsFrom n sc.names []).lookup x=some c:=by
 have q:=PySem.W.cellsFrom_some sc.names n [] (.inl h)
 exact Option.isSome_iff_exists.mp q
variable{qual:Str}{scope:Scope}
theorem qg{cd:Value}{outer:List Env}{s1:Shared}
  (S:az N ps scope) (hd:A.handled=none) (e0:Gc P w K mg base A outer s H) (hl:vs.length=ps.length) (r:oR vs us)
  (x:InCallC s s.heap.objs.size (bindL (envOfC qual scope s.heap.objs.size f cd).kindOf (ps.zip us) λ_=>none) (cellsFrom (s.heap.objs.size+1) scope.names []) (bindC (envOfC qual scope s.heap.objs.size f cd).kindOf (ps.zip us) λ_=>none) s1) :
  Inv (Aw CX P w K mg base N qual scope f cd A outer s H E) [] (start N vs) H s1:=by
 have yt:ps.length<=N.length:=by have:=congrArg acX S.pre;rw[aa2]at this;omega
 obtain⟨h1,tk,rfl,hk⟩:=x.done
 have JF:∀b:Addr,b∉(Aw CX P w K mg base N qual scope f cd A outer s H E).ex:=λb z=>absurd (show b∈([]:List Addr)from z) (by simp)
 refine⟨⟨e0.mod,S.kind,rfl,rfl,aak _,λy z c h1 h2=>?_,λy hy=>?_,λy c _ h=>?_,λ_=>hd,Around.frames_deeper e0.frames,.inr ⟨rfl,rfl⟩,λb z=>absurd z (JF b),e0.bs,e0.GP,λb _ _=>JF b,λb z=>absurd z (JF b),e0.AZ,e0.IS⟩,
  rfl,e0.bare,Un.kept hk,⟨_,x.toInCall.ns,λi y v h1 h2 h3=>?_⟩,λy c h=>⟨_,x.cell y c h⟩,e0.wU.fresh (aak _),λy c h=>?_,λp hp=>absurd (show p∈([]:List (Addr×Obj))from hp) (by simp),e0.wU.kept hk,?_⟩
 .exact name_of_addr x.apart (abS h1) (abS h2)
 .have hy:scope.names.lookup y=some .cell\/scope.names.lookup y=some .free:=hy
  rcases hy with hy|hy
  .exact mw hy
  .exact absurd rfl (S.CM _ (abS hy))
 .exact aeS (x.above y c (abS h))
 .have hi:i<vs.length:=by
   unfold start at h2
   by_cases hi:i<vs.length
   .exact hi
   .rw[acx (by simpa using hi)]at h2
    rw[List.getElem?_replicate]at h2
    split at h2<;>cases h2
  have ha:vs[i]?=some v:=by
   unfold start at h2
   rw[aav (by simpa using hi),aai]at h2
   cases e:vs[i]? with
   |none=>rw[e]at h2;cases h2
   |some a=>rw[e]at h2;cases h2;rfl
  obtain⟨u,hu,rv⟩:=r.get ha
  have hp:ps[i]?=some y:=by
   rw[<- S.pre,List.getElem?_take_of_lt (by omega)];exact h1
  have Oz:ps.Nodup:=by rw[<- S.pre];exact S.nd.sublist (aeK _ _)
  refine⟨u,rv,?_⟩
  rcases S.par y (aaI hp)with k|k
  .exact .inl ⟨k,kJ Oz hp hu k⟩
  .obtain⟨c,e⟩:=mw (n:=s.heap.objs.size+1) k
   refine .inr ⟨.inl k,c,e,?_⟩
   have q:=x.cell y c e
   rw[kL Oz hp hu (by show scope.names.lookup y≠_;rw[k];decide)]at q
   exact q
 .exact e0.wU.fresh (aeS (x.above y c (abS h)))
 .unfold start
  show _=N.length
  rw[aaF,aad,ab0]
  omega
variable{pm:Value}
theorem sC{params:Arguments}{dV kV doc xn ct oc:Value}{an od:Option Addr}
  {Fx:Array (Option Value)} {N ps:List Str} {sp:Sp} (lk:K.lookup f=some ⟨oc,od,.func (acF name qual params body scope dV kV doc pm an xn ct),Fx⟩) (hcd:ael K xn qual=true) (S:az N ps scope)
  (len:∀vs H Q E,sp vs H Q E->vs.length=ps.length)
  (Ci:∀(A:Around) (outer:List Env) (s:Shared) (H:Hp) (vs:List V) (Q:VK) (E:XK),xw k (A.deeper (envOfC qual scope s.heap.objs.size f xn))->sp vs H Q E ->
   ∃t,C3 (Aw CX P w K mg base N qual scope f xn A outer s H E) body t/\t {nx:=λ_ H'=>Q .nE H',rt:=Q} (start N vs) H) :
  w4 P w K mg base CX (k+1) f (acF name qual params body scope dV kV doc pm an xn ct) ps sp:=by
 refine⟨len,λA outer s H args us vs Q E hr e0 hb r Fc=>?_⟩
 have hl:=len _ _ _ _ Fc
 have KX:K.In s.heap:=e0.mod.kin.keeps λb o e=>(e0.bs b o e).1
 have lim:s.heap.NoLimit:=e0.mod.nolimit.keeps λb o e=>(e0.bs b o e).1
 have xk:∀y∈ps.zip us,scope.names.lookup y.1=some .local\/(scope.names.lookup y.1=some .cell/\((cellsFrom (s.heap.objs.size+1) scope.names []).lookup y.1).isSome=true):=λ⟨n,v⟩ hy=>by
  rcases S.par n (adm hy).1 with q|q
  .exact .inl q
  .exact .inr ⟨q,PySem.W.cellsFrom_some _ _ _ (.inl q)⟩
 refine codeAny_call_function hr.depth (KX _ _ lk) rfl S.co S.gen rfl (PySem.W.codeRec_of KX hcd) (hb _ _ _ _ ?_)
 refine wpAny_newFunctionEnv_cells S.kind xk λenv he s1 x=>?_
 subst he
 refine⟨lim.keeps x.toInCall.keep,codeAny_func ?_⟩
 obtain⟨t,ht,hq⟩:=Ci A outer s H vs Q E (hr.deeper _) Fc
 have I:Inv (Aw CX P w K mg base N qual scope f xn A outer s H E) [] (start N vs) H s1:=qg S hr.hd e0 hl r x
 refine aaJ (ht [] s1 (start N vs) H _ I hq) (λfl s' hs=>?_) λe s' hs=>hs
 have fin:∀{σ':St} {H':Hp} {v:V} {u:Value},Inv (Aw CX P w K mg base N qual scope f xn A outer s H E) [] σ' H' s'->RelV v u->Q v H'->CE outer P w H s Q u s' :=
  λ{σ' H' v u} J rv q=>⟨v,H',J.os,J.bare,J.base,J.wU,rv,q⟩
 cases fl with
 |ret u=>
  obtain⟨v,σ',H',J,rv,q⟩:=hs
  exact fin J rv q
 |next=>
  obtain⟨σ',H',J,q⟩:=hs
  exact fin (v:=V.nE) (u:=aa1) J rfl q
 |brk=>
  obtain⟨_,_,_,q⟩:=hs
  exact acH q
 |cont=>
  obtain⟨_,_,_,q⟩:=hs
  exact acH q
section
variable{id T:String}{r:List V->Hp->VK->Prop}
def Ji(r:List V->Hp->VK->Prop)(t:TA):TE:=λσ H Q=>t σ H λvs H1=>r vs H1 Q
theorem bF(hc:wX X (.builtin id) r)(hg:Gl X x)(hm:X.mg x=none)(hv:aco x=some (.builtin id))(ha:PA X (e::es) t)(hn:x ≠ "__name__" :=by decide)(zR:(x==("__debug__" : Str))=false:=by decide)
  (he:aam (e::es) X.env=(false,eval e X.env)::aam es X.env:=by rfl) (yt:(backTo pos (aam es X.env)).any (·.1)=false:=by rfl):PE X (.Call (.Name x p) (e::es) [] pos) (Ji r t):=by
 intro pins s σ H Q I h
 refine acl (ed I hg hm hv ?_ hn zR)
 exact PyProof.Rows.callWith_builtin1 (xH (ha pos pins s σ H _ I h) λus s1 ⟨vs,H1,I1,r1,q1⟩=>hc pins s1 σ H1 vs us Q I1 r1 q1) he yt
theorem fK(hc:wX X (.type T) r)(hg:Gl X x)(hm:X.mg x=none)(hv:aco x=some (.type T))(ha:PA X (e::es) t)(hn:x ≠ "__name__" :=by decide)(zR:(x==("__debug__" : Str))=false:=by decide)
  (he:aam (e::es) X.env=(false,eval e X.env)::aam es X.env:=by rfl) (yt:(backTo pos (aam es X.env)).any (·.1)=false:=by rfl):PE X (.Call (.Name x p) (e::es) [] pos) (Ji r t):=by
 intro pins s σ H Q I h
 refine acl (ed I hg hm hv ?_ hn zR)
 exact afh (xH (ha pos pins s σ H _ I h) λus s1 ⟨vs,H1,I1,r1,q1⟩=>hc pins s1 σ H1 vs us Q I1 r1 q1) he yt
theorem om(hc:wX X (.type T) r)(hg:Gl X x)(hm:X.mg x=none)(hv:aco x=some (.type T))(hn:x ≠ "__name__" :=by decide)(zR:(x==("__debug__" : Str))=false:=by decide):
  PE X (.Call (.Name x p) [] [] pos) (Ji r DI):=by
 intro pins s σ H Q I h
 refine acl (ed I hg hm hv ?_ hn zR)
 exact PyProof.Rows.callWith_type0 (hc pins s σ H [] [] Q I .nil h)
end
end L2
namespace HT
open PySem PyProof.Rows
section
open PySem.SeqAt
open PySem.AutoSeq1 (wpAny_loadPart')
open PySem.MeetsSeq PySem.MeetsSeq2 PySem.MeetsSeq3
end
variable{prog:aaB}{w:World}{A:Around}{E:Value->Shared->Prop}{s:Shared}
theorem FW{t b:Addr}{vs ws:List Value}{Q:Value->Shared->Prop}(ht:IsTup s.heap t vs.toArray)(hb:IsTup s.heap b ws.toArray)(hv:vs≠[])
  (h1:ws=[]->Q (.ref t) s) (h2:ws≠[]->Q (.ref s.heap.objs.size) {s with heap:=s.heap.push {cls:=.type "tuple",data:=.seq (vs++ws).toArray}})
  (hsz:vs.length+ws.length<=sizeLine):wpAny (model prog w) A (acb .Add (.ref t) (.ref b)) Q E s:=by
 obtain⟨⟨cls,dd,data,sl⟩,ho,hc,n,hd⟩:=id ht
 obtain⟨⟨R8,Pg,data2,Of⟩,Lq,Kh,n2,hd2⟩:=id hb
 simp only at hc hd Kh hd2
 subst hc hd Kh hd2
 have e:vs.toArray++ws.toArray=(vs++ws).toArray:=by simp
 by_cases hw:ws=[]
 .exact concat_meets ⟨_,ho,rfl⟩ ⟨_,Lq,rfl⟩ aeX seq_tuple_add adX adP (adH _ _)
   (tuple_addW1 t b vs.toArray ws.toArray n n2 dd Pg sl Of (by simpa using hv) (by simp[hw])) ⟨ho,Lq,h1 hw⟩
 .refine concat_meets ⟨_,ho,rfl⟩ ⟨_,Lq,rfl⟩ aeX seq_tuple_add adX adP (adH _ _)
   (tuple_addW2 t b vs.toArray ws.toArray n n2 dd Pg sl Of (by simpa using hv) (by simpa using hw) (by rw[aae,aae];exact hsz)) ⟨ho,Lq,?_⟩
  rw[e]
  exact h2 hw
def xM(n d:Nat):Option Int->Nat
 |none=>d
 |some v=>if v<0 then (v+(n:Int)).toNat else min v.toNat n
theorem BZ(n d:Nat):xM n d none=d:=rfl
theorem Di(n d k:Nat):xM n d (some (k:Int))=min k n:=by
 show (if (k:Int)<0 then ((k:Int)+(n:Int)).toNat else min (k:Int).toNat n)=min k n
 rw[if_neg (by omega),acv]
theorem uQ(n d:Nat)(hd:d<=n)(o:Option Int):xM n d o<=n:=by
 cases o with
 |none=>exact hd
 |some v=>
  show (if v<0 then (v+(n:Int)).toNat else min v.toNat n)<=n
  by_cases hv:v<0
  .rw[if_pos hv];omega
  .rw[if_neg hv];exact Nat.min_le_right _ _
theorem nX(v:Int)(n d:Nat):(if v<0 then max (v+(n:Int)) 0 else min v (n:Int))=((xM n d (some v):Nat):Int):=by
 show (if v<0 then max (v+(n:Int)) 0 else min v (n:Int))=(((if v<0 then (v+(n:Int)).toNat else min v.toNat n):Nat):Int)
 by_cases hv:v<0
 .simp only[if_pos hv];omega
 .simp only[if_neg hv];omega
theorem o4(lo hi:Option Int)(n:Nat):adD lo hi 1 (n:Int)=(((xM n 0 lo:Nat):Int),((xM n n hi:Nat):Int)):=by
 have h1:¬ ((1:Int)<0):=by omega
 unfold adD
 simp only[h1,if_false]
 refine Prod.ext ?_ ?_
 .cases lo with
  |none=>rfl
  |some v=>exact nX v n 0
 .cases hi with
  |none=>rfl
  |some v=>exact nX v n n
theorem oi(i j:Nat):acC (i:Int) (j:Int) 1=j - i:=by
 unfold acC
 have h1:(1:Int) > 0:=by omega
 simp only[h1,if_true,Int.ediv_one]
 split<;>omega
theorem iJ{v:Value}{o:Option Int}{Q:Option Int->Shared->Prop}(p:IsPart v o)(h:Q o s):wpAny (model prog w) A (Builtin.Slice.slicePartIndex v) Q E s:=by
 cases p with
 |none=>exact slicePart_none h
 |int i t=>exact slicePart_int h
theorem yJ{sl:Addr}{vl vu:Value}{lo hi:Option Int}{n:Nat}{Q:Int×Int×Nat->Shared->Prop}(hs:s.heap.IsSliceOf sl vl vu .none)(pl:IsPart vl lo)(pu:IsPart vu hi)
  (h:Q (((xM n 0 lo:Nat):Int),1,xM n n hi - xM n 0 lo) s):wpAny (model prog w) A (afr (.ref sl) (pure (n:Int))) Q E s:=by
 obtain⟨os,Dt,HN,DU⟩:=id hs
 unfold afr Builtin.Slice.sliceFields
 refine aab (aab (wpAny_field Dt DU (x:=vl) rfl (aab (wpAny_field Dt DU (x:=vu) rfl (aab (wpAny_field Dt DU (x:=.none) rfl (aaf ?_)))))))
 refine aab (slicePart_none ?_)
 show wpAny _ _ (if ((1:Int)==0)=true then _ else _) _ _ s
 rw[if_neg (by decide)]
 refine aab (iJ pl (aab (iJ pu (aab (aaf ?_)))))
 show wpAny _ _ (match adD lo hi 1 (n:Int)with|(lo,hi)=>pure (lo,(1:Int),acC lo hi 1)) _ _ s
 rw[o4 lo hi n]
 show wpAny _ _ (pure (((xM n 0 lo:Nat):Int),(1:Int),acC ((xM n 0 lo:Nat):Int) ((xM n n hi:Nat):Int) 1)) _ _ s
 rw[oi]
 exact aaf h
theorem re(xs:Array Value)(i k:Nat):((aaR k).filterMap λ(m:Nat)=>xs[((i:Int)+(m:Int)*1).toNat]?).toArray=((xs.toList.drop i).take k).toArray:=by
 have e:(λ(m:Nat)=>xs[((i:Int)+(m:Int)*1).toNat]?)=λm=>xs[i+m]?:=by
  funext m
  have:((i:Int)+(m:Int)*1).toNat=i+m:=by omega
  rw[this]
 rw[e]
 have:=pick_run xs i k
 rw[ady]at this
 have e2:((λx=>xs[x]?) ∘ λx=>i+x)=λm=>xs[i+m]?:=rfl
 rw[e2]at this
 rw[this]
theorem zE{t sl:Addr}{items:Array Value}{vl vu:Value}{lo hi:Option Int}{Q:Value->Shared->Prop}(ht:IsTup s.heap t items)(hs:s.heap.IsSliceOf sl vl vu .none)(pl:IsPart vl lo)(pu:IsPart vu hi)
  (hw:¬ (xM items.size 0 lo=0/\xM items.size items.size hi=items.size))
  (h:Q (.ref s.heap.objs.size) {s with heap:=s.heap.push {cls:=.type "tuple",data:=.seq ((items.toList.drop (xM items.size 0 lo)).take (xM items.size items.size hi - xM items.size 0 lo)).toArray}})
  (hsz:items.size<=sizeLine):wpAny (model prog w) A (ad2 (.ref t) (.ref sl)) Q E s:=by
 have Ds:sizeOk (.seq ((items.toList.drop (xM items.size 0 lo)).take (xM items.size items.size hi - xM items.size 0 lo)).toArray):=by
  show ((items.toList.drop (xM items.size 0 lo)).take (xM items.size items.size hi - xM items.size 0 lo)).toArray.size<=sizeLine
  rw[aae,aa2,List.length_drop,aay]
  omega
 have hj:xM items.size items.size hi<=items.size:=uQ _ _ (aak _) hi
 obtain⟨os,Dt,HN,DU⟩:=id hs
 have Rq:s.TypeIs (.ref sl) "slice" := ⟨os,Dt,HN⟩
 unfold ad2
 try with_reducible refine aaN ?_
 first|refine aab (aaf ?_)|skip
 refine aab (wpAny_sequenceKey ht.typeIs (by decide) ?_)
 refine aab (adL (name:=abn "__getitem__") ht.typeIs ab2
  (abN ab2 ht.typeIs entry_tuple_getitem ?_ (args_tuple_getitem _ _)))
 show wpAny _ _ (afq (.ref t) >>= _) _ _ s
 refine aab (tupleItemsOf_ ht ?_)
 refine aab (ac2 Rq ?_)
 rw[if_pos (by decide)]
 refine aab (yJ hs pl pu ?_)
 have QM:¬ ((((xM items.size 0 lo:Nat):Int)==0 && (1:Int)==1 && (xM items.size items.size hi - xM items.size 0 lo)==items.size)=true):=by
  intro q
  rw[aaT,aaT]at q
  have q1:((xM items.size 0 lo:Nat):Int)=0:=eq_of_beq q.1.1
  have q2:xM items.size items.size hi - xM items.size 0 lo=items.size:=eq_of_beq q.2
  exact hw ⟨by omega,by omega⟩
 show wpAny _ _ (if (((xM items.size 0 lo:Nat):Int)==0 && (1:Int)==1 && (xM items.size items.size hi - xM items.size 0 lo)==items.size)=true then _ else _) _ _ s
 rw[if_neg QM,re]
 first
  |exact aab (m:=acI _) (abi (aaf ⟨_,rfl,aaf h⟩) Ds)
  |exact aab (m:=acI _) (abi (aab (aaf (aaf ⟨_,rfl,aaf h⟩))) Ds)
  |exact aab (aab (m:=acI _) (abi (aaf (aaf ⟨_,rfl,aaf h⟩)) Ds))
  |exact aab (aab (m:=acI _) (abi (aaf ⟨_,rfl,aaf h⟩) Ds))
end HT
namespace L2
open PySem PySem.Spec PyProof.Rows
abbrev TO:=St->Hp->(Option Int->Hp->Prop)->Prop
def PO(X:Cx)(e:Option Expr)(t:TO):Prop :=
 ∀(pins:List (Addr×Obj)) (s:Shared) (σ:St) (H:Hp) (Q:Option Int->Hp->Prop),Inv X pins σ H s->t σ H Q ->
  wpAny (model X.prog X.w) X.A (evalPart e X.env) (λu s'=>∃o H',Inv X pins σ H' s'/\IsPart u o/\Q o H') X.xe s
def sR:TO:=λ_ H Q=>Q none H
def Jb(t:TE):TO:=λσ H Q=>t σ H λx H1=>∃i,x=.int i/\Q (some i) H1
theorem i0{ns:List Int}:∀{us:List Value},oR (ns.map V.int) us->IntsAre us ns:=by
 induction ns with
 |nil=>intro us r;rw[adx]at r;cases r;exact .nil
 |cons n ns ih=>
  intro us r
  rw[aas]at r
  cases r with
  |cons r1 r2=>
   obtain⟨t,e⟩:=r1
   subst e
   exact .cons n t (ih r2)
variable{X:Cx}{e:Expr}{te:TE}{lo hi:Option Expr}{tl th:TO}{pos p2:Pos}
theorem jB:PO X none sR:=by
 intro pins s σ H Q I h
 rw[evalPart_none]
 exact aaf ⟨none,H,I,.none,h⟩
theorem jA(h:PE X e te):PO X (some e) (Jb te):=by
 intro pins s σ H Q I hw
 rw[evalPart_some]
 refine xH (h pins s σ H _ I hw) λu s1 ⟨x,H1,I1,r1,q1⟩=>?_
 obtain⟨i,rfl,q⟩:=q1
 obtain⟨t,rfl⟩:=r1
 exact⟨some i,H1,I1,.int i t,q⟩
def FY(X:Cx)(r:V->Option Int->Option Int->Hp->VK->Prop):Prop :=
 ∀(pins:List (Addr×Obj)) (s:Shared) (σ:St) (H:Hp) (x:V) (v vl vu:Value) (lo hi:Option Int) (sl:Addr) (Q:VK),Inv X pins σ H s->RelV x v->s.heap.IsSliceOf sl vl vu .none->IsPart vl lo->IsPart vu hi->r x lo hi H Q ->
  ∃T id,typeLookup (.type T) "__getitem__" = pure (some (.builtin id))/\s.TypeIs v T/\wpAny (model X.prog X.w) X.A (ad2 v (.ref sl)) (EP X pins σ Q) X.xe s
theorem FY.or{r r':V->Option Int->Option Int->Hp->VK->Prop}(h:FY X r)(h':FY X r'):FY X (λx lo hi H Q=>r x lo hi H Q\/r' x lo hi H Q):=by
 intro pins s σ H x v vl vu lo hi sl Q I rx hs pl pu q
 rcases q with q|q
 .exact h pins s σ H x v vl vu lo hi sl Q I rx hs pl pu q
 .exact h' pins s σ H x v vl vu lo hi sl Q I rx hs pl pu q
def PX(r:V->Option Int->Option Int->Hp->VK->Prop)(te:TE)(tl th:TO):TE:=λσ H Q=>te σ H λx H1=>tl σ H1 λl H2=>th σ H2 λu H3=>r x l u H3 Q
theorem hZ{r:V->Option Int->Option Int->Hp->VK->Prop}(hr:FY X r)(he:PE X e te)(hl:PO X lo tl)(hu:PO X hi th):PE X (.Subscript e (.Slice lo hi none p2) pos) (PX r te tl th):=by
 intro pins s σ H Q I h
 refine Subscript_ (xH (he pins s σ H _ I h) λv s1 ⟨x,H1,I1,r1,q1⟩=>?_)
 refine wpAny_Slice (xH (hl pins s1 σ H1 _ I1 q1) λvl s2 ⟨l,H2,I2,pl,q2⟩=>xH (hu pins s2 σ H2 _ I2 q2) λvu s3 ⟨u,H3,I3,pu,q3⟩=>?_)
 rw[evalPart_none]
 refine aaf ?_
 have I4:Inv X pins σ H3 {s3 with heap:=s3.heap.push {cls:=.type "slice",data:=.fields #[vl,vu,.none]}}:=I3.kept (t':=s3.toks) λb ob q=>aac _ q
 obtain⟨T,id,hT,ht,hg⟩:=hr pins {s3 with heap:=s3.heap.push {cls:=.type "slice",data:=.fields #[vl,vu,.none]}} σ H3 x v vl vu l u s3.heap.objs.size Q I4 r1 (Heap.IsSliceOf.new ..) pl pu q3
 show wpAny (model X.prog X.w) X.A (subscriptTail e (.Slice lo hi none p2) v (.ref s3.heap.objs.size)) (EP X pins σ Q) X.xe {s3 with heap:=s3.heap.push {cls:=.type "slice",data:=.fields #[vl,vu,.none]}}
 exact tail_any (ops:=[.ref s3.heap.objs.size,v]) ht hT hg (by with_unfolding_all rfl)
def zW(xs:List V)(lo hi:Option Int):List V:=(xs.drop (HT.xM xs.length 0 lo)).take (HT.xM xs.length xs.length hi - HT.xM xs.length 0 lo)
theorem gR(xs:List V)(lo hi:Option Int):(zW xs lo hi).length<=xs.length:=by
 unfold zW
 rw[aa2,List.length_drop]
 omega
def Mo(K:aah):V->Option Int->Option Int->Hp->VK->Prop:=λx lo hi H Q=>∃a xs,x=.ref a/\yI K H a xs /\
 ¬ (HT.xM xs.length 0 lo=0/\HT.xM xs.length xs.length hi=xs.length)/\∀p,H p=none->Q (.ref p) (upd H p (.tup (zW xs lo hi)))
theorem uP:FY X (Mo X.K):=by
 intro pins s σ H x v vl vu lo hi sl Q I rx hs pl pu h
 obtain⟨a,xs,rfl,hx,hw,q⟩:=h
 cases rx
 obtain⟨gE,r,ht,hz⟩:=I.tuple hx
 have hlen:gE.toArray.size=xs.length:=by rw[aae];exact r.length.symm
 refine⟨"tuple",_,PyProof.Rows.slot_tuple_getitem.lookup,ht.typeIs,?_⟩
 refine HT.zE ht hs pl pu (by rw[hlen];exact hw) ?_ (by rw[hlen];exact hz)
 rw[hlen]
 refine⟨.ref s.heap.objs.size,_,I.laid (t':=s.toks) (o:=.tup (zW xs lo hi)) (λb ob q=>aac _ q) (aak _) ?_,rfl,q _ (I.wU.fresh (aak _))⟩
 exact⟨aaX (gR xs lo hi) hz,_,(r.drop (HT.xM xs.length 0 lo)).take (HT.xM xs.length xs.length hi - HT.xM xs.length 0 lo),IsTup.new _ _⟩
def JA(K:aah):R2:=λx y H Q=>∃a b xs ys,x=.ref a/\y=.ref b/\yI K H a xs/\yI K H b ys/\xs≠[]/\xs.length+ys.length<=sizeLine /\
 (ys=[]->Q (.ref a) H)/\(ys≠[]->∀p,H p=none->Q (.ref p) (upd H p (.tup (xs++ys))))
variable{xs:List V}{us:List Value}
theorem oR.BG(r:oR xs us):us=[]↔xs=[]:=by
 cases r with
 |nil=>simp
 |cons _ _=>simp
theorem tN:ya X (acb .Add) (JA X.K):=by
 intro pins s σ H x y v u Q I rx ry h
 obtain⟨a,b,xs,ys,rfl,rfl,ha,hb,hx,hz,q1,q2⟩:=h
 cases rx
 cases ry
 obtain⟨gE,r1,p1,_⟩:=I.tuple ha
 obtain⟨yh,r2,p2,_⟩:=I.tuple hb
 refine HT.FW p1 p2 (λz=>hx (r1.BG.mp z)) (λz=>⟨.ref a,H,I,rfl,q1 (r2.BG.mp z)⟩) (λz=>?_) (by rw[<- r1.length,<- r2.length];exact hz)
 refine⟨.ref s.heap.objs.size,_,I.laid (t':=s.toks) (o:=.tup (xs++ys)) (λb ob q=>aac _ q) (aak _) ?_,rfl,q2 (λw=>z (r2.BG.mpr w)) _ (I.wU.fresh (aak _))⟩
 exact⟨by rw[aaF];exact hz,_,r1.append r2,IsTup.new _ _⟩
def D9(n:Nat)(i:Int):Option Nat:=if 0<=i then (if i<n then some i.toNat else none)else if -(n:Int)<=i then some (i+n).toNat else none
variable{α:Type}
def C1(xs:List α)(i:Int):Option α:=(D9 xs.length i).bind λj=>xs[j]?
variable{n j:Nat}{i:Int}
theorem jN(h:D9 n i=some j):ae9 i n=some j/\j<n /\ -(n:Int)<=i/\i<n:=by
 unfold D9 at h
 by_cases h0:0<=i
 .rw[if_pos h0]at h
  by_cases h1:i<n
  .rw[if_pos h1]at h
   have e:i.toNat=j:=aao h
   exact⟨by rw[seqIndex_of h0 h1,e],by omega,by omega,h1⟩
  .rw[if_neg h1]at h;cases h
 .rw[if_neg h0]at h
  by_cases h1 : -(n:Int)<=i
  .rw[if_pos h1]at h
   have e:(i+n).toNat=j:=aao h
   exact⟨by rw[seqIndex_neg (by omega) h1,e],by omega,h1,by omega⟩
  .rw[if_neg h1]at h;cases h
theorem jV{xs:List α}{v:α}(h:C1 xs i=some v):∃j,ae9 i xs.length=some j/\xs[j]?=some v/\j<xs.length /\ -(xs.length:Int)<=i/\i<xs.length:=by
 unfold C1 at h
 cases e:D9 xs.length i with
 |none=>rw[e]at h;cases h
 |some j=>
  rw[e]at h
  obtain⟨h1,h2,h3,h4⟩:=jN e
  exact⟨j,h1,h,h2,h3,h4⟩
theorem av{xs:List α}{v:α}(h:xs[j]?=some v):C1 xs (j:Int)=some v:=by
 have hj:j<xs.length:=(List.getElem?_eq_some_iff.mp h).1
 have e:D9 xs.length (j:Int)=some j:=by
  unfold D9
  rw[if_pos (by omega),if_pos (by omega)];simp
 unfold C1;rw[e];exact h
def eM(b:Expr):Prop:=∀o i,ae8 b false o i=operate [o,i] (ad2 o i)
def E7(X:Cx)(r:R2):Prop :=
 ∀(value slice:Expr) (pins:List (Addr×Obj)) (s:Shared) (σ:St) (H:Hp) (x y:V) (v u:Value) (Q:VK),Inv X pins σ H s->RelV x v->RelV y u->r x y H Q ->
  ae8 slice false v u=operate [v,u] (ad2 v u)->wpAny (model X.prog X.w) X.A (subscriptTail value slice v u) (EP X pins σ Q) X.xe s
def LH(X:Cx)(id:String)(r:V->List V->Hp->VK->Prop):Prop :=
 ∀(pins:List (Addr×Obj)) (s:Shared) (σ:St) (H:Hp) (x:V) (xs:List V) (v:Value) (us:List Value) (Q:VK),Inv X pins σ H s->RelV x v->oR xs us->r x xs H Q ->
  wpAny (model X.prog X.w) X.A (call (.builtin id) (v::us)) (EP X pins σ Q) X.xe s
section
variable{a b:Expr}{ta tb:TE}
theorem E7.or{r r':R2}(h:E7 X r)(h':E7 X r'):E7 X (λx y H Q=>r x y H Q\/r' x y H Q):=by
 intro value slice pins s σ H x y v u Q I rx ry q hs
 rcases q with q|q
 .exact h value slice pins s σ H x y v u Q I rx ry q hs
 .exact h' value slice pins s σ H x y v u Q I rx ry q hs
theorem br{r:R2}(hr:E7 X r)(ha:PE X a ta)(hb:PE X b tb)(hs:eM b):PE X (.Subscript a b pos) (An r ta tb):=by
 intro pins s σ H Q I h
 exact Subscript_ (Im ha hb I h λv u s2 x y H2 I2 rx ry q=>hr a b pins s2 σ H2 x y v u Q I2 rx ry q (hs _ _))
def AM(K:aah):R2:=λx y H Q=>∃p xs i v,x=.ref p/\y=.int i/\yf K H p xs/\C1 xs i=some v/\Q v H
def Jv(K:aah):R2:=λx y H Q=>∃p xs i v,x=.ref p/\y=.int i/\yI K H p xs/\C1 xs i=some v/\Q v H
def Jw:R2:=λx y H Q=>∃z i c,x=.str z/\y=.int i/\z.length<=sizeLine/\C1 z.cps.toList i=some c/\Q (.str ⟨#[c]⟩) H
theorem xE:E7 X (AM X.K):=by
 intro value slice pins s σ H x y v u Q I rx ry h hs
 obtain⟨p,xs,i,z,rfl,rfl,hq,he,q⟩:=h
 cases rx
 obtain⟨t,rfl⟩:=ry
 obtain⟨gE,r,pl,hz⟩:=I.list hq
 obtain⟨j,h1,h2,h3,h4,h5⟩:=jV he
 obtain⟨w,ew,AA⟩:=r.get h2
 have hl:=r.length
 have hn:=zv
 have fin:EP X pins σ Q w s:=⟨z,H,I,AA,q⟩
 by_cases h0:0<=i
 .have hj:i.toNat=j:=by
   rw[seqIndex_of h0 h5]at h1
   exact aao h1
  exact item_listR pl.isList h0 (by omega) (by rw[hj];simpa using ew) fin hs
 .have hj:(i+(gE.toArray.size:Int)).toNat=j:=by
   rw[seqIndex_neg (by omega) h4]at h1
   rw[aae,<- hl]
   exact aao h1
  exact subscriptTail_builtinR (x:=w) pl.isList.typeIs slot_list_getitem.lookup
   (wpAny_getItem_list_neg (Q:=λr s'=>r=w/\EP X pins σ Q r s') pl.isList (by omega) (by rw[aae]<;>omega) (by omega) (by rw[hj];simpa using ew) ⟨rfl,fin⟩) hs
theorem Hz:E7 X (Jv X.K):=by
 intro value slice pins s σ H x y v u Q I rx ry h hs
 obtain⟨p,xs,i,z,rfl,rfl,hq,he,q⟩:=h
 cases rx
 obtain⟨t,rfl⟩:=ry
 obtain⟨gE,r,pl,hz⟩:=I.tuple hq
 obtain⟨j,h1,h2,h3,h4,h5⟩:=jV he
 obtain⟨w,ew,AA⟩:=r.get h2
 have hl:=r.length
 have hn:=zv
 have fin:EP X pins σ Q w s:=⟨z,H,I,AA,q⟩
 exact subscriptTail_builtinR (x:=w) pl.typeIs slot_tuple_getitem.lookup
  (getItem_tuple (j:=j) (Q:=λr s'=>r=w/\EP X pins σ Q r s') pl (by omega) (by omega) (by rw[aae,<- hl];exact h1) (by simpa using ew) ⟨rfl,fin⟩) hs
theorem vF:E7 X Jw:=by
 intro value slice pins s σ H x y v u Q I rx ry h hs
 obtain⟨z,i,c,rfl,rfl,hz,he,q⟩:=h
 obtain⟨t,rfl⟩:=rx
 obtain⟨t',rfl⟩:=ry
 obtain⟨j,h1,h2,h3,h4,h5⟩:=jV he
 have hl:z.cps.toList.length=z.length:=by simp[Str.length]
 rw[hl]at h1 h4 h5
 have hn:=zv
 exact tail_any (typeIs_str s z t) slot_str_getitem.lookup (getItem_str (c:=c) (by
  have e1:decide (i < -(2 ^ 63:Int))=false:=decide_eq_false (by omega)
  have e2:decide (i ≥ 2 ^ 63)=false:=decide_eq_false (by omega)
  rw[e1,e2,Bool.or_false]) (by rw[h1];simpa using h2) ⟨.str ⟨#[c]⟩,H,I.tok _,⟨_,rfl⟩,q⟩) hs
def Ol(K:aah):R2:=λx y H Q=>AM K x y H Q\/Jv K x y H Q\/Jw x y H Q
theorem HA:E7 X (Ol X.K):=xE.or (Hz.or vF)
theorem oH(gE:List Value)(n j:Nat)(u:Value):abj (·.setIfInBounds j u) {cls:=.type "list",data:=.seq gE.toArray n}={cls:=.type "list",data:=.seq (gE.set j u).toArray n}:=by
 simp[abj]
theorem Inv.lst{pins:List (Addr×Obj)}{σ:St}{H:Hp}{s:Shared}{p:Addr}(I:Inv X pins σ H s)(h:H p=some (.lst xs)):
  ∃(gE:List Value) (n:Nat),oR xs gE/\s.heap.get? p=some {cls:=.type "list",data:=.seq gE.toArray n}/\xs.length<=sizeLine:=by
 obtain⟨z,gE,n,r,e⟩:=I.wU p _ h
 exact⟨gE,n,r,e,z⟩
theorem Inv.Hw{pins:List (Addr×Obj)}{σ:St}{H:Hp}{s:Shared}{p:Addr}{ys:List V}{gE its':List Value}{n':Nat}{f:Obj->Obj}(I:Inv X pins σ H s)(h:H p=some (.lst xs))
  (ho:s.heap.get? p=some {cls:=.type "list",data:=.seq gE.toArray n}) (hf:f {cls:=.type "list",data:=.seq gE.toArray n}={cls:=.type "list",data:=.seq its'.toArray n'}) (r:oR ys its') (hz:ys.length<=sizeLine) (t:Nat) :
  Inv X pins σ (upd H p (.lst ys)) {s with heap:=s.heap.update p f,toks:=t}:=by
 have e:(s.heap.update p f).get? p=some {cls:=.type "list",data:=.seq its'.toArray n'}:=by
  rw[abz f ho (by rw[hf]<;>rfl),hf]
 refine I.write (x:=p) (e:=p) (by rw[h];trivial) (.inl rfl) (λb u hb q=>(acS _ _ (abv hb)).trans q) ⟨_,e⟩ ?_
 exact⟨hz,its',n',r,e⟩
def Dj:V->V->V->Hp->(Hp->Prop)->Prop:=λo i v H Q=>∃p xs k j,o=.ref p/\i=.int k/\H p=some (.lst xs)/\D9 xs.length k=some j/\Q (upd H p (.lst (xs.set j v)))
theorem g6:Cr X Dj:=by
 intro pins s σ H o i v ov iv u Q I ro ri rv h
 obtain⟨p,xs,k,j,rfl,rfl,hp,hj,q⟩:=h
 cases ro
 obtain⟨t,rfl⟩:=ri
 obtain⟨gE,n,r,ho,hz⟩:=I.lst hp
 obtain⟨h1,h2,h3,h4⟩:=jN hj
 have hl:=r.length
 have hn:=zv
 have I':Inv X pins σ (upd H p (.lst (xs.set j v))) {s with heap:=s.heap.update p (abj (·.setIfInBounds j u))} :=
  I.Hw hp ho (oH gE n j u) (r.set rv j) (by rw[afl];exact hz) s.toks
 by_cases h0:0<=k
 .have hk:k.toNat=j:=by
   rw[seqIndex_of h0 h4]at h1
   exact aao h1
  exact PySem.W.ki_setAt ho h0 (by omega) (by rw[aae,<- hl];exact h4) (by rw[hk];exact⟨_,I',q⟩)
 .have hk:(k+(gE.toArray.size:Int)).toNat=j:=by
   rw[seqIndex_neg (by omega) h3]at h1
   rw[aae,<- hl]
   exact aao h1
  exact PySem.W.ki_setBack ho (by omega) (by rw[aae,<- hl];exact h3) (by omega) (by rw[hk];exact⟨_,I',q⟩)
theorem lj(lo hi:Option Int)(n:Nat):(adf lo hi none n).1=((HT.xM n 0 lo:Nat):Int)/\(adf lo hi none n).2.1=((HT.xM n n hi:Nat):Int)/\(adf lo hi none n).2.2=1:=by
 refine⟨?_,?_,rfl⟩
 .cases lo with
  |none=>simp[adf,HT.xM]
  |some i=>
   simp only[adf,HT.xM,Option.getD_none,show (1:Int) > 0 by decide,if_true]
   by_cases h:i<0
   .simp only[h,if_true]<;>omega
   .simp only[h,if_false]<;>omega
 .cases hi with
  |none=>simp[adf,HT.xM]
  |some i=>
   simp only[adf,HT.xM,Option.getD_none,show (1:Int) > 0 by decide,if_true]
   by_cases h:i<0
   .simp only[h,if_true]<;>omega
   .simp only[h,if_false]<;>omega
theorem kN(gE:List Value)(lo hi:Option Int):slicePick gE.toArray lo hi none=((gE.drop (HT.xM gE.length 0 lo)).take (HT.xM gE.length gE.length hi - HT.xM gE.length 0 lo)).toArray:=by
 obtain⟨h1,h2,h3⟩:=lj lo hi gE.toArray.size
 unfold slicePick
 rw[h1,h2,h3]
 simp only[sliceRange_one,pick_run,aae]<;>rfl
def Mp(K:aah):V->Option Int->Option Int->Hp->VK->Prop:=λx lo hi H Q=>∃a xs,x=.ref a/\yf K H a xs/\∀p,H p=none->Q (.ref p) (upd H p (.lst (zW xs lo hi)))
theorem jn:FY X (Mp X.K):=by
 intro pins s σ H x v vl vu lo hi sl Q I rx hs pl pu h
 obtain⟨a,xs,rfl,hx,q⟩:=h
 cases rx
 obtain⟨gE,r,ht,hz⟩:=I.list hx
 have hlen:=r.length
 refine⟨"list",_,slot_list_getitem.lookup,ht.isList.typeIs,?_⟩
 refine wpAny_getItem_list_slice ht.isList hs pl pu .none (by simp) ?_ (by rw[aae]<;>omega)
 rw[kN,<- hlen]
 refine⟨.ref s.heap.objs.size,_,I.laid (t':=s.toks) (o:=.lst (zW xs lo hi)) (λb ob q=>aac _ q) (aak _) ?_,rfl,q _ (I.wU.fresh (aak _))⟩
 exact⟨aaX (gR xs lo hi) hz,_,0,(r.drop (HT.xM xs.length 0 lo)).take (HT.xM xs.length xs.length hi - HT.xM xs.length 0 lo),aal _ rfl⟩
theorem lJ:ya X (abb .NotIn) (λx y H Q=>∃i j,x=.str i/\y=.str j/\Q (.bl (!(!(acO j i 0 j.length 1).isEmpty))) H):=by
 intro pins s σ H x y v u Q I rx ry h
 obtain⟨i,j,rfl,rfl,q⟩:=h
 obtain⟨t,rfl⟩:=rx
 obtain⟨t',rfl⟩:=ry
 exact notIn_str ⟨.bl _,H,I,rfl,q⟩
theorem fW:wX X (.builtin "len") (λxs H Q=>∃p ys,xs=[.ref p]/\(yf X.K H p ys\/yI X.K H p ys)/\Q (.int ys.length) H):=by
 intro pins s σ H xs us Q I r h
 obtain⟨p,ys,rfl,hq,q⟩:=h
 obtain⟨u,rfl,rx⟩:=vals1 r
 cases rx
 have hn:=zv
 rcases hq with hq|hq
 .obtain⟨gE,r',pl,hz⟩:=I.list hq
  have hlen:=r'.length
  exact Calls.call_len_list pl.isList (by simp only[aae]<;>omega) ⟨.int ys.length,H,I.tok _,⟨s.toks+1,by rw[aae,hlen]⟩,q⟩
 .obtain⟨gE,r',pl,hz⟩:=I.tuple hq
  have hlen:=r'.length
  exact len_tuple pl (by simp only[aae]<;>omega) ⟨.int ys.length,H,I.tok _,⟨s.toks+1,by rw[aae,hlen]⟩,q⟩
theorem mC:wX X (.builtin "len") (λxs H Q=>∃z,xs=[.str z]/\z.length<=sizeLine/\Q (.int z.length) H):=by
 intro pins s σ H xs us Q I r h
 obtain⟨z,rfl,hz,q⟩:=h
 obtain⟨u,rfl,t,rfl⟩:=vals1 r
 have hn:=zv
 exact len_str (by omega) ⟨.int z.length,H,I.tok _,⟨_,rfl⟩,q⟩
theorem wX.or{f:Value}{r r':List V->Hp->VK->Prop}(h:wX X f r)(h':wX X f r'):wX X f (λxs H Q=>r xs H Q\/r' xs H Q):=by
 intro pins s σ H xs us Q I rs q
 rcases q with q|q
 .exact h pins s σ H xs us Q I rs q
 .exact h' pins s σ H xs us Q I rs q
theorem mB:wX X (.type "list") (λxs H Q=>∃p ys,xs=[.ref p]/\(yf X.K H p ys\/yI X.K H p ys)/\∀l,H l=none->Q (.ref l) (upd H l (.lst ys))):=by
 intro pins s σ H xs us Q I r h
 obtain⟨p,ys,rfl,hq,q⟩:=h
 obtain⟨u,rfl,rx⟩:=vals1 r
 cases rx
 have fin:∀(gE:List Value),oR ys gE->ys.length<=sizeLine->∀(h':Heap) (c':Nat),(∀b o',s.heap.get? b=some o'->h'.get? b=some o') ->
   h'.get? s.heap.objs.size=some {cls:=.type "list",dict:=none,data:=.seq gE.toArray c',slots:=#[]}->EP X pins σ Q (.ref s.heap.objs.size) {s with heap:=h'}:=λgE r' hz h' c' kp e=>
  ⟨.ref s.heap.objs.size,_,I.laid (t':=s.toks) kp (aak _) (show xa X.prog X.w _ h' _ (.lst ys)from ⟨hz,gE,c',r',e⟩),rfl,q _ (I.wU.fresh (aak _))⟩
 rcases hq with hq|hq
 .obtain⟨gE,r',pl,hz⟩:=I.list hq
  have hlen:=r'.length
  obtain⟨o,ho,hc,n,hd⟩:=pl.isList
  exact call_list_seq p (.inl rfl) ho hc hd (λh' c' kp e=>fin gE r' hz h' c' kp e) (by simp only[aae]<;>omega)
 .obtain⟨gE,r',pl,hz⟩:=I.tuple hq
  have hlen:=r'.length
  obtain⟨o,ho,hc,n,hd⟩:=pl
  exact call_list_seq p (.inr rfl) ho hc hd (λh' c' kp e=>fin gE r' hz h' c' kp e) (by simp only[aae]<;>omega)
theorem kR:wX X (.type "tuple") (λxs H Q=>∃p ys,xs=[.ref p]/\((yf X.K H p ys/\∀l,H l=none->Q (.ref l) (upd H l (.tup ys)))\/(yI X.K H p ys/\Q (.ref p) H))):=by
 intro pins s σ H xs us Q I r h
 obtain⟨p,ys,rfl,h⟩:=h
 obtain⟨u,rfl,rx⟩:=vals1 r
 cases rx
 rcases h with ⟨hq,q⟩|⟨hq,q⟩
 .obtain⟨gE,r',pl,hz⟩:=I.list hq
  have hlen:=r'.length
  refine call_tuple_list pl.isList (λh' kp=>?_) (by simp only[aae]<;>omega)
  have I1:Inv X pins σ H {s with heap:=h'}:=I.kept (t':=s.toks) kp
  have I2:Inv X pins σ (upd H h'.objs.size (.tup ys)) {s with heap:=h'.push {cls:=.type "tuple",data:=.seq gE.toArray}} :=
   I1.laid (t':=s.toks) (λb o e=>aac _ e) (aak _) (show xa X.prog X.w _ _ _ (.tup ys)from ⟨hz,gE,r',IsTup.new _ _⟩)
  exact⟨.ref h'.objs.size,_,I2,rfl,q _ (I1.wU.fresh (aak _))⟩
 .obtain⟨gE,r',pl,hz⟩:=I.tuple hq
  exact call_tuple_same pl ⟨.ref p,H,I,rfl,q⟩
def L8(K:aah)(T:String)(x:V)(H:Hp):Prop:=match x with
 |.str _=>T = "str"
 |.int _=>T = "int"
 |.ref p=>(T = "list" /\ ∃xs,yf K H p xs)\/(T = "tuple" /\ ∃o,K.lookup p=some o/\o.cls=.type "tuple" /\ o.dict=none) \/
   (T = "dict" /\ ((∃kvs,H p=some (.dK kvs))\/∃kvs,H p=some (.dT kvs)))\/(T = "set" /\ ∃S n,H p=some (.set S n))
 |_=>False
theorem o7{pins:List (Addr×Obj)}{σ:St}{H:Hp}{s:Shared}{T:String}{x:V}{v:Value}(I:Inv X pins σ H s)(r:RelV x v)(ty:L8 X.K T x H):
  s.TypeIs v T/\∀a,v=.ref a->∃ob,s.heap.get? a=some ob/\ob.dict=none:=by
 cases x with
 |str z=>
  obtain⟨t,rfl⟩:=r
  cases (show T = "str" from ty)
  exact⟨typeIs_str s z t,λ_ e=>nomatch e⟩
 |int i=>
  obtain⟨t,rfl⟩:=r
  cases (show T = "int" from ty)
  exact⟨typeIs_int s i t,λ_ e=>nomatch e⟩
 |ref p=>
  cases r
  rcases ty with ⟨rfl,xs,hq⟩|⟨rfl,o,hk,hc,hd⟩|⟨rfl,hk⟩|⟨rfl,S,n,hk⟩
  .obtain⟨gE,_,pl,_⟩:=I.list hq
   refine⟨pl.isList.typeIs,λa e=>?_⟩
   cases e
   obtain⟨o,n,e,c,hd,_⟩:=pl
   exact⟨o,e,hd⟩
  .refine⟨⟨o,I.Hy p o hk,hc⟩,λa e=>?_⟩
   cases e
   exact⟨o,I.Hy _ o hk,hd⟩
  .have z:∃o,s.heap.get? p=some o/\o.ExactDict:=by
    rcases hk with ⟨kvs,hk⟩|⟨kvs,hk⟩
    .obtain⟨_,_,_,_,o,_,_,e,ex,_⟩:=I.wU p _ hk
     exact⟨o,e,ex⟩
    .obtain⟨_,_,_,_,o,_,_,e,ex,_⟩:=I.wU p _ hk
     exact⟨o,e,ex⟩
   obtain⟨o,e,ex⟩:=z
   refine⟨⟨o,e,ex.1⟩,λa e2=>?_⟩
   cases e2
   exact⟨o,e,ex.2.1⟩
  .obtain⟨o,_,_,_,e,ex,_⟩:=I.wU p _ hk
   refine⟨⟨o,e,ex.1⟩,λa e2=>?_⟩
   cases e2
   exact⟨o,e,ex.2.1⟩
 |_=>exact acH ty
def Mh(K:aah)(T:String)(r:V->List V->Hp->VK->Prop)(to:TE):TE:=λσ H Q=>to σ H λx H1=>L8 K T x H1/\r x [] H1 Q
def Ob(K:aah)(T:String)(r:V->List V->Hp->VK->Prop)(to:TE)(t:TA):TE:=λσ H Q=>to σ H λx H1=>L8 K T x H1/\t σ H1 λxs H2=>r x xs H2 Q
variable{o:Expr}{es:List Expr}{to:TE}{t:TA}{name:Str}{apos xg:Pos}{T id:String}{r:V->List V->Hp->VK->Prop}
theorem u7(pa:PlainAttrs T)(slot:Slot T name id)(HE:typeOf (.builtin id)=pure (.type "method_descriptor"))(hm:LH X id r)(ho:PE X o to)
  (x3:abW o name X.env (eval o X.env)=eval o X.env:=by rfl) (xY:(apos.endLine==xg.line)=true:=by rfl):PE X (.Call (.Attribute o name apos) [] [] xg) (Mh X.K T r to):=by
 intro pins s σ H Q I h
 refine wpAny_Call_method0_late x3 xY (xH (ho pins s σ H _ I h) λv s1 ⟨x,H1,I1,r1,ty,q1⟩=>?_)
 obtain⟨h1,h2⟩:=o7 I1 r1 ty
 exact⟨T,id,pa,slot,HE,h1,h2,acT rfl (PySem.evalArgs_none (hm pins s1 σ H1 x [] v [] Q I1 r1 .nil q1))⟩
theorem oq(pa:PlainAttrs T)(slot:Slot T name id)(HE:typeOf (.builtin id)=pure (.type "method_descriptor"))(hm:LH X id r)(ho:PE X o to)(ha:PA X (e::es) t)
  (x3:abW o name X.env (eval o X.env)=eval o X.env:=by rfl)
  (AX:((backTo xg (aam (e::es) X.env)).all (λx=>!x.1) && (aeh xg (acV [] X.env)).all (λx=>x.1.isSome)
   && decide ((e::es).length+([]:List ac9).length+(if ([]:List ac9).isEmpty then 0 else 1)<30))=true:=by rfl)
  (xY:(apos.endLine==xg.line)=true:=by rfl) (hs:aam (e::es) X.env=(false,eval e X.env)::aam es X.env:=by rfl) (yp:(backTo xg (aam es X.env)).any (·.1)=false:=by rfl) :
  PE X (.Call (.Attribute o name apos) (e::es) [] xg) (Ob X.K T r to t):=by
 intro pins s σ H Q I h
 refine wpAny_Call_method_late x3 AX xY rfl (xH (ho pins s σ H _ I h) λv s1 ⟨x,H1,I1,r1,ty,q1⟩=>?_)
 obtain⟨h1,h2⟩:=o7 I1 r1 ty
 refine⟨T,id,pa,slot,HE,h1,h2,?_⟩
 have hA:=ha xg pins s1 σ H1 _ I1 q1
 rw[hs]at hA ⊢
 refine acT (by show (false || (backTo xg (aam es X.env)).any (·.1))=false;rw[yp]<;>rfl) (Calls.evalArgs_plain ?_)
 exact xH hA λus s2 ⟨vs,H2,I2,r2,q2⟩=>hm pins s2 σ H2 x vs v us Q I2 r1 r2 q2

end
def N0(X:Cx)(id:String)(r:V->List V->Hp->VK->Prop):Prop :=
 ∀(pins:List (Addr×Obj)) (s:Shared) (σ:St) (H:Hp) (x:V) (xs:List V) (v:Value) (us:List Value) (Q:VK),Inv X pins σ H s->RelV x v->oR xs us->r x xs H Q ->
  wpAny (model X.prog X.w) X.A (call (.builtin id) (v::us)) (EP X pins σ Q) X.xe s
theorem oR.one:∀{x:V} {us:List Value},oR [x] us->∃u,us=[u]/\RelV x u
 |_,_,.cons r .nil=>⟨_,rfl,r⟩
theorem oR.zero:∀{us:List Value},oR [] us->us=[]
 |_,.nil=>rfl
theorem oR.dropLast(h:oR xs us):oR xs.dropLast us.dropLast:=by
 induction h with
 |nil=>exact .nil
 |cons r t ih=>
  cases t with
  |nil=>exact .nil
  |cons q t'=>exact .cons r ih
theorem oR.eraseIdx:∀{xs:List V} {us:List Value} (i:Nat),oR xs us->oR (xs.eraseIdx i) (us.eraseIdx i)
 |_,_,_,.nil=>.nil
 |_,_,0,.cons _ t=>t
 |_,_,i+1,.cons r t=>.cons r (oR.eraseIdx i t)
theorem oR.rep(h:oR xs us):∀k:Nat,oR (aaG k xs).flatten (aaG k us).flatten
 |0=>.nil
 |k+1=>by
  rw[abo,abo,abQ,abQ]
  exact oR.append h (oR.rep h k)
theorem oP(l:List α):l.eraseIdx (l.length - 1)=l.dropLast:=by
 induction l with
 |nil=>rfl
 |cons a r ih=>
  cases r with
  |nil=>rfl
  |cons b r=>
   have e:(a::b::r).length - 1=((b::r).length - 1)+1:=by
    have h1:(a::b::r).length=r.length+2:=rfl
    have h2:(b::r).length=r.length+1:=rfl
    omega
   rw[e,List.eraseIdx_cons_succ,ih]
   all_goals rfl
theorem kn:∀(l:List α) (i:Nat),(l.eraseIdx i).length<=l.length
 |[],_=>aak _
 |_::_,0=>acW _
 |_::r,i+1=>Nat.succ_le_succ (kn r i)
theorem kA(gE:List Value):∀(k:Nat) (acc:List Value),
  List.foldl (λx1 x2=>x1++x2) acc.toArray (aaG k gE.toArray)=(acc++(aaG k gE).flatten).toArray
 |0,acc=>by simp
 |k+1,acc=>by
  have e:acc.toArray++gE.toArray=(acc++gE).toArray:=by simp
  have e2:(acc++gE)++(aaG k gE).flatten=acc++(aaG (k+1) gE).flatten:=by
   rw[abo,abQ,ab8]
  rw[<- e2,<- kA gE k (acc++gE),<- e,abo,acq]
variable{pins:List (Addr×Obj)}{σ:St}{H:Hp}{s:Shared}{l b:Addr}{ys zs:List V}
variable{gE:List Value}{t':Nat}
theorem Inv.Hx{its':List Value}{f:Array Value->Array Value}(I:Inv X pins σ H s)(hH:H l=some (.lst xs))
  (e:s.heap.get? l=some {cls:=.type "list",data:=.seq gE.toArray n}) (hf:f gE.toArray=its'.toArray) (hv:oR ys its') (hz:ys.length<=sizeLine) :
  Inv X pins σ (upd H l (.lst ys)) {s with heap:=s.heap.update l (abj f),toks:=t'}:=by
 have q:=PySem.IsL.update e f
 rw[hf]at q
 refine I.write (x:=l) (e:=l) (by rw[hH];exact trivial) (.inl rfl) (λb' u hb hu=>(acS s.heap (abj f) (abv hb)).trans hu) ⟨_,q⟩ ?_
 exact⟨hz,its',_,hv,q⟩
theorem Inv.JL(I:Inv X pins σ H s)(hv:oR ys gE)(hz:ys.length<=sizeLine):
  Inv X pins σ (upd H s.heap.objs.size (.lst ys)) {s with heap:=s.heap.push {cls:=.type "list",data:=.seq gE.toArray},toks:=t'} :=
 I.laid (λ_ _ q=>aac _ q) (aak _) ⟨hz,gE,0,hv,aal _ rfl⟩
theorem Inv.fresh(I:Inv X pins σ H s):H s.heap.objs.size=none:=I.wU.fresh (aak _)
theorem Inv.DN(I:Inv X pins σ H s)(hH:H l=some (.lst xs)):xs.length<=sizeLine/\∃(gE:List Value) (n:Nat),oR xs gE/\xs.length=gE.length/\s.heap.get? l=some {cls:=.type "list",data:=.seq gE.toArray n}:=by
 obtain⟨z,gE,n,r,e⟩:=I.wU l _ hH
 exact⟨z,gE,n,r,r.length,e⟩
theorem rF(h:n<=sizeLine):adK n=false:=by
 unfold adK
 exact decide_eq_false (by omega)
def m5:V->List V->Hp->VK->Prop:=λx vs H Q=>∃l xs y,x=.ref l/\vs=[y]/\H l=some (.lst xs)/\xs.length<sizeLine/\Q .nE (upd H l (.lst (xs++[y])))
theorem aX:N0 X "list.append" m5:=by
 intro pins s σ H x vs v us Q I rx rv h
 obtain⟨l,xs,y,rfl,rfl,hH,hz,q⟩:=h
 cases rx
 obtain⟨u,rfl,ru⟩:=rv.one
 obtain⟨z,gE,n,r,hl,e⟩:=I.DN hH
 refine aeg F.slot_list_append ⟨_,e,rfl⟩ F.entry_list_append (F.args_list_append_2 _ _) (PySem.list_append l gE.toArray n u (by rw[aae];omega)) ⟨e,?_⟩
 refine⟨.nE,_,I.Hx (its':=gE++[u]) hH e (by simp) (r.append (.cons ru .nil)) ?_,rfl,q⟩
 rw[aaF,aea]
 omega
def Js:V->List V->Hp->VK->Prop:=λx vs H Q=>∃l xs y,x=.ref l/\vs=[]/\H l=some (.lst xs)/\xs[xs.length - 1]?=some y/\Q y (upd H l (.lst xs.dropLast))
theorem vn:N0 X "list.pop" Js:=by
 intro pins s σ H x vs v us Q I rx rv h
 obtain⟨l,xs,y,rfl,rfl,hH,hy,q⟩:=h
 cases rx
 have Qv:=rv.zero
 subst Qv
 obtain⟨z,gE,n,r,hl,e⟩:=I.DN hH
 obtain⟨u,hu,ru⟩:=r.get hy
 have Ll:gE.toArray[gE.toArray.size - 1]?=some u:=by
  show gE.toArray[gE.length - 1]?=some u
  rw[<- abp,<- hl]
  exact hu
 refine aeg F.slot_list_pop ⟨_,e,rfl⟩ F.entry_list_pop (F.args_list_pop_1 _) (MeetsSeq.list_pop_last l gE.toArray n u Ll (by rw[aae];omega)) ⟨e,?_⟩
 refine⟨y,_,I.Hx (its':=gE.dropLast) hH e ?_ r.dropLast ?_,ru,q⟩
 .show gE.toArray.eraseIdxIfInBounds (gE.toArray.size - 1)=gE.dropLast.toArray
  rw[aae,aeN,oP]
 .rw[List.length_dropLast]
  omega
def ED:V->List V->Hp->VK->Prop:=λx vs H Q=>∃l xs i k y,x=.ref l/\vs=[.int i]/\H l=some (.lst xs) /\ -(2 ^ 63)<=i/\i<2 ^ 63/\ae9 i xs.length=some k/\xs[k]?=some y/\Q y (upd H l (.lst (xs.eraseIdx k)))
theorem lN:N0 X "list.pop" ED:=by
 intro pins s σ H x vs v us Q I rx rv h
 obtain⟨l,xs,i,k,y,rfl,rfl,hH,h1,h2,hk,hy,q⟩:=h
 cases rx
 obtain⟨u,rfl,ru⟩:=rv.one
 obtain⟨t,rfl⟩:=ru
 obtain⟨z,gE,n,r,hl,e⟩:=I.DN hH
 obtain⟨w,hw,AA⟩:=r.get hy
 refine aeg F.slot_list_pop ⟨_,e,rfl⟩ F.entry_list_pop (F.args_list_pop_2 _ _)
  (MeetsSeq.list_pop_at l gE.toArray n i t k w (fitsIndex_both h1 h2) (by rw[aae,<- hl];exact hk) (by rw[<- abp];exact hw) (by rw[aae];omega)) ⟨e,?_⟩
 refine⟨y,_,I.Hx (its':=gE.eraseIdx k) hH e ?_ (r.eraseIdx k) ?_,AA,q⟩
 .show gE.toArray.eraseIdxIfInBounds k=(gE.eraseIdx k).toArray
  rw[aeN]
 .have:=kn xs k
  omega
def JB:R2:=λx y H Q=>∃l b xs zs,x=.ref l/\y=.ref b/\H l=some (.lst xs)/\H b=some (.lst zs)/\xs.length+zs.length<=sizeLine/\∀p,H p=none->Q (.ref p) (upd H p (.lst (xs++zs)))
theorem vh:ya X (acb .Add) JB:=by
 intro pins s σ H x y v u Q I rx ry h
 obtain⟨l,b,xs,zs,rfl,rfl,hH,hB,hz,q⟩:=h
 cases rx
 cases ry
 obtain⟨z,gE,n,r,hl,e⟩:=I.DN hH
 obtain⟨z2,yh,n2,r2,BJ,e2⟩:=I.DN hB
 refine PySem.P.add_list e e2 ?_ (by rw[aae,aae];omega)
 have ea:gE.toArray++yh.toArray=(gE++yh).toArray:=by simp
 rw[ea]
 exact⟨.ref _,_,I.JL (t':=s.toks) (r.append r2) (by rw[aaF];omega),rfl,q _ I.fresh⟩
def Jr:R2:=λx y H Q=>∃l k xs,x=.ref l/\y=.int k/\H l=some (.lst xs) /\ -(2 ^ 63)<=k/\k<2 ^ 63/\xs.length*k.toNat<=sizeLine /\
 ∀p,H p=none->Q (.ref p) (upd H p (.lst (aaG k.toNat xs).flatten))
theorem tZ(xs:List α)(k:Nat):(aaG k xs).flatten.length=k*xs.length:=by
 induction k with
 |zero=>simp
 |succ k ih=>rw[abo,abQ,aaF,ih,Nat.succ_mul,ac6]
theorem ve:ya X (acb .Mult) Jr:=by
 intro pins s σ H x y v u Q I rx ry h
 obtain⟨l,k,xs,rfl,rfl,hH,h1,h2,hz,q⟩:=h
 cases rx
 obtain⟨t,rfl⟩:=ry
 obtain⟨z,gE,n,r,hl,e⟩:=I.DN hH
 have hlen:gE.toArray.size*k.toNat<=sizeLine:=by rw[aae,<- hl];exact hz
 have xO:¬ gE.toArray.size*k.toNat > (2 ^ 63 - 1) / 8:=by
  have:(sizeLine:Nat)<=(2 ^ 63 - 1) / 8:=by decide
  omega
 have Nn:¬ (!Builtin.List.listFitsIndex k)=true:=by
  rw[fitsIndex_both h1 h2]
  exact aaz
 have J9:¬ adK (gE.toArray.size*k.toNat)=true:=by
  rw[rF hlen]
  exact aaz
 have zD:List.foldl (λx1 x2=>x1++x2) #[] (aaG (if gE.toArray.isEmpty=true then 0 else k.toNat) gE.toArray)=(aaG k.toNat gE).flatten.toArray:=by
  have f0:∀m:Nat,List.foldl (λx1 x2=>x1++x2) #[] (aaG m gE.toArray)=(aaG m gE).flatten.toArray:=λm=>by
   have:=kA gE m []
   rw[abe]at this
   exact this
  rw[f0]
  cases gE with
  |nil=>simp
  |cons a r'=>rw[if_neg (by simp)]
 refine wpAny_binaryOp_repeat_ref (T := "list") (U := "int") (by decide) ⟨_,e,rfl⟩ (λs'=>typeIs_int s' k t) noFill_list_mul F.fills_int_mul F.slot_int_rmul repeat_list F.slot_int_index.lookup
  (aeg F.slot_int_rmul (typeIs_int s k t) F.entry_int_rmul (F.args_int_rmul_2 _ _) (int___rmul___int_list k t l gE.toArray n)
   ⟨e,rfl,⟨_,e,rfl⟩,aeg F.slot_list_mul ⟨_,e,rfl⟩ F.entry_list_mul (F.args_list_mul_2 _ _) (AutoListH.list___mul___list_int_3 l gE.toArray n k t Nn xO J9) ⟨e,?_⟩⟩)
 rw[zD]
 exact⟨.ref _,_,I.JL (t':=s.toks) (r.rep k.toNat) (by rw[tZ,Nat.mul_comm];exact hz),rfl,q _ I.fresh⟩
variable{prog:aaB}{w:World}{A:Around}{E:Value->Shared->Prop}
end L2
namespace Att
open PySem PySem.W PySem.Calls PyProof.Rows
theorem iZ{P:Params}{h:Heap}:∀(ns:List Int) (vs:List Value),WellAll P h vs (ns.map WData.int)->IntsAre vs ns:=by
 intro ns
 induction ns with
 |nil=>
  intro vs w
  rw[adx]at w
  cases w
  exact .nil
 |cons n ns ih=>
  intro vs w
  rw[aas]at w
  cases w with
  |cons a b=>
   cases a
   exact .cons _ _ (ih _ b)
theorem po{l:OpenLaw}{n:Nat}(hn:l.most=some n){P:Params}{h:Heap}{args:List WData}{vals:List Value}
  (FE:l.row.toRowW.claim.pre args=true) (MQ:WellAll P h vals args) :
  ∃a vs ns,vals=[aaM a]/\args=[WData.list (ns.map WData.int)]/\h.get? a=some {cls:=.type "list",data:=.seq vs.toArray}/\IntsAre vs ns/\ns.length<=n:=by
 have Qz:WShape.hasAll [] args [.list .int]=true:=(pre_splitW FE).1
 have hc:l.pre.holds [] {args:=args}=true:=(pre_splitW FE).2
 obtain⟨d,r,rfl,h1,h2⟩:=hasAllW_cons Qz
 obtain rfl:=hasAllW_nil h2
 obtain⟨xs,rfl,h3⟩:=hasW_list h1
 obtain⟨ns,rfl⟩:=items_int h3
 have hlen:ns.length<=n:=by
  unfold OpenLaw.pre at hc
  have h4:(WTm.not (.lt (.lit (.int (n:Int))) (.len (.arg 0)))).holds [] {args:=[.list (ns.map .int)]}=true:=by
   have h4:=(holds_andW hc).1
   rw[hn]at h4
   exact h4
  have h5:=condW_of h4 (w_not (w_lt w_lit (w_len_list (w_arg rfl))))
  rw[aad]at h5
  refine Nat.le_of_not_lt λq=>?_
  have q':(n:Int)<((ns.length:Nat):Int):=by omega
  first
   |(rw[decide_eq_true q']at h5;exact absurd h5 (by decide))
   |(simp at h5;omega)
 cases MQ with
 |cons w1 w2=>
  cases w2
  cases w1 with
  |list ho HR=>exact⟨_,_,ns,rfl,rfl,ho,iZ ns _ HR,hlen⟩
theorem pF(l:OpenLaw)(args:List WData):l.row.toRowW.claim.post args (.bool true) args=true :=
 postW_of (r:=l.row.toRowW) (X:=(true==true))
  (show WShape.has [] (.bool true) .bool=true by first|rfl|decide|simp[WShape.has,WShape.arms,WShape.armsAll])
  (show (WTm.eq .res (.lit (.bool true))).value [] {args:=args,res:=some (.bool true),after:=args}=some (.bool (true==true))from w_eq_bool (w_res rfl) w_lit) rfl
theorem Cp{l:OpenLaw}{n:Nat}{q:aaB}{loose:List Str}{XP:(Str->Option Value)->Heap->Prop}{YP:World->Heap->Prop}{d:DefRec}
  (hn:l.most=some n) (Ke:d.params.defaults=[])
  (call:∀(w:World) (s₀ s₁:Shared) (mg mb:Str->Option Value) (fa:Addr) (o:Obj) (pm cd doc:Value) (a:Addr) (vs:List Value) (ns:List Int),
   Ground q loose [] XP w s₀ mg mb s₁.heap->YP w s₁.heap ->
   s₁.heap.get? fa=some o->o.data=.func (docDef d.name d.params d.body d.scope pm cd doc)->s₁.heap.CodeRec cd d.name->mg d.name=some (.ref fa) ->
   s₁.heap.get? a=some {cls:=.type "list",data:=.seq vs.toArray}->IntsAre vs ns->ns.length<=n->s₁.gens=#[] ->
   adi (model l.prog w) afd (.call (.ref fa) ⟨[.ref a],[]⟩) (λr s'=>r=.ok (.ret (.bool true))/\OldK s₁.heap s'.heap/\s'.os=s₁.os/\aet s'.gens) s₁) :
  WalkO q loose XP YP l.row.toRowW d [] (λf vs=>PySem.call f vs):=by
 intro w s₀ s₁ mg mb G Y fa o pm cd doc dV kV ho hd hcd hD hmg hg args vals as FE QV SF MQ SI
 obtain rfl:dV=.none:=Dflts.none hD Ke
 obtain rfl:kV=.none:=Dflts.noKw hD
 obtain⟨a,vs,ns,rfl,rfl,HH,hints,hlen⟩:=po hn FE MQ
 refine enter_call (adt (call w s₀ s₁ mg mb fa o pm cd doc a vs ns G Y ho (fd_plain hd) hcd hmg HH hints hlen hg) λr s' hq=>?_)
 obtain⟨rfl,h2,h3,h4⟩:=hq
 exact⟨.inl ⟨.bool true,.bool true,[],rfl,λ_=>rfl,.bool true,pF l _,λ_=>⟨aeO,λ_ hm=>(nomatch hm)⟩⟩,h2,h3,h4⟩
variable{prog:aaB}{w:World}{A:Around}{E:Value->Shared->Prop}{s:Shared}{K:Frag}
end Att
namespace L2
open PySem PySem.Spec PyProof.Rows
theorem fB:∀{vs:List Value} {ns:List Int},IntsAre vs ns->oR (ns.map V.int) vs
 |_,_,.nil=>.nil
 |_,_,.cons n t h=>.cons ⟨t,rfl⟩ (fB h)
end L2

namespace L2
open PySem PySem.Spec PyProof.Rows
def cT(s:Stmt):Arguments:=match s with
 |.FunctionDef _ a _ _ _ _ _ _ _ _=>a
 |_=>{posonlyargs:=[],args:=[],vararg:=none,kwonlyargs:=[],kw_defaults:=[],kwarg:=none,defaults:=[]}
def aZ(s:Stmt):List Stmt:=match s with
 |.FunctionDef _ _ b _ _ _ _ _ _ _=>b
 |_=>[]
def ap(s:Stmt):Scope:=match s with
 |.FunctionDef _ _ _ _ _ _ sc _ _ _=>sc
 |_=>{kind:=.function,names:=[],isGenerator:=false,isCoroutine:=false}
abbrev ye:IW:=λ_ _ _ _ _ _=>False
abbrev E0:XK:=λ_ _ _=>False
variable{X:Cx}
theorem B7:C2 ye X E0:=λ_ _ _ _ _ _ _ h=>h.elim
structure C6(K:aah)(x qual:Str)(st:Stmt)(f:Addr)(fd:abA):Prop where
 ex:∃(oc:Value) (od:Option Addr) (kV doc pm:Value) (an:Option Addr) (xn ct:Value) (Fx:Array (Option Value)),
  fd=acF x qual (cT st) (aZ st) (ap st) .none kV doc pm an xn ct/\K.lookup f=some ⟨oc,od,.func fd,Fx⟩/\ael K xn qual=true
 kp:abH K (.ref f)=true
variable{P:aaB}{w:World}{K:aah}{mg:Str->Option Value}{base:Heap}
variable{x qual:Str}{st:Stmt}{f:Addr}{fd:abA}{N ps:List Str}{k:Nat}{sp:Sp}
theorem C6.ok(F:C6 K x qual st f fd)(S:az N ps (ap st))(len:∀vs H Q E,sp vs H Q E->vs.length=ps.length)
  (Ci:∀(xn:Value) (A:Around) (outer:List Env) (s:Shared) (H:Hp) (vs:List V) (Q:VK) (E:XK),xw k (A.deeper (envOfC qual (ap st) s.heap.objs.size f xn))->sp vs H Q E ->
   ∃t,C3 (Aw ye P w K mg base N qual (ap st) f xn A outer s H E).EH (aZ st) t/\t {nx:=λ_ H'=>Q .nE H',rt:=Q} (start N vs) H):w4 P w K mg base ye (k+1) f fd ps sp:=by
 obtain⟨oc,od,kV,doc,pm,an,xn,ct,Fx,rfl,lk,hcd⟩:=F.ex
 refine sC lk hcd S len λA outer s H vs Q E hr Fc=>?_
 obtain⟨t,h,q⟩:=Ci xn A outer s H vs Q E hr Fc
 exact⟨t,h.EH,q⟩
theorem C6.binds(F:C6 K x qual st f fd)
  (h:∀(kV doc pm:Value) (an:Option Addr) (xn ct:Value) (us:List Value),us.length=ps.length->ac0 (acF x qual (cT st) (aZ st) (ap st) .none kV doc pm an xn ct) ⟨us,[]⟩=pure (ps.zip us)):Binds K fd ps []:=by
 obtain⟨oc,od,kV,doc,pm,an,xn,ct,Fx,rfl,lk,hcd⟩:=F.ex
 exact .all (h kV doc pm an xn ct)
variable{pm:Value}
theorem qo{oc:Value}{od an:Option Addr}{Fx:Array (Option Value)}{kV doc xn ct:Value}(l:K.lookup f=some ⟨oc,od,.func (acF x qual (cT st) (aZ st) (ap st) .none kV doc pm an xn ct),Fx⟩)
  (c:ael K xn qual=true) (k:abH K (.ref f)=true):C6 K x qual st f (acF x qual (cT st) (aZ st) (ap st) .none kV doc pm an xn ct):=⟨⟨oc,od,kV,doc,pm,an,xn,ct,Fx,rfl,l,c⟩,k⟩
variable{pos:Pos}
theorem pv(i:Nat)(hN:X.N[i]?=some x:=by rfl)(hv:D3 X.env.scope x:=by first|exact Or.inl rfl|exact Or.inr (Or.inl rfl)|exact Or.inr (Or.inr rfl))(hd:(x==("__debug__" : Str))=false:=by decide)
  (hcd:(x==("__classdict__" : Str))=false:=by decide):PE X (.Name x pos) (xx i):=uX hN hv hd hcd
variable{A B:Prop}
theorem Ar(h:B):if false=true then A else B:=by
 rw[if_neg aaz]
 exact h
theorem AV(h:A):if true=true then A else B:=by
 rw[if_pos rfl]
 exact h
theorem JS{c:Prop}[Decidable c](h1:c->A)(h2:¬ c->B):if c then A else B:=by
 by_cases h:c
 .rw[if_pos h]
  exact h1 h
 .rw[if_neg h]
  exact h2 h
def dO(H H':Hp):Prop:=∀b o,H b=some o->H' b=some o
theorem dO.refl(H:Hp):dO H H:=λ_ _ h=>h
variable{H H':Hp}{l:Addr}
theorem dO.free(e:dO H H')(h:H' l=Option.none):H l=Option.none:=by
 cases q:H l with
 |none=>rfl
 |some o=>
  rw[e l o q]at h
  cases h
variable{a:Addr}{xs:List V}
theorem dO.seq(e:dO H H')(h:yf K H a xs):yf K H' a xs:=by
 rcases h with (h|⟨o,h⟩)|h
 .exact .inl (.inl (e _ _ h))
 .exact .inl (.inr ⟨o,e _ _ h⟩)
 .exact .inr h
section
variable{κ:Type}[DecidableEq κ]
def yP(kvs:List (κ×V))(k:κ):Option V:=(kvs.find? λkv=>decide (kv.1=k)).map (·.2)
def putK(kvs:List (κ×V))(k:κ)(v:V):List (κ×V) :=
 if (kvs.any λkv=>decide (kv.1=k))=true then kvs.map (λkv=>if kv.1=k then (kv.1,v)else kv)else kvs++[(k,v)]
theorem eO{p:κ×V}{r:List (κ×V)}{k:κ}(e:p.1=k):yP (p::r) k=some p.2:=by simp[yP,abK,e]
theorem eR{p:κ×V}{r:List (κ×V)}{k:κ}(e:¬ p.1=k):yP (p::r) k=yP r k:=by simp[yP,abK,e]
theorem la(k:κ):∀kvs:List (κ×V),(kvs.any λkv=>decide (kv.1=k))=(yP kvs k).isSome
 |[]=>rfl
 |p::r=>by
  rw[List.any_cons]
  by_cases e:p.1=k
  .simp only[eO e,decide_eq_true e,Bool.true_or,aey]
  .rw[eR e,decide_eq_false e,Bool.false_or];exact la k r
theorem cq(kvs:List (κ×V))(k:κ)(v:V):(putK kvs k v).length<=kvs.length+1:=by
 unfold putK
 split
 .rw[aad];omega
 .rw[aaF,aa3,ab6];omega
theorem Bc.yK{o:Option V}{u:Option Value}(r:Bc o u):o.isSome=u.isSome:=by
 cases o with
 |none=>cases u with
  |none=>rfl
  |some _=>exact(show False from r).elim
 |some _=>cases u with
  |none=>exact(show False from r).elim
  |some _=>rfl
theorem KV.val{kvs:List (κ×V)}{vs:List (κ×Value)}(r:KV kvs vs)(k:κ):Bc (yP kvs k) (aeD vs k):=by
 unfold KV at r
 induction r with
 |nil=>exact adF
 |@cons p q ps qs h t ih=>
  obtain⟨h1,h2⟩:=h
  by_cases e:p.1=k
  .have e':q.1=k:=h1.symm.trans e
   have b:aeD (q::qs) k=some q.2:=by simp[aeD,abK,e']
   rw[eO e,b];exact h2
  .have e':¬ q.1=k:=λz=>e (h1.trans z)
   have b:aeD (q::qs) k=aeD qs k:=by simp[aeD,abK,e']
   rw[eR e,b];exact ih
theorem KV.any{kvs:List (κ×V)}{vs:List (κ×Value)}(r:KV kvs vs)(k:κ):(kvs.any λkv=>decide (kv.1=k))=vs.any λkv=>decide (kv.1=k):=by
 unfold KV at r
 induction r with
 |nil=>rfl
 |cons h t ih=>rw[List.any_cons,List.any_cons,ih,h.1]
theorem KV.Hi{kvs:List (κ×V)}{vs:List (κ×Value)}(r:KV kvs vs)(k:κ){y:V}{u:Value}(ry:RelV y u):
  KV (kvs.map λkv=>if kv.1=k then (kv.1,y)else kv) (vs.map λkv=>if kv.1=k then (kv.1,u)else kv):=by
 unfold KV at r ⊢
 induction r with
 |nil=>exact .nil
 |@cons p q ps qs h t ih=>
  rw[aas,aas]
  refine .cons ?_ ih
  obtain⟨h1,h2⟩:=h
  by_cases e:p.1=k
  .rw[if_pos e,if_pos (h1.symm.trans e)];exact⟨h1,ry⟩
  .rw[if_neg e,if_neg (λz=>e (h1.trans z))];exact⟨h1,h2⟩
theorem KV.put{kvs:List (κ×V)}{vs:List (κ×Value)}(r:KV kvs vs)(k:κ){y:V}{u:Value}(ry:RelV y u):KV (putK kvs k y) (stored vs k u):=by
 unfold putK stored
 rw[r.any k]
 by_cases e:(vs.any λkv=>decide (kv.1=k))=true
 .rw[if_pos e,if_pos e];exact r.Hi k ry
 .rw[if_neg e,if_neg e];exact Paired.snoc r ⟨rfl,ry⟩
theorem KV.keys{kvs:List (κ×V)}{vs:List (κ×Value)}(r:KV kvs vs):kvs.map (·.1)=vs.map (·.1):=by
 unfold KV at r
 induction r with
 |nil=>rfl
 |cons h t ih=>rw[aas,aas,ih,h.1]
theorem KV.length{kvs:List (κ×V)}{vs:List (κ×Value)}(r:KV kvs vs):kvs.length=vs.length:=aex r
end
variable{u:Value}
theorem dz{k:Key}(r:RelV (kV k) u):(aA P w).is k u=true:=by
 cases k with
 |inl i=>obtain⟨t,e⟩:=(show ∃t,u=ad4 i t from r);subst e;exact mP P w i t
 |inr x=>obtain⟨t,e⟩:=(show ∃t,u=ac4 x t from r);subst e;exact gJ P w x t
theorem ky:∀{ks:List Key} {us:List Value},oR (ks.map kV) us->ItemsAre (aA P w) ks us
 |[],_,r=>by rw[adx]at r;cases r;exact .nil
 |k::ks,_,r=>by
  rw[aas]at r
  cases r with
  |cons h t=>exact .cons (dz h) (ky t)
abbrev KT(H:Hp):List (List Key×V)->List (List Key×Addr×Value)->Prop:=Paired λp q=>p.1=q.1/\H q.2.1=some (.tup (p.1.map kV))/\RelV p.2 q.2.2
variable{kvs:List (List Key×V)}
theorem KT.val{xs:List (List Key×Addr×Value)}(r:KT H kvs xs)(k:List Key):Bc (yP kvs k) ((atKey xs k).map (·.2)):=by
 induction r with
 |nil=>exact adF
 |@cons p q ps qs h t ih=>
  obtain⟨h1,_,h2⟩:=h
  by_cases e:p.1=k
  .have e':q.1=k:=h1.symm.trans e
   have b:atKey (q::qs) k=some q.2:=by simp[atKey,abK,e']
   rw[eO e,b];exact h2
  .have e':¬ q.1=k:=λz=>e (h1.trans z)
   have b:atKey (q::qs) k=atKey qs k:=by simp[atKey,abK,e']
   rw[eR e,b];exact ih
variable{y:V}
theorem KT.Hi{xs:List (List Key×Addr×Value)}(r:KT H kvs xs)(k:List Key)(ry:RelV y u):
  KT H (kvs.map λkv=>if kv.1=k then (kv.1,y)else kv) (xs.map (putAt k u)):=by
 induction r with
 |nil=>exact .nil
 |@cons p q ps qs h t ih=>
  rw[aas,aas]
  refine .cons ?_ ih
  obtain⟨h1,h2,h3⟩:=h
  unfold putAt
  by_cases e:p.1=k
  .rw[if_pos e,if_pos (h1.symm.trans e)];exact⟨h1,h2,ry⟩
  .rw[if_neg e,if_neg (λz=>e (h1.trans z))];exact⟨h1,h2,h3⟩
variable{b:Addr}
theorem KT.put{xs:List (List Key×Addr×Value)}(r:KT H kvs xs)(k:List Key)(hb:H b=some (.tup (k.map kV)))(ry:RelV y u):
  KT H (putK kvs k y) (storedH xs k b u):=by
 have e:(kvs.any λkv=>decide (kv.1=k))=(atKey xs k).isSome:=by
  rw[la,(r.val k).yK,aeI]
 unfold putK storedH
 rw[e]
 by_cases q:(atKey xs k).isSome=true
 .rw[if_pos q,if_pos q];exact r.Hi k ry
 .rw[if_neg q,if_neg q];exact Paired.snoc r ⟨rfl,hb,ry⟩
theorem KT.keeps{xs:List (List Key×Addr×Value)}(r:KT H kvs xs)(ht:∀b ys,H b=some (.tup ys)->H' b=some (.tup ys)):KT H' kvs xs :=
 Paired.Hv r λ_ _ z=>⟨z.1,ht _ _ z.2.1,z.2.2⟩
variable{h:Heap}
theorem sw{u:HO}(ok:zl P w H h)(e:Rd H a u):xa P w H h a u:=e.ok ok
theorem fq{kvs:List (Key×V)}(ok:zl P w H h)(e:Rd H a (.dK kvs)):kvs.length<=sizeLine/\(a==act)=false/\∃vs,KV kvs vs/\h.DictOf (aA P w) a vs :=
 show xa P w H h a (.dK kvs)from sw ok e
theorem gn{kvs:List (Key×V)}(ok:zl P w H h)(e:H a=some (.dK kvs)):kvs.length<=sizeLine/\(a==act)=false/\∃vs,KV kvs vs/\h.DictOf (aA P w) a vs:=fq ok (.inl e)
theorem fO{ks:List Key}(ok:zl P w H h)(e:H a=some (.tup (ks.map kV))):(ae7 (aA P w)).is h ks a:=by
 obtain⟨_,gE,r,o,h1,h2,n,h3⟩:=(show xa P w H h a (.tup (ks.map kV))from ok a _ e)
 exact⟨o,gE.toArray,n,h1,h2,h3,by simpa using ky r⟩
theorem gm(ok:zl P w H h)(e:Rd H a (.dT kvs)):kvs.length<=sizeLine/\(a==act)=false /\
  ∃xs,KT H kvs xs/\h.DictOfH (ae7 (aA P w)) a xs:=by
 obtain⟨z,y,xs,r,o,es,ep,h1,h2,h3,h4,h5⟩:=(show xa P w H h a (.dT kvs)from sw ok e)
 refine⟨z,y,xs,r,o,es,ep,h1,h2,h3,h4,λx hx=>?_,h5⟩
 have all:∀{l:List (List Key×V)} {m:List (List Key×Addr×Value)},KT H l m->∀x∈m,(ae7 (aA P w)).is h x.1 x.2.1:=by
  intro l m q
  induction q with
  |nil=>intro x hx;exact nomatch hx
  |@cons p q ps qs hq t ih=>
   intro x hx
   rcases List.mem_cons.mp hx with e|hx
   .subst e
    exact fO ok (by rw[<- hq.1];exact hq.2.1)
   .exact ih x hx
 exact all r x hx
theorem wI(ok:zl P w H h)(e:H a=some (.dT kvs)):kvs.length<=sizeLine/\(a==act)=false /\
  ∃xs,KT H kvs xs/\h.DictOfH (ae7 (aA P w)) a xs:=gm ok (.inl e)
def Ct(H:Hp)(a:Addr)(y:V)(r:Option V):Prop :=
 (∃kvs k,Rd H a (.dK kvs)/\y=kV k/\r=yP kvs k)\/∃kvs k b,Rd H a (.dT kvs)/\y=.ref b/\H b=some (.tup (k.map kV))/\r=yP kvs k
def Iu(H:Hp)(a:Addr)(y v:V)(H':Hp):Prop :=
 (∃kvs k,H a=some (.dK kvs)/\y=kV k/\kvs.length<sizeLine/\H'=upd H a (.dK (putK kvs k v))) \/
 ∃kvs k b,H a=some (.dT kvs)/\y=.ref b/\H b=some (.tup (k.map kV))/\kvs.length<sizeLine/\H'=upd H a (.dT (putK kvs k v))
theorem MK{kvs:List (Key×V)}{k:Key}(e:H a=some (.dK kvs)):Ct H a (kV k) (yP kvs k):=.inl ⟨kvs,k,.inl e,rfl,rfl⟩
variable{v:V}
theorem Qm{kvs:List (Key×V)}{k:Key}(e:H a=some (.dK kvs))(hl:kvs.length<sizeLine):Iu H a (kV k) v (upd H a (.dK (putK kvs k v))):=.inl ⟨kvs,k,e,rfl,hl,rfl⟩
variable{pins:List (Addr×Obj)}{σ:St}{s:Shared}{r:Value}{o:Option V}{A:Around}{E:Value->Shared->Prop}
theorem Inv.NV(I:Inv X pins σ H s):act<s.heap.objs.size:=by
 have h:aaQ<s.heap.objs.size:=(I.mod.glob.keeps I.bk).lt
 exact Nat.lt_trans (by decide) h
variable{Q:Value->Shared->Prop}
theorem kH(hu:A.units+1<cLine)(I:Inv X pins σ H s)(g:Ct H a y (some v))(ry:RelV y u)(h:∀w' s',Inv X pins σ H s'->RelV v w'->Q w' s'):
  wpAny (model X.prog X.w) A (ad2 (.ref a) u) Q E s:=by
 rcases g with ⟨kvs,k,e,ey,l⟩|⟨kvs,k,b,e,ey,eb,l⟩
 .subst ey
  obtain⟨z,hd,vs,rel,dd⟩:=fq I.wU e
  obtain⟨w',hw,AA⟩:=Bc.some_of (v:=v) (o:=aeD vs k) (by rw[l];exact rel.val k)
  exact wpAny_getItem_of (dz ry) dd.mapOf hw (h w' _ (I.tok _) AA)
 .subst ey
  cases (show u=aaM b from ry)
  obtain⟨z,hd,xs,rel,dd⟩:=gm I.wU e
  obtain⟨w',hw,AA⟩:=Bc.some_of (v:=v) (o:=(atKey xs k).map (·.2)) (by rw[l];exact rel.val k)
  obtain⟨p,hp,GC⟩:=Option.map_eq_some_iff.mp hw
  refine wpAny_getItem_heap (ads hu) (fO I.wU eb) dd hp ?_
  rw[GC]
  exact h w' _ (I.tok _) AA
theorem wL(hu:A.units+1<cLine)(I:Inv X pins σ H s)(g:Ct H a y o)(ry:RelV y u)(h:∀s',Inv X pins σ H s'->Q (.bool o.isSome) s'):
  wpAny (model X.prog X.w) A (abb .In u (.ref a)) Q E s:=by
 rcases g with ⟨kvs,k,e,ey,l⟩|⟨kvs,k,b,e,ey,eb,l⟩
 .subst ey
  obtain⟨z,hd,vs,rel,dd⟩:=fq I.wU e
  refine wpAny_in_of (dz ry) hd dd.mapOf ?_
  rw[<- (rel.val k).yK,<- l]
  exact h _ (I.tok _)
 .subst ey
  cases (show u=aaM b from ry)
  obtain⟨z,hd,xs,rel,dd⟩:=gm I.wU e
  refine wpAny_in_heap (ads hu) (fO I.wU eb) hd dd ?_
  have q:=(rel.val k).yK
  rw[aeI]at q
  rw[<- q,<- l]
  exact h _ (I.tok _)
theorem uz(hu:A.units+1<cLine)(I:Inv X pins σ H s)(g:Ct H a y o)(ry:RelV y u)(h:∀s',Inv X pins σ H s'->Q (.bool (!o.isSome)) s'):
  wpAny (model X.prog X.w) A (abb .NotIn u (.ref a)) Q E s:=by
 rcases g with ⟨kvs,k,e,ey,l⟩|⟨kvs,k,b,e,ey,eb,l⟩
 .subst ey
  obtain⟨z,hd,vs,rel,dd⟩:=fq I.wU e
  refine wpAny_notIn_of (dz ry) hd dd.mapOf ?_
  rw[<- (rel.val k).yK,<- l]
  exact h _ (I.tok _)
 .subst ey
  cases (show u=aaM b from ry)
  obtain⟨z,hd,xs,rel,dd⟩:=gm I.wU e
  refine wpAny_notIn_heap (ads hu) (fO I.wU eb) hd dd ?_
  have q:=(rel.val k).yK
  rw[aeI]at q
  rw[<- q,<- l]
  exact h _ (I.tok _)
variable{h':Heap}{t':Nat}
theorem gq{ob:HO}(I:Inv X pins σ H s)(mu:KH (H a))(hs:acG a s.heap h')(he:∃q,h'.get? a=some q)(new:xa X.prog X.w (upd H a ob) h' a ob):
  Inv X pins σ (upd H a ob) {s with heap:=h',toks:=t'} :=
 I.write (x:=a) (e:=a) mu (.inl rfl) (λb q hb z=>(hs.2 b hb).trans z) he new
variable{vs:List (Key×Value)}
theorem mj{kvs:List (Key×V)}(z:kvs.length<=sizeLine)(hd:(a==act)=false)(rel:KV kvs vs)(dd:h'.DictOf (aA P w) a vs):
  xa P w H' h' a (.dK kvs):=⟨z,hd,vs,rel,dd⟩
theorem qC{Q:Unit->Shared->Prop}(hu:A.units+1<cLine)(I:Inv X pins σ H s)(g:Iu H a y v H')(ry:RelV y u)(rv:RelV v r)(h:∀s',Inv X pins σ H' s'->Q () s'):
  wpAny (model X.prog X.w) A (setItem (.ref a) u r) Q E s:=by
 rcases g with ⟨kvs,k,e,ey,l,eH⟩|⟨kvs,k,b,e,ey,eb,l,eH⟩
 .subst ey eH
  obtain⟨z,hd,vs,rel,dd⟩:=gn I.wU e
  have hz:vs.length<=sizeLine:=by rw[<- rel.length];exact z
  have hl:(putK kvs k v).length<=sizeLine:=by have:=cq kvs k v;omega
  refine wpAny_setItem_pairs (hsz:=hz) (dz ry) dd λh' Fi hs=>h _ ?_
  have he:∃q,h'.get? a=some q:=let ⟨q,_,_,hq,_⟩:=Fi;⟨q,hq⟩
  exact gq I (by rw[e];exact adF) hs he (mj hl hd (rel.put k rv) Fi)
 .subst ey eH
  cases (show u=aaM b from ry)
  obtain⟨z,hd,xs,rel,dd⟩:=wI I.wU e
  have hz:xs.length<=sizeLine:=by rw[<- aex rel];exact z
  have hl:(putK kvs k v).length<=sizeLine:=by have:=cq kvs k v;omega
  refine wpAny_setItem_heap (hsz:=hz) (ads hu) (fO I.wU eb) dd λh' Fi hs=>h _ ?_
  obtain⟨q,es,ep,hq,h2,h3,h4,_,h5⟩:=Fi
  refine gq I (by rw[e];exact adF) hs ⟨q,hq⟩ ⟨hl,hd,_,(rel.put k eb rv).keeps λc ys ec=>?_,q,es,ep,hq,h2,h3,h4,h5⟩
  rw[af (oE ec e (λz=>nomatch z))]
  exact ec
variable{kvs:List (Key×V)}{k:Key}
theorem wJ(I:Inv X pins σ H s)(e:Rd H a (.dK kvs))(h:∀t s',Inv X pins σ H s'->Q (.int kvs.length t) s'):wpAny (model X.prog X.w) A (call (.builtin "len") [.ref a]) Q E s:=by
 obtain⟨z,hd,vs,rel,dd⟩:=fq I.wU e
 refine call_len_dict hd dd (by rw[<- rel.length];rw[aaA]at z;omega) ?_
 rw[<- rel.length]
 exact h _ _ (I.tok _)
def F8(i:Expr):Prop:=∀ov iv,ae8 i false ov iv=operate [ov,iv] (ad2 ov iv)
variable{env:Env}
theorem sU{prog:aaB}{value slice:Expr}{T id:String}
  (hl:typeLookup (.type T) "__getitem__" = pure (some (.builtin id))) (hs:F8 slice)
  (h:wpAny (model prog w) A (eval value env) (λo s₁=>wpAny (model prog w) A (eval slice env) (λi s₂=>s₂.TypeIs o T/\wpAny (model prog w) A (ad2 o i) Q E s₂) E s₁) E s) :
  wpAny (model prog w) A (eval (.Subscript value slice pos) env) Q E s:=by
 refine Subscript_ (aaJ h (λo s₁ h₁=>aaJ h₁ (λi s₂ h₂=>?_) λ_ _ x=>x) λ_ _ x=>x)
 obtain⟨hT,h₂⟩:=h₂
 unfold subscriptTail
 refine aab ?_
 rw[getitemInPython_of_ne hT.not_modules]
 refine aab (wpAny_specialOf hT hl ?_)
 have fin:wpAny (model prog w) A (ae8 slice false o i) (λr s₃=>wpAny (model prog w) A (letTemporaryGo value o r >>= λ_=>pure r) Q E s₃) E s₂:=by
  rw[hs o i]
  exact wpAny_operating (aaJ h₂ (λr s₃ h₃=>aab (wpAny_letTemporaryGo (aaf h₃))) λ_ _ x=>x)
 first
  |exact aaf (aab fin)
  |exact aab (aaf (aab fin))
  |exact aab fin
theorem gQ(I:Inv X pins σ H s)(g:Ct H a y o):s.TypeIs (.ref a) "dict" :=by
 rcases g with ⟨kvs,k,e,_,_⟩|⟨kvs,k,b,e,_,_,_⟩
 .obtain⟨_,_,vs,_,dd⟩:=fq I.wU e
  exact dd.typeIs
 .obtain⟨_,_,xs,_,dd⟩:=gm I.wU e
  exact dd.typeIs
def Jg(td ty:TE):TE:=λσ H Q=>td σ H λx H1=>ty σ H1 λy H2=>∃a v,x=.ref a/\Ct H2 a y (some v)/\Q v H2
variable{o i e value:Expr}{pos' Ek:Pos}{td ty tv:TE}
theorem tw(hu:X.A.units+1<cLine)(ho:PE X o td)(hi:PE X i ty)(hs:F8 i):PE X (.Subscript o i pos) (Jg td ty):=by
 intro pins s σ H Q I h
 refine sU PySem.F.slot_dict_getitem.lookup hs (xH (ho pins s σ H _ I h) λu s1 ⟨x,H1,I1,rx,q1⟩=>xH (hi pins s1 σ H1 _ I1 q1) λiv s2 ⟨y,H2,I2,ry,a,v,ex,g,q2⟩=>?_)
 subst ex
 obtain rfl:u=aaM a:=rx
 exact⟨gQ I2 g,kH hu I2 g ry λw' s3 I3 AA=>⟨v,H2,I3,AA,q2⟩⟩
theorem ml(h:Heap)(hb:act<h.objs.size):xa P w H (h.push {cls:=.type "dict",data:=.dict #[]}) h.objs.size (.dK []) :=
 ⟨aaS _,beq_eq_false_iff_ne.mpr (abv (aap hb)),[],.nil,Heap.DictOf.new h⟩
def BD:List (TE×TE)->St->Hp->(List (V×V)->Hp->Prop)->Prop
 |[],_,H,Q=>Q [] H
 |(tk,tv)::r,σ,H,Q=>tk σ H λx H1=>tv σ H1 λy H2=>BD r σ H2 λps H3=>Q ((x,y)::ps) H3
abbrev VV:List (V×V)->List (Value×Value)->Prop:=Paired λp q=>RelV p.1 q.1/\RelV p.2 q.2
def KA(X:Cx)(pos:Pos)(keys:List (Option Expr))(values:List Expr)(Dd:List (TE×TE)):Prop :=
 ∀(pins:List (Addr×Obj)) (s:Shared) (σ:St) (H:Hp) (Q:List (V×V)->Hp->Prop),Inv X pins σ H s->BD Dd σ H Q ->
  wpAny (model X.prog X.w) X.A (evalPairs (pairTrees keys values X.env pos)) (λvs s'=>∃ps H',Inv X pins σ H' s'/\VV ps vs/\Q ps H') X.xe s
theorem s0:KA X pos [] [] []:=λpins s σ H Q I h=>pairTrees_nil_walk ⟨[],H,I,.nil,h⟩
theorem qZ{k v:Expr}{ks:List (Option Expr)}{vs:List Expr}{tk:TE}{Dd:List (TE×TE)}(hk:PE X k tk)(hv:PE X v tv)(hr:KA X pos ks vs Dd):
  KA X pos (some k::ks) (v::vs) ((tk,tv)::Dd):=λpins s σ H Q I h=>
 pairTrees_cons_walk (xH (hk pins s σ H _ I h) λu s1 ⟨x,H1,I1,rx,q1⟩=>xH (hv pins s1 σ H1 _ I1 q1) λw2 s2 ⟨y,H2,I2,ry,q2⟩=>
  xH (hr pins s2 σ H2 _ I2 q2) λws s3 ⟨ps,H3,I3,rel,q3⟩=>⟨(x,y)::ps,H3,I3,.cons ⟨rx,ry⟩ rel,q3⟩)
def zu(kvs more:List (Key×V)):List (Key×V):=more.foldl (λacc kv=>putK acc kv.1 kv.2) kvs
theorem KV.merge:∀{more:List (Key×V)} {rs:List (Key×Value)} {kvs:List (Key×V)} {vs:List (Key×Value)},KV more rs->KV kvs vs->KV (zu kvs more) (merged vs rs):=by
 intro more rs kvs vs r
 unfold KV at r
 induction r generalizing kvs vs with
 |nil=>intro q;exact q
 |@cons p q ps qs h t ih=>
  intro r0
  have e:KV (putK kvs p.1 p.2) (stored vs q.1 q.2):=by
   have:=r0.put p.1 h.2
   rw[<- h.1];exact this
  exact ih e
theorem fy:∀(more kvs:List (Key×V)),(zu kvs more).length<=kvs.length+more.length
 |[],kvs=>by show kvs.length<=kvs.length+0;omega
 |p::r,kvs=>by
  have h1:=fy r (putK kvs p.1 p.2)
  have h2:=cq kvs p.1 p.2
  show (zu (putK kvs p.1 p.2) r).length<=_
  rw[aa3];omega
theorem jf{P:aaB}{w:World}:∀{kvs:List (Key×V)} {ws:List (Value×Value)},VV (kvs.map λkv=>(kV kv.1,kv.2)) ws->∃rs,Carries (aA P w) ws rs/\KV kvs rs
 |[],_,r=>by rw[adx]at r;cases r;exact⟨[],adF,.nil⟩
 |p::kvs,_,r=>by
  rw[aas]at r
  cases r with
  |@cons a b as bs h t=>
   obtain⟨rs,c,q⟩:=jf (P:=P) (w:=w) t
   obtain⟨b1,b2⟩:=b
   exact⟨(p.1,b2)::rs,⟨dz h.1,rfl,c⟩,.cons ⟨rfl,h.2⟩ q⟩
def Jf(Dd:List (TE×TE)):TE:=λσ H Q=>∀p,H p=none->BD Dd σ (upd H p (.dK [])) λps H2=>H2 p=some (.dK [])/\∃kvs:List (Key×V),ps=kvs.map (λkv=>(kV kv.1,kv.2))/\kvs.length<=15/\Q (.ref p) (upd H2 p (.dK (zu [] kvs)))
theorem tu{keys:List (Option Expr)}{values:List Expr}{Dd:List (TE×TE)}(h:KA X pos keys values Dd)(HR:keys.all (·.isSome)=true)(hl:keys.length=values.length)(h0:keys≠[])
  (NH:keys.length<=15):PE X (.Dict keys values pos) (Jf Dd):=by
 intro pins s σ H Q I q
 have hn:=I.wU.fresh (aak s.heap.objs.size)
 have I1:=I.laid (a:=s.heap.objs.size) (o:=.dK []) (h':=s.heap.push {cls:=.type "dict",data:=.dict #[]}) (t':=s.toks) (λ_ _ q=>aac _ q) (aak _) (ml s.heap I.NV)
 refine wpAny_Dict_walk (knd:=aA X.prog X.w) HR hl h0 NH (xH (h pins _ σ _ _ I1 (q _ hn)) λws s2 ⟨ps,H2,I2,rel,e,kvs,ep,lk,q2⟩=>?_)
 subst ep
 obtain⟨rs,c,rk⟩:=jf (P:=X.prog) (w:=X.w) rel
 obtain⟨z,hd,Iy,r0,dd⟩:=gn I2.wU e
 cases r0
 refine⟨rs,c,dd,λh' Fi hs=>⟨.ref s.heap.objs.size,_,?_,rfl,q2⟩⟩
 have hz:(zu [] kvs).length<=sizeLine:=by
  have h1:=fy kvs []
  rw[ab6]at h1
  rw[aaA];omega
 have he:∃q,h'.get? s.heap.objs.size=some q:=let ⟨q,_,_,hq,_⟩:=Fi;⟨q,hq⟩
 exact gq I2 (by rw[e];exact adF) hs he (mj hz hd (rk.merge .nil) Fi)
def Sm(H:Hp)(a:Addr):Prop:=(∃kvs,Rd H a (.dK kvs))\/∃kvs,Rd H a (.dT kvs)
theorem vK(I:Inv X pins σ H s)(d:Sm H a):
  s.TypeIs (.ref a) "dict" /\ (∀b,aaM a=.ref b->∃ob,s.heap.get? b=some ob/\ob.dict=none)/\(a==act)=false:=by
 rcases d with ⟨kvs,e⟩|⟨kvs,e⟩
 .obtain⟨_,hd,vs,_,dd⟩:=fq I.wU e
  refine⟨dd.typeIs,λb q=>?_,hd⟩
  cases q
  obtain⟨ob,_,_,h1,h2,_⟩:=dd
  exact⟨ob,h1,h2.2.1⟩
 .obtain⟨_,hd,xs,_,dd⟩:=gm I.wU e
  refine⟨dd.typeIs,λb q=>?_,hd⟩
  cases q
  obtain⟨ob,_,_,h1,h2,_⟩:=dd
  exact⟨ob,h1,h2.2.1⟩
variable{d:V}{o:Option V}
variable{o f:Expr}{apos xg:Pos}{tx:TE}
theorem qG:wX X (.builtin "len") (λxs H Q=>∃a kvs,xs=[V.ref a]/\H a=some (.dK kvs)/\Q (.int kvs.length) H):=by
 intro pins s σ H xs us Q I r h
 obtain⟨a,kvs,rfl,ha,q⟩:=h
 obtain⟨u,rfl,ru⟩:=vals1 r
 cases ru
 exact wJ I (.inl ha) λt s' I'=>⟨.int kvs.length,H,I',⟨t,rfl⟩,q⟩
section
variable{κ:Type}[DecidableEq κ]
end
end L2
set_option maxHeartbeats 4000000
namespace L2
open PySem PySem.Spec PyProof.Rows
def y3(cells:List (Str×Addr)):List (Str×adv)->List (Str×Addr)->List (Str×Addr)
 |[],acc=>acc
 |(n,k)::r,acc=>if k==.free then y3 cells r ((n,(cells.lookup n).getD 0)::acc)else y3 cells r acc
theorem je{env:Env}:∀(names:List (Str×adv)) (acc:List (Str×Addr)),(∀x∈names,x.2=.free->∃c,env.cells.lookup x.1=some c) ->
  (forIn names acc λ(x:Str×adv) (cs:List (Str×Addr))=>match x with
   |(name,kind)=>if (kind==abk)=true then (do let c <- cellOf env name;pure (aec ((name,c)::cs)))else pure (aec cs):Sem (List (Str×Addr)))=pure (y3 env.cells names acc)
 |[],acc,_=>by simp[y3]
 |(n,k)::r,acc,h=>by
  have hr:=λacc=>je (env:=env) r acc λx hx=>h x (aar _ hx)
  rw[List.forIn_cons]
  unfold y3
  by_cases hk:(k==abk)=true
  .obtain⟨c,hc⟩:=h (n,k) aat (by simpa using hk)
   have Cg:env.cells.lookup n=some c:=hc
   have e:cellOf env n=pure c:=by unfold cellOf;rw[Cg]
   rw[if_pos hk]
   dsimp only
   rw[if_pos hk,e,pure_bind,pure_bind]
   rw[Cg]
   exact hr _
  .rw[if_neg hk]
   dsimp only
   rw[if_neg hk,pure_bind]
   exact hr acc
variable{scope:Scope}{env:Env}
theorem fA(h:∀x∈scope.names,x.2=.free->∃c,env.cells.lookup x.1=some c):closureFor scope env=pure (y3 env.cells scope.names []):=by
 have e:=je (env:=env) scope.names [] h
 unfold closureFor
 simp only[pure_bind,bind_pure]
 exact e
variable{x:Str}
theorem dm{cells:List (Str×Addr)}{c:Addr}:∀{names:List (Str×adv)} {acc:List (Str×Addr)},(∀y∈names,y.2=.free->∃c,cells.lookup y.1=some c)->(∀c,acc.lookup x=some c->cells.lookup x=some c) ->
  (y3 cells names acc).lookup x=some c->cells.lookup x=some c
 |[],acc,_,ha,e=>ha c e
 |(n,k)::r,acc,h,ha,e=>by
  have hr:∀y∈r,y.2=.free->∃c,cells.lookup y.1=some c:=λy hy=>h y (aar _ hy)
  unfold y3 at e
  split at e
  .rename_i hk
   refine dm hr (λc' e'=>?_) e
   rw[abf]at e'
   split at e'
   .rename_i hx
    obtain⟨c0,hc⟩:=h (n,k) aat (by simpa using hk)
    have Cg:cells.lookup n=some c0:=hc
    rw[Cg]at e'
    have:x=n:=by simpa using hx
    rw[this,Cg];exact e'
   .exact ha c' e'
  .exact dm hr ha e
theorem fu{cells:List (Str×Addr)}:∀{names:List (Str×adv)} {acc:List (Str×Addr)},((x,abk)∈names\/∃c,acc.lookup x=some c)->∃c,(y3 cells names acc).lookup x=some c
 |[],acc,h=>by
  rcases h with h|h
  .simp at h
  .exact h
 |(n,k)::r,acc,h=>by
  unfold y3
  split
  .refine fu ?_
   rcases h with h|⟨c,h⟩
   .rcases List.mem_cons.mp h with e|e
    .cases e
     exact .inr ⟨_,by rw[abf];simp;rfl⟩
    .exact .inl e
   .refine .inr ?_
    rw[abf]
    split
    .exact⟨_,rfl⟩
    .exact⟨c,h⟩
  .rename_i hk
   refine fu ?_
   rcases h with h|h
   .rcases List.mem_cons.mp h with e|e
    .cases e
     exact absurd rfl hk
    .exact .inl e
   .exact .inr h
def rW(X:Cx)(scope:Scope)(N:List Str)(C:Addr)(s₀:Shared)(H₀:Hp)(ex:List Addr)(pn:List (Addr×Obj)):Cx :=
 {X with N:=N,s₀:=s₀,H₀:=H₀,env:=compEnvC scope (y3 X.env.cells scope.names []) C X.env,outer:=X.stack,stack:=X.stack,ex:=ex,fn:=λ_=>false,pn:=pn,xe:=λ_ _=>False}
def xm(js:List (Option Nat))(σ:St):St:=js.map λo=>o.bind λj=>(σ[j]?).getD none
def yO(M:List Str)(scope:Scope)(N:List Str)(js:List (Option Nat)):Bool :=
 decide (N.length=js.length) && (N.zip js).all λp=>match p.2 with
  |none=>true
  |some j=>decide (M[j]?=some p.1) && (decide (scope.names.lookup p.1=some .free) || decide (scope.names.lookup p.1=none))
def Ao(env:Env)(scope:Scope):Bool :=
 scope.names.all λx=>match x.2 with
  |.free=>decide (env.kindOf x.1=some .cell) || decide (env.kindOf x.1=some .free)
  |.cell=>false
  |.local=>decide (scope.names.lookup x.1=some .local)
  |_=>true
theorem iL{scope:Scope}{k:adv}:∀{names:List (Str×adv)},(∀y∈names,y.2≠.cell)->(k=.cell\/k=.free) ->
  (names.map λ(n,k)=>if (k==abk && env.scope.kind==.function && env.kindOf n==some .cell)then (n,acM)else (n,k)).lookup x=some k->(x,abk)∈names:=by
 intro names hn hk h
 have hm:=abS h
 obtain⟨⟨n,k0⟩,h0,e⟩:=List.mem_map.mp hm
 dsimp only at e
 split at e
 .rename_i hc
  cases e
  simp only[aaT]at hc
  have:k0=.free:=by simpa using hc.1.1
  subst this
  exact h0
 .cases e
  rcases hk with e|e
  .exact absurd e (hn _ h0)
  .subst e;exact h0
theorem fI{env:Env}{x:Str}:∀{names:List (Str×adv)},names.lookup x=some .free ->
  (names.map λ(n,k)=>if (k==abk && env.scope.kind==.function && env.kindOf n==some .cell)then (n,acM)else (n,k)).lookup x=some .cell \/
  (names.map λ(n,k)=>if (k==abk && env.scope.kind==.function && env.kindOf n==some .cell)then (n,acM)else (n,k)).lookup x=some .free
 |[],h=>by simp at h
 |(n,k)::r,h=>by
  have ih:=@fI env x r
  show adn x ((if (k==abk && env.scope.kind==.function && env.kindOf n==some .cell)=true then (n,acM)else (n,k))::_)=_\/adn x ((if (k==abk && env.scope.kind==.function && env.kindOf n==some .cell)=true then (n,acM)else (n,k))::_)=_
  cases hx:x==n with
  |true=>
   simp only[abf,hx]at h
   cases h
   by_cases hc:(abk==abk && env.scope.kind==.function && env.kindOf n==some .cell)=true
   .rw[if_pos hc];left;simp only[abf,hx]
   .rw[if_neg hc];right;simp only[abf,hx]
  |false=>
   simp only[abf,hx]at h
   by_cases hc:(k==abk && env.scope.kind==.function && env.kindOf n==some .cell)=true
   .rw[if_pos hc];simp only[abf,hx];exact ih h
   .rw[if_neg hc];simp only[abf,hx];exact ih h
variable{X:Cx}{pins:List (Addr×Obj)}{σ:St}{H:Hp}{s:Shared}
structure FZ(env:Env)(scope:Scope):Prop where
 fr:∀x∈scope.names,x.2=.free->env.kindOf x.1=some .cell\/env.kindOf x.1=some .free
 nc:∀x∈scope.names,x.2≠.cell
 lc:∀x∈scope.names,x.2=.local->scope.names.lookup x.1=some .local
theorem mX(h:Ao env scope=true):FZ env scope:=by
 have q:=List.all_eq_true.mp h
 refine⟨λx hx e=>?_,λx hx e=>?_,λx hx e=>?_⟩
 .have:=q x hx
  rw[e]at this
  simp only[aed,decide_eq_true_eq]at this
  exact this
 .have:=q x hx
  rw[e]at this
  cases this
 .have:=q x hx
  rw[e]at this
  simpa using this
theorem FZ.cells(h:FZ X.env scope)(ok:X.Ok):∀x∈scope.names,x.2=.free->∃c,X.env.cells.lookup x.1=some c:=λx hx e=>ok.has x.1 (h.fr x hx e)
structure GW(M:List Str)(scope:Scope)(N:List Str)(js:List (Option Nat)):Prop where
 len:N.length=js.length
 at':∀(i:Nat) (x:Str) (j:Nat),N[i]?=some x->js[i]?=some (some j)->M[j]?=some x/\(scope.names.lookup x=some .free\/scope.names.lookup x=none)
variable{N:List Str}{js:List (Option Nat)}
theorem mz{M:List Str}(h:yO M scope N js=true):GW M scope N js:=by
 unfold yO at h
 rw[aaT]at h
 refine⟨of_decide_eq_true h.1,λi x j hx hj=>?_⟩
 have hm:(x,some j)∈N.zip js:=by
  refine aaI (i:=i) ?_
  rw[aa0]
  exact⟨hx,hj⟩
 have q:=List.all_eq_true.mp h.2 _ hm
 simp only[aaT,aed,decide_eq_true_eq]at q
 exact q
theorem fH{env:Env}{x:Str}:∀{names:List (Str×adv)},names.lookup x=none ->
  (names.map λ(n,k)=>if (k==abk && env.scope.kind==.function && env.kindOf n==some .cell)then (n,acM)else (n,k)).lookup x=none
 |[],h=>rfl
 |(n,k)::r,h=>by
  have ih:=@fH env x r
  show adn x ((if (k==abk && env.scope.kind==.function && env.kindOf n==some .cell)=true then (n,acM)else (n,k))::_)=_
  cases hx:x==n with
  |true=>simp only[abf,hx]at h;cases h
  |false=>
   simp only[abf,hx]at h
   by_cases hc:(k==abk && env.scope.kind==.function && env.kindOf n==some .cell)=true
   .rw[if_pos hc];simp only[abf,hx];exact ih h
   .rw[if_neg hc];simp only[abf,hx];exact ih h
variable{fp:List Addr}
theorem lU{C:Addr}{h₁:Heap}{tk:Nat}(I:Inv X pins σ H s)(Ad:FZ X.env scope)(xO:GW X.N scope N js)(xk:scope.kind=.function)
  (hf:∀b∈fp,zJ X pins H b) (Q8:∀b∈fp,b<s.heap.objs.size) (hC:C=s.heap.objs.size) (keep:∀b o,s.heap.get? b=some o->h₁.get? b=some o) (Fe:h₁.Ns C λ_=>none) :
  Inv (rW X scope N C s H fp (X.pn++pins)) [] (xm js σ) H {s with heap:=h₁,toks:=tk}:=by
 have HN:=Ad.cells I.ok
 have IT:∀x c,(y3 X.env.cells scope.names []).lookup x=some c->X.env.cells.lookup x=some c:=λx c e=>dm HN (λc e=>by simp at e) e
 have ID:∀b o,s.heap.get? b=some o->b≠C:=λb o e=>by rw[hC];exact aap (aaj e)
 refine⟨⟨I.ok.mod,xk,I.ok.glob,I.ok.blt,aeT hC.symm,λx y c e1 e2=>?_,λx hx=>?_,λx c e=>?_,I.ok.hd,I.ok.frames,.inl rfl,λb hb=>⟨?_,λx c e=>?_⟩,I.bs,aaX I.ok.GP I.sz,λb o e hb=>?_,λb hb z=>?_,I.stack,I.Dg⟩,
  rfl,I.bare,Un.kept keep,⟨_,Fe,λi x v h1 h2 h3=>?_⟩,λx c e=>?_,I.wU.fresh (aeT hC.symm),λx c e=>I.yA x c (IT x c e),λp hp=>?_,I.wU.kept keep,?_⟩
 .exact I.ok.inj x y c (IT x c e1) (IT y c e2)
 .have hm:(x,abk)∈scope.names:=by
   rcases hx with hx|hx
   .exact iL (scope:=scope) (env:=X.env) (k:=.cell) Ad.nc (.inl rfl) hx
   .exact iL (scope:=scope) (env:=X.env) (k:=.free) Ad.nc (.inr rfl) hx
  exact fu (.inl hm)
 .exact absurd e (by intro z;cases z)
 .show b≠C
  rw[hC];exact aap (Q8 b hb)
 .exact(hf b hb).2.2.2.2.1 x c (IT x c e)
 .obtain⟨_,_,_,q,_⟩:=hf b hb
  rcases q with q|q
  .exact I.ok.EI b o e q
  .exact absurd (aaE (aaj (I.ok.bs b o e).1) q) (aba _)
 .obtain⟨_,q1,q2,_⟩:=hf b hb
  rcases List.mem_cons.mp (I.zM b z)with e|e
  .exact q1 e
  .exact q2 e
 .have h1:N[i]?=some x:=h1
  unfold xm at h2
  rw[aai]at h2
  cases ej:js[i]? with
  |none=>rw[ej]at h2;cases h2
  |some o=>
   cases o with
   |none=>rw[ej]at h2;cases h2
   |some j=>
    rw[ej]at h2
    have IQ:(σ[j]?).getD none=some v:=by simpa using h2
    have hσ:σ[j]?=some (some v):=by
     cases eσ:σ[j]? with
     |none=>rw[eσ]at IQ;cases IQ
     |some w'=>rw[eσ]at IQ;exact congrArg some IQ
    obtain⟨hM,Dw⟩:=xO.at' i x j h1 ej
    rcases Dw with Dw|Dw
    case inr=>
     have hn:=fH (env:=X.env) Dw
     rcases h3 with h3|h3|h3
     .exact absurd (hn.symm.trans h3) (by simp)
     .exact absurd (hn.symm.trans h3) (by simp)
     .exact absurd (hn.symm.trans h3) (by simp)
    have FF:=abS Dw
    have OZ:=Ad.fr _ FF rfl
    have MS:D3 X.env.scope x:=OZ.elim (λz=>.inr (.inl z)) λz=>.inr (.inr z)
    obtain⟨m,hn,hl⟩:=I.loc
    obtain⟨u,ru,lk⟩:=hl j x v hM hσ MS
    refine⟨u,ru,?_⟩
    rcases lk with ⟨k,_⟩|⟨k,c,ec,z⟩
    .rcases OZ with q|q
     .rw[show X.env.kindOf x=some .cell from q]at k;cases k
     .rw[show X.env.kindOf x=some .free from q]at k;cases k
    .obtain⟨c',Cg⟩:=fu (cells:=X.env.cells) (acc:=[]) (.inl FF)
     have e2:=IT x c' Cg
     rw[ec]at e2;cases e2
     refine .inr ⟨fI (env:=X.env) Dw,c,Cg,?_⟩
     obtain⟨o,ho,hd⟩:=z
     exact⟨o,keep _ _ ho,hd⟩
 .obtain⟨v,o,ho,hd⟩:=I.cell x c (IT x c e)
  exact⟨v,o,keep _ _ ho,hd⟩
 .have M5:p∈X.pn++pins:=by
   have GC:p∈(X.pn++pins)++[]:=hp
   rwa [abh]at GC
  obtain⟨e,n,ne,nf,d⟩:=I.pin p M5
  refine⟨keep _ _ e,n,ID _ _ e,λz=>?_,d⟩
  rcases List.mem_cons.mp (I.zM p.1 z)with q|q
  .exact ne q
  .exact nf q
 .unfold xm
  rw[aad]
  exact xO.len.symm
variable{H':Hp}{s':Shared}
theorem lV{C:Addr}{σ':St}(I:Inv X pins σ H s)(J:Inv (rW X scope N C s H fp (X.pn++pins)) [] σ' H' s')(hf:∀b∈fp,zJ X pins H b):Inv X pins σ H' s' :=
 I.Ku (ch:=fp) J.os J.base J.wU J.bare λb hb=>let ⟨_,q1,_,q3,q4,q5⟩:=hf b hb;⟨q3,q1,q4,q5⟩
def zI(js:List (Option Nat))(g:TG):Prop:=∀x σ H Q,g x σ H Q->g x σ H λσ' H'=>Q σ' H'/\σ'.length=σ.length/\∀(k j:Nat),js[k]?=some (some j)->σ'[k]?=σ[k]?
def KN(js:List (Option Nat))(g:Ed):Prop:=∀x σ H Q,g x σ H Q->g x σ H λσ' H'=>Q σ' H'/\σ'.length=σ.length/\∀(k j:Nat),js[k]?=some (some j)->σ'[k]?=σ[k]?
variable{i:Nat}
theorem gg(h:js[i]?=some none:=by rfl):zI js (yL i):=by
 intro x σ H Q hq
 refine⟨hq,by simp,λk j hk=>?_⟩
 rw[aau]
 rintro rfl
 rw[h]at hk;cases hk
theorem vM:KN js HX:=by
 rintro x σ H Q ⟨e,hq⟩
 exact⟨e,hq,rfl,λ_ _ _=>rfl⟩
variable{t:TG}{u:Ed}
theorem uf(h1:zI js t)(h2:KN js u)(mono:∀x σ H Q Q',(∀a b,Q a b->Q' a b)->t x σ H Q->t x σ H Q')(JJ:∀x σ H Q Q',(∀a b,Q a b->Q' a b)->u x σ H Q->u x σ H Q'):KN js (Cj t u):=by
 rintro x σ H Q ⟨v,r,e,hq⟩
 refine⟨v,r,e,mono _ _ _ _ _ (λσ1 H1 hh=>?_) (h1 v σ H _ hq)⟩
 obtain⟨a,l1,k1⟩:=hh
 exact JJ _ _ _ _ _ (λσ2 H2 ⟨b,l2,k2⟩=>⟨b,l2.trans l1,λk j hk=>(k2 k j hk).trans (k1 k j hk)⟩) (h2 r σ1 H1 _ a)
variable{K:aah}{n:Nat}
theorem vL{t:Ed}(h:KN js t):zI js (HV K n t):=by
 rintro x σ H Q ⟨a,xs,e,hs,hl,hq⟩
 exact⟨a,xs,e,hs,hl,h xs σ H Q hq⟩
theorem er:∀x σ H (Q Q':St->Hp->Prop),(∀a b,Q a b->Q' a b)->yL i x σ H Q->yL i x σ H Q':=λ_ _ _ _ _ h q=>h _ _ q
theorem gh(m1:∀x σ H (Q Q':St->Hp->Prop),(∀a b,Q a b->Q' a b)->t x σ H Q->t x σ H Q')(m2:∀x σ H (Q Q':St->Hp->Prop),(∀a b,Q a b->Q' a b)->u x σ H Q->u x σ H Q'):
  ∀x σ H (Q Q':St->Hp->Prop),(∀a b,Q a b->Q' a b)->Cj t u x σ H Q->Cj t u x σ H Q':=λ_ _ _ _ _ h ⟨v,r,e,q⟩=>⟨v,r,e,m1 _ _ _ _ _ (λ_ _=>m2 _ _ _ _ _ h) q⟩
def PF(X:Cx)(ifs:List Expr)(t:TT):Prop :=
 ∀(pins:List (Addr×Obj)) (s:Shared) (σ:St) (H:Hp) (Q:Bool->Hp->Prop),Inv X pins σ H s->t σ H Q ->
  wpAny (model X.prog X.w) X.A (forIn ifs true λc r=>if r=true then do let ok <- isTrue c X.env (eval c X.env);pure (aec ok)else pure (aec r)) (TP X pins σ Q) X.xe s
def GZ:TT:=λ_ H Q=>Q true H
theorem pK:PF X [] GZ:=λpins s σ H Q I h=>wpAny_tests_nil ⟨H,I,h⟩
variable{c:Expr}
theorem pJ{t:TT}(h:PT X c t):PF X [c] t:=λpins s σ H Q I hq=>wpAny_tests_one (h pins s σ H Q I hq)
def Oa(wi:TI)(g:TG)(tc:TT)(te:TE)(js:List (Option Nat)):TE:=λσ H Q=>wi σ H λJ H1=>∀l,H1 l=none ->
 ∃W:Nat->Nat->List V->Hp->Prop,(∃m,W 0 m [] (upd H1 l (.lst [])))/\∀i m ys H2,W i m ys H2 ->
  (J.stop i H2/\Q (.ref l) H2)\/(J.go i H2/\∀x H3,J.yld i H2 x H3->g x (xm js σ) H3 λσ4 H4=>tc σ4 H4 λb H5=>
   if b=true then te σ4 H5 λy H6=>H6 l=some (.lst ys)/\ys.length<sizeLine/\∃m',m'<m/\W (i+1) m' (ys++[y]) (upd H6 l (.lst (ys++[y])))else ∃m',m'<m/\W (i+1) m' ys H5)
variable{tg elt iter:Expr}{ifs:List Expr}{pos:Pos}{wi:TI}{g:TG}{tc:TT}{te:TE}
variable{Q:VK}{E:Value->Shared->Prop}{pos':Pos}
theorem t8{use:Option (Value->Sem Unit)}{QQ:Value->Shared->Prop}(hc:X.calm=true)(hx:X.xe=λ_ _=>False)(hi:PI X tg iter wi)
  (hg:∀C s₀ H₀ ex pn,PG (rW X scope N C s₀ H₀ ex pn) tg g) (ht:∀C s₀ H₀ ex pn,PF (rW X scope N C s₀ H₀ ex pn) ifs tc) (he:∀C s₀ H₀ ex pn,PE (rW X scope N C s₀ H₀ ex pn) elt te) (FH:zI js g)
  (Ad:Ao X.env scope=true) (xO:yO X.N scope N js=true) (xk:scope.kind=.function) (hs:∀x,aa4 iter X.env x=pure x)
  (I:Inv X pins σ H s) (h:Oa wi g tc te js σ H Q)
  (fin:∀(l C:Addr) (H':Hp) (s':Shared),Inv X pins σ H' s'->Q (.ref l) H'->H' C=none->C≠X.env.locals->X.s₀.heap.objs.size<=C->(∀x c,X.env.cells.lookup x=some c->c≠C)->(∀p∈X.pn++pins,p.1≠C)->(∃m,s'.heap.Ns C m)->ae3 (model X.prog X.w) X.A E use QQ (.ref l) C (.ok .next) s') :
  wpAny (model X.prog X.w) X.A (aev (.ListComp elt [⟨tg,iter,ifs,0⟩] scope pos) scope X.env pos' (newList []) false (eval iter X.env) use) QQ E s:=by
 have SC:=mX Ad
 have CP:=mz xO
 refine wpAny_comprehension_free (cl:=y3 X.env.cells scope.names []) rfl hs (fA (SC.cells I.ok)) xk SC.lc ?_
 refine aaJ (hi pins s σ H _ I h) (λv s1 h1=>aaJ h1 (λLf s2 h2=>?_) (λ_ _ z=>by rw[hx]at z;exact z.elim)) (λ_ _ z=>by rw[hx]at z;exact z.elim)
 obtain⟨it,fp,tn,J,H2,rfl,I2,T,G7,f2,hq⟩:=h2
 have IP:H2 s2.heap.objs.size=none:=I2.wU.fresh (aak _)
 obtain⟨W,⟨m0,w0⟩,turn⟩:=hq s2.heap.objs.size IP
 refine abi (aei (λx hx=>SC.nc x hx) (by intro y hy;simp at hy) (λh₁ hns₁ hsb₁=>?_) xk)
 dsimp only at hns₁ hsb₁ ⊢
 generalize FK:s2.heap.push {cls:=.type "list",dict:=none,data:=.seq ([]:List Value).toArray}=hp3 at hns₁ hsb₁ ⊢
 have Kp:hp3.objs.size=s2.heap.objs.size+1:=by rw[<- FK,abC]
 have I3:Inv X pins σ (upd H2 s2.heap.objs.size (.lst [])) {s2 with heap:=hp3}:=by
  rw[<- FK]
  exact I2.laid (t':=s2.toks) (λb u e=>aac _ e) (aak _) ⟨by show 0<=_;exact aaS _,[],_,.nil,aal _ rfl⟩
 have keep:∀b o,hp3.get? b=some o->h₁.get? b=some o:=λb o e=>hsb₁.extBut b o (aap (aaj e)) (aac _ e)
 have HZ:∀b∈fp,b<s2.heap.objs.size:=λb hb=>by
  obtain⟨o,e,_⟩:=T.obj _ _ G7 b hb
  exact aaj e
 have f3:∀b∈fp,zJ X pins (upd H2 s2.heap.objs.size (.lst [])) b:=λb hb=>⟨by rw[af (aap (HZ b hb))];exact(f2 b hb).1,(f2 b hb).2⟩
 have J4:=lU (tk:=s2.toks+([]:List (Str×Value)).length) (C:=hp3.objs.size) (fp:=fp) (h₁:=h₁) (scope:=scope) (N:=N) (js:=js) I3 SC CP xk f3 (λb hb=>by show b<hp3.objs.size;rw[Kp];exact aa7 (HZ b hb)) rfl keep (by
  have:(λx=>adn x ([]:List (Str×Value)).reverse)=λ_=>none:=by funext x;rfl
  rw[this]at hns₁;exact hns₁)
 have Jk:tn 0 h₁:=T.keep _ _ _ G7 λb hb o e=>keep b o (by rw[<- FK];exact aac _ e)
 have loop:∀s4:Shared,s4={s2 with heap:=h₁,toks:=s2.toks+([]:List (Str×Value)).length} ->
   adi (model X.prog X.w) X.A (.compLoop (.ListComp elt [⟨tg,iter,ifs,0⟩] scope pos) 0 (.ref it) (.ref s2.heap.objs.size) (compEnvC scope (y3 X.env.cells scope.names []) hp3.objs.size X.env)) (ae3 (model X.prog X.w) X.A E use QQ (.ref s2.heap.objs.size) hp3.objs.size) s4:=by
  rintro s4 rfl
  generalize hY:rW X scope N hp3.objs.size {s2 with heap:=hp3} (upd H2 s2.heap.objs.size (.lst [])) fp (X.pn++pins)=Y at J4
  have H0:∀{H':Hp},(∀b∈fp,H' b=none)->∀b∈fp,zJ Y [] H' b:=λhn b hb=>by
   subst hY
   refine⟨hn b hb,?_,?_,.inl hb,λx c e=>?_,λp hp=>?_⟩
   .show b≠hp3.objs.size
    rw[Kp];exact aap (aa7 (HZ b hb))
   .intro z
    rcases List.mem_cons.mp (I3.zM b z)with q|q
    .exact(f3 b hb).2.1 q
    .exact(f3 b hb).2.2.1 q
   .exact(f3 b hb).2.2.2.2.1 x c (dm (SC.cells I.ok) (λc e=>by simp at e) e)
   .exact(f3 b hb).2.2.2.2.2 p (by simpa[rW]using hp)
  have Nl:PG Y tg g:=by subst hY;exact hg _ _ _ _ _
  have MX:PF Y ifs tc:=by subst hY;exact ht _ _ _ _ _
  have Np:PE Y elt te:=by subst hY;exact he _ _ _ _ _
  have eA:Y.A=X.A:=by subst hY;rfl
  have eP:Y.prog=X.prog:=by subst hY;rfl
  have eW:Y.w=X.w:=by subst hY;rfl
  have eK:Y.K=X.K:=by subst hY;rfl
  have eC:Y.calm=true:=by subst hY;exact hc
  have eX:Y.xe=λ_ _=>False:=by subst hY;rfl
  have eE:Y.env=compEnvC scope (y3 X.env.cells scope.names []) hp3.objs.size X.env:=by subst hY;rfl
  have T':Turn Y.prog Y.w Y.K tg J fp it tn:=by rw[eP,eW,eK];exact T
  have eL:(xm js σ).length=js.length:=by unfold xm;rw[aad]
  rw[<- eP,<- eW,<- eA,<- eE]
  refine codeAny_loop rfl (λn s'=>∃i ys H',Inv Y [] (xm js σ) H' s'/\tn i s'.heap/\(∀b∈fp,H' b=none)/\W i n ys H') (λn s' hI=>?_) m0 ⟨0,[],_,J4,Jk,λb hb=>(f3 b hb).1,w0⟩
  obtain⟨i,ys,H5,I5,Fp,HY,w5⟩:=hI
  show wpAny _ Y.A ((compTurn (.ListComp elt [⟨tg,iter,ifs,0⟩] scope pos) 0 (.ref it) (.ref s2.heap.objs.size) Y.env).onRaise (λx=>do noteFrame x Y.env;theTreesLotGoes x)) _ _ s'
  refine wpAny_noted ?_
  rw[compTurn_list]
  refine aab (acJ (aab ?_))
  have CN:∀(x:Value) (s:Shared) (P:Prop),Y.xe x s->P:=λx s P z=>by rw[eX]at z;exact z.elim
  rcases turn i n ys H5 w5 with ⟨stop,qn⟩|⟨go,step⟩
  .refine aaJ (T'.done Y rfl rfl rfl eC i [] s' _ H5 Y.xe I5 (H0 HY) Fp stop) (λr s6 ⟨hr,I6⟩=>?_) λx s z=>CN x s _ z
   subst hr
   refine aaf ?_
   show ae3 _ _ _ _ _ _ _ _ _
   rw[eP,eW,eA]
   have back:Inv X pins σ H5 s6:=by subst hY;exact lV I3 I6 f3
   have Ea:∃m,s6.heap.Ns hp3.objs.size m:=by
    obtain⟨m,hm,_⟩:=I6.loc
    have:Y.env.locals=hp3.objs.size:=by rw[eE];rfl
    rw[this]at hm
    exact⟨m,hm⟩
   have NG:H5 hp3.objs.size=none:=by
    have:=I6.free
    have e:Y.env.locals=hp3.objs.size:=by rw[eE];rfl
    rw[e]at this;exact this
   refine fin s2.heap.objs.size hp3.objs.size H5 s6 back qn NG ?_ ?_ ?_ ?_ Ea
   .exact aca I3.lt
   .exact I3.sz
   .intro x c e z
    obtain⟨v,o,ho,_⟩:=I3.cell x c e
    exact absurd (aaj ho) (by rw[z];exact aba _)
   .intro p hp z
    have:=aaj (I3.pin p hp).1
    rw[z]at this;exact absurd this (aba _)
  .refine aaJ (T'.item Y rfl rfl rfl eC i [] s' _ H5 Y.xe I5 (H0 HY) Fp go) (λr s6 h6=>?_) λx s z=>CN x s _ z
   obtain⟨u,hr,h6⟩:=h6
   subst hr
   dsimp only
   refine aab ?_
   refine aaJ h6 (λ_ s7 h7=>?_) λx s z=>CN x s _ z
   obtain⟨x,H7,I7,r7,y7,G6,NK⟩:=h7
   have N4:=I7.pinned (H0 NK) (T.obj _ _ G6)
   have g7:=FH x (xm js σ) H7 _ (step x H7 y7)
   refine aab ?_
   refine aaJ (Nl _ s7 (xm js σ) H7 x u _ N4 r7 g7) (λ_ s8 h8=>?_) λx s z=>CN x s _ z
   obtain⟨σ8,H8,I8,q8,l8,k8⟩:=h8
   refine aab ?_
   refine aaJ (MX _ s8 σ8 H8 _ I8 q8) (λb s9 h9=>?_) λx s z=>CN x s _ z
   obtain⟨H9,I9,q9⟩:=h9
   have again:∀{s':Shared} {H':Hp},Inv Y ([]++zP fp s7.heap) σ8 H' s'->Inv Y [] (xm js σ) H' s'/\tn (i+1) s'.heap/\∀b∈fp,H' b=none:=λ{s' H'} I'=>by
    refine⟨(I'.y9).weak l8.symm λk v e=>?_,T.keep _ _ _ G6 λb hb o e=>(I'.pin (b,o) (aaC _ (aaC _ (bJ hb e)))).1,λb hb=>?_⟩
    .cases ej:js[k]? with
     |none=>
      unfold xm at e
      rw[aai,ej]at e;cases e
     |some o=>
      cases o with
      |none=>
       unfold xm at e
       rw[aai,ej]at e;cases e
      |some j=>rw[k8 k j ej];exact e
    .obtain⟨o,e,d⟩:=T.obj _ _ G6 b hb
     exact(I'.pin (b,o) (aaC _ (aaC _ (bJ hb e)))).2.1
   cases b with
   |false=>
    rw[if_neg aaz]at q9
    obtain⟨m',hm,w9⟩:=q9
    obtain⟨a1,a2,a3⟩:=again I9
    exact aaf ⟨rfl,m',hm,i+1,ys,H9,a1,a2,a3,w9⟩
   |true=>
    rw[if_pos rfl]at q9
    refine aab (aab ?_)
    refine aaJ (Np _ s9 σ8 H9 _ I9 q9) (λy Ml NJ=>?_) λx s z=>CN x s _ z
    obtain⟨yv,LK,N5,Mr,RN,z10,m',hm,Pz⟩:=NJ
    refine aab ?_
    refine aaJ (aX (X:=Y) _ Ml σ8 LK (.ref s2.heap.objs.size) [yv] (.ref s2.heap.objs.size) [y] (λ_ H'=>H'=upd LK s2.heap.objs.size (.lst (ys++[yv]))) N5 rfl (.cons Mr .nil) ⟨_,ys,yv,rfl,rfl,RN,z10,rfl⟩) (λ_ KW NI=>?_) λx s z=>CN x s _ z
    obtain⟨_,Pl,LJ,_,LC⟩:=NI
    subst LC
    obtain⟨a1,a2,a3⟩:=again LJ
    exact aaf (aaf ⟨rfl,m',hm,i+1,ys++[yv],_,a1,a2,a3,Pz⟩)
 exact codeAny_compStart_list (loop _ rfl) (T.self X.A 0 _ _ _ Jk (loop _ rfl))
theorem oj(hi:PI X tg iter wi)(hg:∀C s₀ H₀ ex pn,PG (rW X scope N C s₀ H₀ ex pn) tg g)(ht:∀C s₀ H₀ ex pn,PF (rW X scope N C s₀ H₀ ex pn) ifs tc)(he:∀C s₀ H₀ ex pn,PE (rW X scope N C s₀ H₀ ex pn) elt te)(FH:zI js g)
  (hc:X.calm=true:=by rfl) (hx:X.xe=(λ_ _=>False):=by rfl) (Ad:Ao X.env scope=true:=by rfl) (xO:yO X.N scope N js=true:=by rfl) (xk:scope.kind=.function:=by rfl) (hs:∀x,aa4 iter X.env x=pure x:=by intro _;rfl) :
  PE X (.ListComp elt [⟨tg,iter,ifs,0⟩] scope pos) (Oa wi g tc te js):=by
 intro pins s σ H Q I h
 rw[eval_ListComp]
 refine t8 (use:=none) hc hx hi hg ht he FH Ad xO xk hs I h λl C H' s' I' q f0 f1 f2 f3 f4 ⟨m,hm⟩=>?_
 refine⟨m,hm,λh' sb=>⟨.ref l,H',?_,rfl,q⟩⟩
 exact I'.turned (t':=s'.toks) (it:=C) (λb o hb e=>sb.extBut b o hb e) f0 f1 (.inr f2) f3 f4
end L2
namespace Srt
open PySem PySem.W PyProof.Rows
variable{α:Type}
def pw(lt:Nat->Nat->Bool)(n:Nat):KasT α->(α->Prop)->Prop
 |.ret a,Q=>Q a
 |.ask i j k,Q=>i<n/\j<n/\i≠j/\pw lt n (k (lt i j)) Q
theorem pw_bind{β:Type}{lt:Nat->Nat->Bool}{n:Nat}{f:α->KasT β}{Q:β->Prop}:∀(t:KasT α),pw lt n t (λa=>pw lt n (f a) Q)->pw lt n (t.bind f) Q
 |.ret _,h=>h
 |.ask i j k,h=>⟨h.1,h.2.1,h.2.2.1,pw_bind (k (lt i j)) h.2.2.2⟩
structure Ord(lt:Nat->Nat->Bool)(n:Nat):Prop where
 irr:∀i,i<n->lt i i=false
 tr:∀i j k,i<n->j<n->k<n->lt i j=true->lt j k=true->lt i k=true
 tot:∀i j,i<n->j<n->i≠j->lt i j=false->lt j i=true
section
variable{lt:Nat->Nat->Bool}{n:Nat}
def at'(p:Array Nat)(i:Nat):Nat:=p.getD i 0
structure Pm(p:Array Nat)(n:Nat):Prop where
 sz:p.size=n
 lt:∀i,i<n->at' p i<n
 nd:∀i j,i<n->j<n->at' p i=at' p j->i=j
theorem aO(p:Array Nat)(i:Nat):at' p i=(p[i]?).getD 0:=by
 unfold at'
 by_cases h:i<p.size
 .simp[Array.getD,h]
 .simp[Array.getD,h]
def Ee(lt:Nat->Nat->Bool)(p:Array Nat)(k:Nat):Prop:=∀i j,i<j->j<k->lt (at' p i) (at' p j)=true
def N6(lt:Nat->Nat->Bool)(p:Array Nat)(k:Nat):Prop:=∀i j,i<j->j<k->lt (at' p j) (at' p i)=true
theorem mE(o:Ord lt n){p:Array Nat}(P:Pm p n):∀(f m:Nat) (Q:Nat->Prop),1<=m->m+f<=n->Ee lt p m->(∀m',m<=m'->m'<=m+f->Ee lt p m'->(m'<m+f->lt (at' p m') (at' p (m' - 1))=true)->Q m')->pw lt n (kas_asc p f m) Q
 |0,m,Q,_,_,ha,h=>h m (aak _) (aak _) ha λz=>absurd z (aba _)
 |f+1,m,Q,h1,hm,ha,h=>by
  refine⟨P.lt _ (by omega),P.lt _ (by omega),λz=>(by have:=P.nd _ _ (by omega) (by omega) z;omega),?_⟩
  cases c:lt (p.getD m 0) (p.getD (m - 1) 0)with
  |true=>
   show Q m
   exact h m (aak _) (by omega) ha λ_=>c
  |false=>
   show pw lt n (kas_asc p f (m+1)) Q
   have e:lt (at' p (m - 1)) (at' p m)=true:=o.tot _ _ (P.lt _ (by omega)) (P.lt _ (by omega)) (λz=>by have:=P.nd _ _ (by omega) (by omega) z;omega) c
   refine mE o P f (m+1) Q (by omega) (by omega) (λi j Ae hj=>?_) λm' a b c d=>h m' (by omega) (by omega) c λz=>d (by omega)
   by_cases ej:j=m
   .subst ej
    by_cases ei:i=j - 1
    .subst ei;exact e
    .exact o.tr _ (at' p (j - 1)) _ (P.lt _ (by omega)) (P.lt _ (by omega)) (P.lt _ (by omega)) (ha i (j - 1) (by omega) (by omega)) e
   .exact ha i j Ae (by omega)
theorem nM(o:Ord lt n){p:Array Nat}(P:Pm p n):∀(f m:Nat) (Q:Array Nat×Nat×Nat->Prop),1<=m->m+f<=n->N6 lt p m->(∀m',m<=m'->m'<=m+f->N6 lt p m'->Q (p,m',0))->pw lt n (kas_desc f p m 0) Q
 |0,m,Q,_,_,ha,h=>h m (aak _) (aak _) ha
 |f+1,m,Q,h1,hm,ha,h=>by
  refine⟨P.lt _ (by omega),P.lt _ (by omega),λz=>(by have:=P.nd _ _ (by omega) (by omega) z;omega),?_⟩
  cases c:lt (p.getD m 0) (p.getD (m - 1) 0)with
  |true=>
   show pw lt n (if 0 > 0 then kas_desc f (aep p (m - (0+1)) m) (m+1) 0 else kas_desc f p (m+1) 0) Q
   rw[if_neg (aba 0)]
   refine nM o P f (m+1) Q (by omega) (by omega) (λi j Ae hj=>?_) λm' a b c=>h m' (by omega) (by omega) c
   by_cases ej:j=m
   .subst ej
    by_cases ei:i=j - 1
    .subst ei;exact c
    .exact o.tr _ (at' p (j - 1)) _ (P.lt _ (by omega)) (P.lt _ (by omega)) (P.lt _ (by omega)) c (ha i (j - 1) (by omega) (by omega))
   .exact ha i j Ae (by omega)
  |false=>
   have e:lt (at' p (m - 1)) (at' p m)=true:=o.tot _ _ (P.lt _ (by omega)) (P.lt _ (by omega)) (λz=>by have:=P.nd _ _ (by omega) (by omega) z;omega) c
   show pw lt n (KasT.ask (p.getD (m - 1) 0) (p.getD m 0) _) Q
   refine⟨P.lt _ (by omega),P.lt _ (by omega),λz=>(by have:=P.nd _ _ (by omega) (by omega) z;omega),?_⟩
   rw[show lt (p.getD (m - 1) 0) (p.getD m 0)=true from e]
   exact h m (aak _) (by omega) ha
theorem lp{p:Array Nat}{m i:Nat}(hm:m<=p.size)(hi:i<m):at' (aep p 0 m) i=at' p (m - 1 - i):=by
 rw[aO,aO]
 unfold aep
 rw[getElem?_mirror hm _ (by omega)]
 have e:0+m - 1 - i=m - 1 - i:=by omega
 split
 .rw[e]
 .rename_i h
  have:i=m - 1 - i:=by omega
  rw[<- this]
theorem sY{p:Array Nat}{m i:Nat}(hm:m<=p.size)(hi:m<=i):at' (aep p 0 m) i=at' p i:=by
 rw[aO,aO]
 unfold aep
 rw[getElem?_mirror hm _ (by omega),if_neg (by omega)]
theorem uT{p:Array Nat}{m:Nat}(P:Pm p n)(hm:m<=n):Pm (aep p 0 m) n:=by
 have hs:m<=p.size:=by rw[P.sz];exact hm
 have key:∀i,i<n->∃i',i'<n/\at' (aep p 0 m) i=at' p i'/\((i<m/\i'=m - 1 - i)\/(m<=i/\i'=i)):=λi hi=>by
  by_cases h:i<m
  .exact⟨m - 1 - i,by omega,lp hs h,.inl ⟨h,rfl⟩⟩
  .exact⟨i,hi,sY hs (by omega),.inr ⟨by omega,rfl⟩⟩
 refine⟨by unfold aep;rw[mirror_size];exact P.sz,λi hi=>?_,λi j hi hj e=>?_⟩
 .obtain⟨i',h1,h2,_⟩:=key i hi
  rw[h2];exact P.lt i' h1
 .obtain⟨i',h1,h2,h3⟩:=key i hi
  obtain⟨j',k1,k2,k3⟩:=key j hj
  rw[h2,k2]at e
  have:=P.nd _ _ h1 k1 e
  omega
theorem qN(o:Ord lt n){p:Array Nat}(P:Pm p n){m:Nat}{Q:Nat×Array Nat->Prop}(h1:1<=m)(hm:m<=n)(hd:N6 lt p m)(h:∀m' q,1<=m'->m'<=n->Pm q n->Ee lt q m'->Q (m',q)):pw lt n (kas_tail3 m n p) Q:=by
 refine pw_bind _ ?_
 have P':=uT P hm
 have hs:m<=p.size:=by rw[P.sz];exact hm
 refine mE o P' _ _ _ h1 (by omega) (λi j Ae hj=>?_) λm' a b c _=>h m' _ (by omega) (by omega) P' c
 rw[lp hs (by omega),lp hs hj]
 exact hd _ _ (by omega) (by omega)
theorem sj(o:Ord lt n){p:Array Nat}(P:Pm p n)(h2:2<=n){Q:Nat×Array Nat->Prop}(h:∀m q,1<=m->m<=n->Pm q n->Ee lt q m->Q (m,q)):pw lt n (kas_count n p) Q:=by
 refine pw_bind _ ?_
 refine mE o P _ _ _ (aak 1) (by omega) (λi j Ae hj=>by omega) λm a b c d=>?_
 by_cases e:(m==n)=true
 .rw[if_pos e]
  exact h m p (by omega) (by omega) P c
 .rw[if_neg e]
  have yq:m≠n:=λz=>e (by simp[z])
  by_cases hm:m > 1
  .rw[if_pos hm]
   refine⟨P.lt _ (by omega),P.lt _ (by omega),λz=>(by have:=P.nd _ _ (by omega) (by omega) z;omega),?_⟩
   rw[show lt (p.getD 0 0) (p.getD (m - 1) 0)=true from c 0 (m - 1) (by omega) (by omega)]
   exact h m p (by omega) (by omega) P c
  .rw[if_neg hm]
   have Nf:m=1:=by omega
   subst Nf
   refine pw_bind _ ?_
   have d1:lt (at' p 1) (at' p (1 - 1))=true:=d (by omega)
   refine nM o P _ _ _ (by omega) (by omega) (λi j Ae hj=>?_) λm' a b hd=>?_
   .have:i=0:=by omega
    have:j=1:=by omega
    subst i j
    exact d1
   .show pw lt n (if 0 > 0 then kas_tail3 m' n (aep p (m' - (0+1)) m')else kas_tail3 m' n p) Q
    rw[if_neg (aba 0)]
    exact qN o P (by omega) (by omega) hd h
theorem hU(o:Ord lt n){p:Array Nat}(P:Pm p n){k:Nat}(hk:k<n)(ha:Ee lt p k):∀(f l r:Nat) (Q:Nat->Prop),l<=r->r<=k->r<=l+f->(∀i,i<l->lt (at' p i) (at' p k)=true)->(∀i,r<=i->i<k->lt (at' p k) (at' p i)=true) ->
  (∀l',l'<=k->(∀i,i<l'->lt (at' p i) (at' p k)=true)->(∀i,l'<=i->i<k->lt (at' p k) (at' p i)=true)->Q l')->pw lt n (kas_place p k f l r) Q
 |0,l,r,Q,hl,hr,hf,h1,h2,h=>by
  have:l=r:=by omega
  subst this
  exact h l hr h1 h2
 |f+1,l,r,Q,hl,hr,hf,h1,h2,h=>by
  unfold kas_place
  by_cases OK:l ≥ r
  .rw[if_pos OK]
   have:l=r:=by omega
   subst this
   exact h l hr h1 h2
  .rw[if_neg OK]
   have hm:(l+r) / 2<k:=by omega
   refine⟨P.lt _ hk,P.lt _ (by omega),λz=>(by have:=P.nd _ _ hk (by omega) z;omega),?_⟩
   cases c:lt (p.getD k 0) (p.getD ((l+r) / 2) 0)with
   |true=>
    show pw lt n (kas_place p k f l ((l+r) / 2)) Q
    refine hU o P hk ha f l _ Q (by omega) (by omega) (by omega) h1 (λi hi OT=>?_) h
    by_cases e:i=(l+r) / 2
    .subst e;exact c
    .exact o.tr _ (at' p ((l+r) / 2)) _ (P.lt _ hk) (P.lt _ (by omega)) (P.lt _ (by omega)) c (ha _ _ (by omega) OT)
   |false=>
    show pw lt n (kas_place p k f ((l+r) / 2+1) r) Q
    have e:lt (at' p ((l+r) / 2)) (at' p k)=true:=o.tot _ _ (P.lt _ hk) (P.lt _ (by omega)) (λz=>by have:=P.nd _ _ hk (by omega) z;omega) c
    refine hU o P hk ha f _ r Q (by omega) hr (by omega) (λi hi=>?_) h2 h
    by_cases e':i=(l+r) / 2
    .subst e';exact e
    .exact o.tr _ (at' p ((l+r) / 2)) _ (P.lt _ (by omega)) (P.lt _ (by omega)) (P.lt _ hk) (ha _ _ (by omega) (by omega)) e
theorem fX{p:Array Nat}{k l i:Nat}(hk:k<p.size)(hl:l<=k):at' (bubble p k (k - l)) i=if i=l then at' p k else if l<i/\i<=k then at' p (i - 1)else at' p i:=by
 rw[aO]
 rw[getElem?_bubble hk (k - l) (by omega)]
 have e:k - (k - l)=l:=by omega
 rw[e]
 split
 .rw[aO]
 .split
  .rw[aO]
  .rw[aO]
theorem qH(o:Ord lt n):∀(f k:Nat) (p:Array Nat) (Q:Array Nat->Prop),Pm p n->Ee lt p k->k+f=n->(∀q,Pm q n->Ee lt q n->Q q)->pw lt n (kas_bin f p k) Q
 |0,k,p,Q,P,ha,hk,h=>by
  have:k=n:=by omega
  subst this
  exact h p P ha
 |f+1,k,p,Q,P,ha,hk,h=>by
  have HJ:k<n:=by omega
  have hs:k<p.size:=by rw[P.sz];exact HJ
  refine pw_bind _ (hU o P HJ ha k 0 k _ (aaS _) (aak _) (by omega) (λi hi=>by omega) (λi hi OT=>by omega) λl hl h1 h2=>?_)
  refine qH o f (k+1) _ Q ⟨by rw[bubble_size];exact P.sz,λi hi=>?_,λi j hi hj e=>?_⟩ (λi j Ae hj=>?_) (by omega) h
  .rw[fX hs hl]
   split
   .exact P.lt _ HJ
   .split
    .exact P.lt _ (by omega)
    .exact P.lt _ hi
  .rw[fX hs hl,fX hs hl]at e
   have P1:=P.nd
   split at e
   .split at e
    .omega
    .split at e
     .have:=P1 _ _ HJ (by omega) e;omega
     .have:=P1 _ _ HJ (by omega) e;omega
   .split at e
    .split at e
     .have:=P1 _ _ (by omega) HJ e;omega
     .split at e
      .have:=P1 _ _ (by omega) (by omega) e;omega
      .have:=P1 _ _ (by omega) (by omega) e;omega
    .split at e
     .have:=P1 _ _ (by omega) HJ e;omega
     .split at e
      .have:=P1 _ _ (by omega) (by omega) e;omega
      .have:=P1 _ _ (by omega) (by omega) e;omega
  .rw[fX hs hl,fX hs hl]
   split
   .split
    .omega
    .split
     .exact h2 _ (by omega) (by omega)
     .omega
   .split
    .split
     .omega
     .split
      .exact ha _ _ (by omega) (by omega)
      .omega
    .split
     .exact h1 _ (by omega)
     .split
      .exact ha _ _ (by omega) (by omega)
      .exact ha _ _ Ae (by omega)
theorem mW(o:Ord lt n)(h2:2<=n){Q:Array Nat->Prop}(h:∀p,Pm p n->Ee lt p n->Q p):pw lt n (kas_sort n) Q:=by
 have P0:Pm (aeU (aaR n)) n:=by
  have e:∀i,i<n->at' (aeU (aaR n)) i=i:=λi hi=>by rw[aO];simp[hi]
  refine⟨by simp,λi hi=>by rw[e i hi];exact hi,λi j hi hj q=>by rw[e i hi,e j hj]at q;exact q⟩
 refine pw_bind _ (sj o P0 h2 λm q h1 hm P ha=>?_)
 show pw lt n (if m<n then kas_bin (n - max m 1) q (max m 1)else .ret q) Q
 by_cases e:m<n
 .rw[if_pos e]
  have em:max m 1=m:=by omega
  rw[em]
  exact qH o _ _ _ _ P ha (by omega) h
 .rw[if_neg e]
  have:m=n:=by omega
  subst this
  exact h q P ha
end
theorem pw_wp{lt:Nat->Nat->Bool}{n:Nat}{cmp:Nat->Nat->(Bool->Shared->Prop)->Shared->Prop}{Q:α->Prop}{QQ:α->Shared->Prop}{J:Shared->Prop}
  (hc:∀i j C s,i<n->j<n->i≠j->J s->(∀s',J s'->C (lt i j) s')->cmp i j C s) (hq:∀a s,J s->Q a->QQ a s):∀(t:KasT α) (s:Shared),J s->pw lt n t Q->t.kasWp cmp QQ s
 |.ret a,s,hj,h=>hq a s hj h
 |.ask i j k,s,hj,h=>hc i j _ s h.1 h.2.1 h.2.2.1 hj λs' AD=>pw_wp hc hq (k (lt i j)) s' AD h.2.2.2
end Srt
namespace L2
open PySem PySem.Spec PyProof.Rows
variable{ss:List Str}
theorem iE:∀{us:List Value},oR (ss.map V.str) us->acd us ss:=by
 induction ss with
 |nil=>intro us r;cases r;exact .nil
 |cons x r ih=>
  intro us h
  cases h with
  |cons h1 h2=>
   obtain⟨t,rfl⟩:=h1
   exact .cons x t (ih h2)
theorem dt:∀{us:List Value} {ss:List Str},acd us ss->oR (ss.map V.str) us
 |_,_,.nil=>.nil
 |_,_,.cons x t h=>.cons ⟨t,rfl⟩ (dt h)
def xq(a b:Str):Prop:=a.cps.toList<b.cps.toList
instance (a b:Str):Decidable (xq a b):=inferInstanceAs (Decidable (a.cps.toList<b.cps.toList))
theorem gH:∀(l:List Str) (p:Str),risingS p l=true->(∀y∈l,¬ xq y p)/\l.Pairwise (λa b=>¬ xq b a)
 |[],p,_=>⟨(λ_ h=>nomatch h),aeO⟩
 |x::r,p,h=>by
  have h':(!ltCps x.cps.toList p.cps.toList && risingS x r)=true:=h
  rw[aaT]at h'
  obtain⟨h1,h2⟩:=h'
  have hx:¬ xq x p:=by
   unfold xq
   rw[ltCps_eq]at h1
   simpa using h1
  obtain⟨a,b⟩:=gH r x h2
  refine⟨λy hy=>?_,List.pairwise_cons.mpr ⟨a,b⟩⟩
  rcases List.mem_cons.mp hy with rfl|hy
  .exact hx
  .intro z
   have:=a y hy
   unfold xq at *
   exact hx (List.lt_of_le_of_lt (List.not_lt.mp this) z)
theorem dL{l:List Str}(h:sortedS l=true):l.Pairwise (λa b=>¬ xq b a):=by
 cases l with
 |nil=>exact aeO
 |cons x r=>
  obtain⟨a,b⟩:=gH r x h
  exact List.pairwise_cons.mpr ⟨a,b⟩
variable{X:Cx}
def Hk(K:aah):List V->Hp->VK->Prop:=λxs H Q=>∃(p:Addr) (ss:List Str),xs=[.ref p]/\yf K H p (ss.map V.str)/\ss.length<64 /\
 ∀(l:Addr) (zr:List Str),H l=none->zr.Perm ss->zr.Pairwise (λa b=>¬ xq b a)->Q (.ref l) (upd H l (.lst (zr.map V.str)))
theorem oS:wX X (.builtin "sorted") (Hk X.K):=by
 intro pins s σ H xs us Q I r h
 obtain⟨p,ss,rfl,hq,zS,k⟩:=h
 obtain⟨u,rfl,ru⟩:=r.one
 cases ru
 obtain⟨gE,rv,pl,hz⟩:=I.list hq
 have hS:=iE rv
 have hl:=rv.length
 rw[aad]at hl
 refine sorted_strs pl.isList hS (by omega) λout zr a1 a2 a3=>?_
 obtain⟨e,he⟩:=sortedAll_at s.heap gE out
 have hn:H (s.heap.objs.size+1)=none:=I.wU.fresh (acW _)
 refine⟨.ref (s.heap.objs.size+1),_,I.laid (t':=s.toks) (a:=s.heap.objs.size+1) (o:=.lst (zr.map V.str)) (λb o q=>sortedAll_old q) (acW _) ?_,rfl,k _ zr hn a2 (dL a3)⟩
 refine⟨by rw[aad,a2.length_eq,aaA];omega,out.toList,e,dt a1,?_⟩
 rw[ada]
 exact he
variable{prog:aaB}{w:World}{A:Around}{E:Value->Shared->Prop}{s:Shared}
def cV(vs:List Value):Sem PySem.Fin:=do
 let l <- newList vs
 let _ <- adg [l] (call (.builtin "list.sort") [l] [])
 ret l
variable{x:Value}{vs:List Value}{Q:Value->Shared->Prop}
theorem ph(hc:∀R:List Value->Shared->Prop,(∀h1 tk,(∀b o,s.heap.get? b=some o->h1.get? b=some o)->R vs {s with heap:=h1,toks:=tk})->wpAny (model prog w) A.in1 (collect x) R E s)
  (h:∀h1 tk,(∀b o,s.heap.get? b=some o->h1.get? b=some o)->wpAny (model prog w) A.in1 (cV vs) (λfin s'=>∃v,fin=.done (.ret v)/\Q v s') E {s with heap:=h1,toks:=tk}):wpAny (model prog w) A (call (.builtin "sorted") [x]) Q E s:=by
 refine adC afc aeQ aeR (args_sorted1 _) (?_:wpAny (model prog w) A.in1 (ack.«sorted» ⟨[x],[]⟩) _ _ s)
 unfold ack.«sorted»
 exact aab (m:=checkCount "sorted" 1 1 _) (aaf (aab (hc _ λh1 tk kk=>h h1 tk kk)))
theorem og(h2:vs.length<2)(h:∀h' e,(∀b o,s.heap.get? b=some o->h'.get? b=some o)->h'.get? s.heap.objs.size=some (seqObj "list" vs.toArray e)->Q (.ref s.heap.objs.size) {s with heap:=h'}):
  wpAny (model prog w) A (cV vs) (λfin s'=>∃v,fin=.done (.ret v)/\Q v s') E s:=by
 have hz:vs.length<=sizeLine:=by rw[aaA];omega
 unfold cV
 refine aab (acs ?_ hz)
 have DR:(s.heap.push (seqObj "list" vs.toArray 0)).get? s.heap.objs.size=some (seqObj "list" vs.toArray 0):=aal _ rfl
 refine(?_:wpAny _ _ _ _ _ {s with heap:=s.heap.push (seqObj "list" vs.toArray 0)})
 generalize RE:s.heap.push (seqObj "list" vs.toArray 0)=hB at DR ⊢
 have kB:∀b o,s.heap.get? b=some o->hB.get? b=some o:=λb o e=>by rw[<- RE];exact aac _ e
 refine aab (aaN (abN adz ⟨_,DR,rfl⟩ adh ?body (aek _)))
 case body=>
  rw[list_sort_plain]
  obtain⟨e1,J5⟩:∃e1,(hB.update s.heap.objs.size (abj λ_=>#[])).get? s.heap.objs.size=some (seqObj "list" #[] e1):=⟨_,acn DR λ_=>#[]⟩
  refine aab (listItems_at DR rfl (aab (adb DR rfl ?_ (by rw[aae];exact hz) (aaS _))))
  refine aab (afa J5 rfl (aab (wpAny_newTuple ?_ (by show vs.length<=_;exact hz))))
  refine aab (acs (aaN ?_) (aaS _))
  have M8:(((hB.update s.heap.objs.size (abj λ_=>#[])).push (seqObj "tuple" vs.toArray 0)).push (seqObj "list" #[] 0)).get? s.heap.objs.size=some (seqObj "list" #[] e1) :=
   aac _ (aac _ J5)
  refine(?_:wpAny (model prog w) _ _ _ _ {s with heap:=((hB.update s.heap.objs.size (abj λ_=>#[])).push (seqObj "tuple" vs.toArray 0)).push (seqObj "list" #[] 0)})
  dsimp only
  have xA:vs.toArray.size<2:=by rw[aae];exact h2
  rw[if_pos xA,if_pos xA]
  refine aab (aaf ?_)
  rw[StateT.run_pure]
  refine aab (aaf ?_)
  dsimp only
  have eo:(arrOf (SortSt.mk' general' (vs.toArray.zip vs.toArray) #[] 7 none)).map (·.2)=vs.toArray:=by
   show (vs.toArray.zip vs.toArray).map (·.2)=vs.toArray
   apply Array.ext
   .simp
   .intro i h1 h2
    simp
  rw[eo]
  refine aab (afa M8 rfl (aab (adb M8 rfl ?_ (aaS _) (by rw[aae];first|exact hz|exact Nat.le_succ_of_le hz))))
  simp only[bne_self_eq_false,abl,if_false]
  refine aaf ⟨_,rfl,aaf ⟨_,rfl,h _ _ (λb o e=>?_) (acn M8 λ_=>vs.toArray)⟩⟩
  have hb:b≠s.heap.objs.size:=aap (aaj e)
  rw[aes _ _ _ _ hb]
  refine aac _ (aac _ ?_)
  rw[aes _ _ _ _ hb]
  exact kB b o e
variable{pins:List (Addr×Obj)}{σ:St}{H:Hp}
variable{h:Heap}{a:Addr}
theorem vm{m m':Str->Option Value}(x:h.Ns a m)(y:h.Ns a m'):m=m':=by
 obtain⟨o,es,ep,ho,hd,_,hm⟩:=x
 obtain⟨o',Ck,LA,BW,Lw,_,Ls⟩:=y
 rw[ho]at BW;cases BW
 rw[hd]at Lw;cases Lw
 funext n
 rw[<- hm n,<- Ls n]
variable{P:aaB}{o:HO}
theorem xa.there(x:xa P w H h a o):∃u,h.get? a=some u:=by
 cases o with
 |lst xs=>obtain⟨_,_,_,_,e⟩:=x;exact⟨_,e⟩
 |tup xs=>obtain⟨_,_,_,o,e,_⟩:=x;exact⟨_,e⟩
 |dK kvs=>obtain⟨_,_,_,_,o,_,_,e,_⟩:=x;exact⟨_,e⟩
 |dT kvs=>obtain⟨_,_,_,_,o,_,_,e,_⟩:=x;exact⟨_,e⟩
 |set S n=>obtain⟨o,_,_,_,e,_⟩:=x;exact⟨_,e⟩
 |ins C dx fs=>obtain⟨_,_,_,e,_⟩:=x;exact⟨_,e⟩
 |own y=>exact x
 |xd fs=>obtain⟨_,⟨_,_,_,e,_⟩,_⟩:=x;exact⟨_,e⟩
 |KY lo hi=>obtain⟨_,_,_,e⟩:=x;exact⟨_,e⟩
 |yG ob u=>obtain⟨e,_⟩:=x;exact⟨_,e⟩
 |Fo ps=>exact⟨_,show h.get? a=some _ from x⟩
 |met f y=>exact⟨_,show h.get? a=some _ from x⟩
 |ext φ=>obtain⟨_,e,_⟩:=x;exact e
theorem zl.dead(x:zl P w H h)(e:h.get? a=none):H a=none:=by
 cases q:H a with
 |none=>rfl
 |some u=>
  obtain⟨o,z⟩:=(x a u q).there
  rw[e]at z;cases z
variable{h':Heap}{xs:List V}
theorem Inv.Gw{D:Addr}{m:Str->Option Value}(I:Inv X pins σ H s)(hm:s.heap.Ns X.env.locals m)(Ls:h'.Ns X.env.locals m)(k:∀b o,b≠X.env.locals->s.heap.get? b=some o->h'.get? b=some o)
  (hD:s.heap.get? D=none) (new:xa X.prog X.w (upd H D (.lst xs)) h' D (.lst xs)):Inv X pins σ (upd H D (.lst xs)) {s with heap:=h'}:=by
 have fr:H D=none:=I.wU.dead hD
 have nD:∀b o,s.heap.get? b=some o->b≠D:=λb o e z=>by rw[z,hD]at e;cases e
 have nt:∀b u,H b=some u->b≠D:=λb u e=>aq e fr
 have Ow:∀b u,H b=some u->b≠X.env.locals:=λb u e=>aq e I.free
 refine I.step (g':=s.gens) (d':=s.drawn) (t':=s.toks) (ch:=[]) (λ_ z=>nomatch z) (λb o hb _ _ e _=>k b o hb e) (λb o hb _ _ e _=>⟨o.slots,k b o hb e⟩) (λb o _ e n=>by rw[af (nD b o e)];exact n)
  (λb o _ e=>?_) (λb ys e=>by rw[af (nt b _ e)];exact e) (λb o u e=>by rw[af (nt b _ e)];exact e) (λb ps e=>⟨#[],by rw[af (nt b _ e),e];simp⟩) (λm2 h2=>by rw[vm h2 hm];exact Ls) (λb u e=>?_) I.bare
 .by_cases hb:b=X.env.locals
  .subst hb
   obtain⟨o',_,_,BW,_⟩:=Ls
   exact⟨o',BW⟩
  .exact⟨o,k b o hb e⟩
 .by_cases hb:b=D
  .subst hb
   rw[ag]at e
   cases e
   exact new
  .rw[af hb]at e
   refine(I.wU b u e).AH (λc v hc q=>k c v ?_ q) (λc q=>by rw[af (nt c _ q)];exact q) λc ys q=>by rw[af (nt c _ q)];exact q
   rcases hc with z|z
   .rw[z];exact Ow b u e
   .exact Ow c _ z
structure Rows(K:aah)(H:Hp)(vs:List V)(nm:List Str):Prop where
 len:vs.length=nm.length
 row:∀(i:Nat) (v:V) (x:Str),vs[i]?=some v->nm[i]?=some x->∃a r,v=.ref a/\yI K H a (.str x::r)
 nd:nm.Nodup
def Hl(K:aah):List V->Hp->VK->Prop:=λxs H Q=>∃p vs nm,xs=[.ref p]/\yf K H p vs/\vs.length<64/\Rows K H vs nm /\
 ∀l (ix:List Nat),H l=none->ix.length=vs.length->ix.Nodup->(∀i∈ix,i<vs.length)->(ix.map λi=>nm.getD i ⟨#[]⟩).Pairwise xq->Q (.ref l) (upd H l (.lst (ix.map λi=>vs.getD i .nE)))
variable{us:List Value}
theorem oR.pick(r:oR xs us):∀(ix:List Nat),(∀i∈ix,i<xs.length)->oR (ix.map λi=>xs.getD i .nE) (ix.map λi=>us.getD i aa1)
 |[],_=>.nil
 |i::ix,h=>by
  refine .cons ?_ (oR.pick r ix λj hj=>h j (aar _ hj))
  have hi:=h i aat
  have e:xs[i]?=some (xs[i]):=by simp[hi]
  obtain⟨u,hu,ru⟩:=r.get e
  have e1:xs.getD i .nE=xs[i]:=by simp[hi]
  have e2:us.getD i aa1=u:=by rw[aag,hu];rfl
  show RelV (xs.getD i .nE) (us.getD i aa1)
  rw[e1,e2]
  exact ru
variable{gE:List Value}
theorem qP{vs:List V}{nm:List Str}{Q:VK}(I:Inv X pins σ H s)(rv:oR vs gE)(hz:gE.length<=sizeLine)(zS:vs.length<64)(R:Rows X.K H vs nm)
  (k:∀l (ix:List Nat),H l=none->ix.length=vs.length->ix.Nodup->(∀i∈ix,i<vs.length)->(ix.map λi=>nm.getD i ⟨#[]⟩).Pairwise xq->Q (.ref l) (upd H l (.lst (ix.map λi=>vs.getD i .nE)))) :
  wpAny (model X.prog X.w) A (cV gE) (λfin s'=>∃v,fin=.done (.ret v)/\∃x H',Inv X pins σ H' s'/\RelV x v/\Q x H') E s:=by
 have hl:=rv.length
 by_cases h2:gE.length<2
 .refine og h2 λh' e kk he=>?_
  have hn:H s.heap.objs.size=none:=I.wU.fresh (aak _)
  have ei:(aaR vs.length).map (λi=>vs.getD i V.nE)=vs:=by
   apply ab7
   intro i
   rw[aai]
   by_cases hi:i<vs.length
   .rw[abT hi];simp[hi]
   .rw[aan (by simpa using hi),aan (by omega)];rfl
  have q:=k s.heap.objs.size (aaR vs.length) hn (by simp) adV (λi hi=>List.mem_range.mp hi) (by
   match hv:vs.length,hl with
   |0,_=>simp
   |1,_=>simp[afi]
   |n+2,hl=>omega)
  rw[ei]at q
  exact⟨.ref s.heap.objs.size,_,I.laid (t':=s.toks) (a:=s.heap.objs.size) (o:=.lst vs) kk (aak _) ⟨by rw[hl];exact hz,gE,e,rv,he⟩,rfl,q⟩
 .obtain⟨m,F⟩:=I.fr
  unfold cV
  refine aab (acs ?_ hz)
  have DR:(s.heap.push (seqObj "list" gE.toArray 0)).get? s.heap.objs.size=some (seqObj "list" gE.toArray 0):=aal _ rfl
  have hL:X.env.locals<s.heap.objs.size:=F.ns.lt
  refine aab (aaN (abN adz ⟨_,DR,rfl⟩ adh ?body (aek _)))
  refine PySem.W.kat_list_sort (s:={s with heap:=s.heap.push (seqObj "list" gE.toArray 0)}) (F.kept λb o e=>aac _ e) ((ig (g:=X.base) (h:=s.heap) (L:=X.env.locals)).grown λb o e=>aac _ e) DR (aca hL)
   (Heap.get?_none_of_le (aaX F.above (aeS hL))) (λp hp=>aap (aaj ((ig (g:=X.base) (h:=s.heap) (L:=X.env.locals)) p hp).1)) (by omega) (by omega) λe1 h' F' N'=>?_
  have hD:∀q∈gx X.base s.heap X.env.locals,q.1<s.heap.objs.size:=λq hq=>aaj ((ig (g:=X.base) (h:=s.heap) (L:=X.env.locals)) q hq).1
  generalize SS:s.heap.objs.size=D at hD N' ⊢
  have JP:∀b o,b≠X.env.locals->s.heap.get? b=some o->h'.get? b=some o:=λb o hb e=>by
   cases q:X.base.get? b with
   |some ob=>
    have:=I.bk b ob q
    rw[e]at this;cases this
    exact F'.keep b _ q
   |none=>exact(N' (b,o) (aar _ (dQ hb q e))).1
  have RB:∀b o,b≠X.env.locals->X.base.get? b=none->s.heap.get? b=some o->b<D:=λb o hb hn e=>hD (b,o) (dQ hb hn e)
  have rowAt:∀i,i<gE.length->∃a ob vv x t n,gE.getD i aa1=.ref a/\h'.get? a=some ob/\ob.cls=.type "tuple" /\ ob.data=.seq vv n/\vv[0]?=some (.str x t)/\nm[i]?=some x/\s.heap.get? a=some ob:=λi hi=>by
   have Bl:i<vs.length:=by omega
   have e:vs[i]?=some vs[i]:=by simp[Bl]
   obtain⟨u,hu,ru⟩:=rv.get e
   have Bw:i<nm.length:=by rw[<- R.len];exact Bl
   have en:nm[i]?=some nm[i]:=by simp[Bw]
   obtain⟨a,rr,ev,ha⟩:=R.row i _ _ e en
   rw[ev]at ru
   cases ru
   obtain⟨PN,tv,⟨ob,EO,hc,n,hd⟩,z1⟩:=I.tuple ha
   cases tv with
   |cons t1 t2=>
    obtain⟨t,rfl⟩:=t1
    refine⟨a,ob,_,nm[i],t,n,by rw[aag,hu];rfl,JP a ob ?_ EO,hc,hd,by simp,en,EO⟩
    rintro rfl
    obtain⟨m,⟨o2,es,ep,g1,g2,_⟩,_⟩:=I.loc
    rw[EO]at g1;cases g1
    rw[hd]at g2;cases g2
  have Al:PySem.W.KatTups h' gE ((aaR gE.length).map λi=>match gE.getD i aa1 with|.ref a=>(match h'.get? a with|some ob=>(match ob.data with|.seq vv _=>(vv[0]?).getD .none|_=>.none)|none=>.none)|_=>.none):=by
   have go:∀(us:List Value) (f:Nat->Value) (k0:Nat),(∀i,i<us.length->∃a ob vv n,us.getD i aa1=.ref a/\h'.get? a=some ob/\ob.cls=.type "tuple" /\ ob.data=.seq vv n/\vv[0]?=some (f (k0+i))) ->
     PySem.W.KatTups h' us ((aaR us.length).map λi=>f (k0+i)):=by
    intro us
    induction us with
    |nil=>intro f k0 _;exact trivial
    |cons u us ih=>
     intro f k0 hh
     obtain⟨a,ob,vv,n,e1,e2,e3,e4,e5⟩:=hh 0 (by simp)
     have Ks:u=.ref a:=by simpa using e1
     subst Ks
     rw[aa3,List.range_succ_eq_map,aas,aaw]
     refine⟨⟨a,ob,vv,n,rfl,e2,e3,e4,e5⟩,?_⟩
     have:=ih f (k0+1) λi hi=>by
      obtain⟨a,ob,vv,n,e1,e2,e3,e4,e5⟩:=hh (i+1) (by simpa using hi)
      exact⟨a,ob,vv,n,by simpa using e1,e2,e3,e4,by rw[show k0+1+i=k0+(i+1)by omega];exact e5⟩
     have ef:(λi=>f (k0+i)) ∘ Nat.succ=λi=>f (k0+1+i):=by
      funext i
      show f (k0+(i+1))=f (k0+1+i)
      rw[show k0+(i+1)=k0+1+i by omega]
     rw[ef]
     exact this
   have:=go gE (λi=>match gE.getD i aa1 with|.ref a=>(match h'.get? a with|some ob=>(match ob.data with|.seq vv _=>(vv[0]?).getD .none|_=>.none)|none=>.none)|_=>.none) 0 λi hi=>by
    obtain⟨a,ob,vv,x,t,n,e1,e2,e3,e4,e5,_⟩:=rowAt i hi
    refine⟨a,ob,vv,n,e1,e2,e3,e4,?_⟩
    rw[aaV,e1,e5]
    simp only[e2,e4,e5]
    rfl
   simpa using this
  refine PySem.W.kat_kind (T:=.type "str") Al (by rw[aad,ab5];omega) (λv hv=>?_) rfl ?_
  .obtain⟨i,hi,rfl⟩:=List.mem_map.mp hv
   obtain⟨a,ob,vv,x,t,n,e1,e2,e3,e4,e5,_⟩:=rowAt i (List.mem_range.mp hi)
   rw[e1]
   simp only[e2,e4,e5]
   exact PySem.W.Looks.of_pure rfl
  .-- the questions
   have hT:((aby "str") != (aby "tuple"))=true:=by decide
   rw[hT]
   let lt:Nat->Nat->Bool:=λi j=>decide (xq (nm.getD i ⟨#[]⟩) (nm.getD j ⟨#[]⟩))
   have Kt:∀i j,i<gE.length->j<gE.length->(nm.getD i ⟨#[]⟩).cps.toList=(nm.getD j ⟨#[]⟩).cps.toList->i=j:=λi j hi hj e=>by
    have Bl:i<nm.length:=by rw[<- R.len];omega
    have AD:j<nm.length:=by rw[<- R.len];omega
    have e':nm.getD i ⟨#[]⟩=nm.getD j ⟨#[]⟩:=by
     generalize nm.getD i ⟨#[]⟩=x at e ⊢
     generalize nm.getD j ⟨#[]⟩=y at e ⊢
     obtain⟨x⟩:=x
     obtain⟨y⟩:=y
     exact congrArg Str.mk (Array.toList_inj.mp e)
    rw[aag,aag,aaa Bl,aaa AD]at e'
    exact(abx R.nd).mp e'
   have o:Srt.Ord lt gE.length:=by
    refine⟨λi _=>?_,λi j k _ _ _ a b=>?_,λi j hi hj ne e=>?_⟩
    .show decide _=false
     simp[xq,aen]
    .have a':=of_decide_eq_true a
     have b':=of_decide_eq_true b
     exact decide_eq_true (List.lt_trans (show _<_ from a') b')
    .have e':=of_decide_eq_false e
     refine decide_eq_true ?_
     unfold xq at e' ⊢
     rcases aaO 0 0 with z|_
     .omega
     .have le:=List.not_lt.mp e'
      rcases List.le_iff_lt_or_eq.mp le with z|z
      .exact z
      .exact absurd (Kt j i hj hi z).symm ne
   refine Srt.pw_wp (lt:=lt) (n:=gE.length) (Q:=λp=>Srt.Pm p gE.length/\Srt.Ee lt p gE.length) (J:=λs'=>s'={s with heap:=h'}) ?_ ?_ (PySem.W.kas_sort gE.length) _ rfl (Srt.mW o (by omega) λp a b=>⟨a,b⟩)
   .rintro i j C s' hi hj ne rfl hC
    obtain⟨a,ob,vv,x,t,n,e1,e2,e3,e4,e5,e6,_⟩:=rowAt i hi
    obtain⟨a',Sy,GX,x',t',n',f1,f2,f3,f4,f5,f6,_⟩:=rowAt j hj
    show wpAny _ _ (keyLt' (ae6 true) (gE.getD i aa1) (gE.getD j aa1)) _ _ _
    rw[e1,f1]
    refine PySem.W.kat_lt e2 e4 f2 f4 ?_
    have g1:vv.toList=.str x t::vv.toList.tail:=by
     cases h:vv.toList with
     |nil=>
          have:vv[0]?=vv.toList[0]?:=by simp
          rw[this,h]at e5;cases e5
     |cons y r=>
            have:vv[0]?=vv.toList[0]?:=by simp
            rw[this,h]at e5
            have:y=.str x t:=by simpa using e5
            rw[this];rfl
    have g2:GX.toList=.str x' t'::GX.toList.tail:=by
     cases h:GX.toList with
     |nil=>
          have:GX[0]?=GX.toList[0]?:=by simp
          rw[this,h]at f5;cases f5
     |cons y r=>
            have:GX[0]?=GX.toList[0]?:=by simp
            rw[this,h]at f5
            have:y=.str x' t':=by simpa using f5
            rw[this];rfl
    rw[g1,g2,List.zip_cons_cons]
    have d1:nm.getD i ⟨#[]⟩=x:=by rw[aag,e6];rfl
    have d2:nm.getD j ⟨#[]⟩=x':=by rw[aag,f6];rfl
    have yq:x≠x':=λz=>ne (Kt i j hi hj (by rw[d1,d2,z]))
    refine PySem.W.kat_cons (aeW ?_)
    rw[decide_eq_false yq]
    refine PySem.W.kat_no ?_
    show wpAny _ _ (oneLt' true (.str x t) (.str x' t')) _ _ _
    refine oneLt_str ?_
    have:=hC _ rfl
    have el:lt i j=decide (x.cps.toList<x'.cps.toList):=by
     show decide (xq _ _)=_
     rw[d1,d2];rfl
    rw[el]at this
    exact this
   .rintro pa s' rfl ⟨P,As⟩
    refine PySem.W.KasFin.intro F' N' (.head λq hq=>?_) λIQ c F2 N2=>?_
    .exact aap (hD q hq)
    .have JO:∀b o,b≠X.env.locals->s.heap.get? b=some o->IQ.get? b=some o:=λb o hb e=>by
      cases q:X.base.get? b with
      |some ob=>
       have:=I.bk b ob q
       rw[e]at this;cases this
       exact F2.keep b _ q
      |none=>exact(N2 (b,o) (aar _ (dQ hb q e))).1
     have ND:=(N2 _ aat)
     have Ko:s.heap.get? D=none:=by
      cases q:s.heap.get? D with
      |none=>rfl
      |some od=>exact absurd (RB D od ND.2.1 ND.2.2 q) (aba _)
     have J7:∀i∈pa.toList,i<vs.length:=λi hi=>by
      obtain⟨j,hj,rfl⟩:=Array.mem_iff_getElem.mp (Array.mem_toList_iff.mp hi)
      have:=P.lt j (by rw[<- P.sz];exact hj)
      rw[Srt.aO]at this
      simp only[abI hj,adU]at this
      omega
     have q:=k D pa.toList (I.wU.dead Ko) (by rw[aay,P.sz];omega) ?_ J7 ?_
     .refine⟨_,rfl,aaf ⟨_,rfl,.ref D,_,I.Gw (xs:=pa.toList.map λi=>vs.getD i .nE) F.ns F2.ns JO Ko ⟨?_,pa.toList.map λi=>gE.getD i aa1,c,rv.pick _ J7,ND.1⟩,rfl,q⟩⟩
      rw[aad,aay,P.sz];exact hz
     .rw[acw,acA]
      intro i j hi hj Ae e
      have Bl:i<pa.size:=by simpa using hi
      have AD:j<pa.size:=by simpa using hj
      have:=P.nd i j (by rw[<- P.sz];exact Bl) (by rw[<- P.sz];exact AD) (by rw[Srt.aO,Srt.aO];simpa[Bl,AD]using e)
      omega
     .rw[aeL,acA]
      intro i j hi hj Ae
      have Bl:i<pa.size:=by simpa using hi
      have AD:j<pa.size:=by simpa using hj
      have:=As i j Ae (by rw[<- P.sz];exact AD)
      rw[Srt.aO,Srt.aO]at this
      have:=of_decide_eq_true this
      simpa[Bl,AD]using this
theorem oU:wX X (.builtin "sorted") (Hl X.K):=by
 intro pins s σ H xs us Q I r h
 obtain⟨p,vs,nm,rfl,hq,zS,R,k⟩:=h
 obtain⟨u,rfl,ru⟩:=r.one
 cases ru
 obtain⟨gE,rv,pl,hz⟩:=I.list hq
 refine ph (λR' g=>collect_list pl.isList (g _ s.toks λb o e=>?_) (by rw[<- rv.length];exact hz)) λh1 tk kk=>qP (I.kept kk) rv (by rw[<- rv.length];exact hz) zS R k
 have hb:b<s.heap.objs.size:=aaj e
 rw[aes _ _ _ _ (aap hb)]
 exact aac _ e
section
open PySem.SeqAt
open PySem.AutoSeq1 (wpAny_loadPart')
open PySem.MeetsSeq PySem.MeetsSeq2 PySem.MeetsSeq3
end
def BF(K:aah):R2:=λx y H Q=>∃a b xs,x=.ref a/\y=.ref b/\yf K H a xs/\yf K H b []/\Q (.bl (!xs.isEmpty)) H
theorem ib(hu:X.A.units<cLine):ya X (abb .NotEq) (BF X.K):=by
 intro pins s σ H x y v u Q I rx ry h
 obtain⟨a,b,xs,rfl,rfl,ha,hb,q⟩:=h
 cases rx
 cases ry
 obtain⟨gE,r1,p1,_⟩:=I.list ha
 obtain⟨yh,r2,p2,_⟩:=I.list hb
 cases r2
 have fin:∀k,k=(!xs.isEmpty)->EP X pins σ Q (.bool k) s:=λk e=>by subst e;exact⟨.bl _,H,I,rfl,q⟩
 cases r1 with
 |nil=>exact SeqAt.RcNeAt.lists (e:=λ_=>true) p1.isList p2.isList rfl hu (λj h1 h2=>absurd h1 (by simp)) X.prog X.w X.xe _ (fin _ rfl)
 |cons _ _=>exact SeqAt.RcNeAt.lists_lengths p1.isList p2.isList (by simp) hu X.prog X.w X.xe _ (fin _ rfl)
def Ap(x:Str)(n:Nat):Str:=⟨(aaG n x.cps.toList).flatten.toArray⟩
def Gn:R2:=λx y H Q=>∃(z:Str) (i:Int),x=.str z/\y=.int i/\0<=i/\i<=1000/\z.length<=1000/\Q (.str (Ap z i.toNat)) H
theorem kC(x:Array Nat):∀(n:Nat) (acc:Array Nat),((aaG n x).foldl (·++·) acc)=acc++(aaG n x.toList).flatten.toArray
 |0,acc=>by simp
 |n+1,acc=>by
  rw[abo,acq,kC x n,abo,abQ]
  apply Array.toList_inj.mp
  simp
theorem sN(x:Str)(i:Int)(h:0<=i):Txt.mul x i=Ap x i.toNat:=by
 unfold Txt.mul Ap
 by_cases h1:i<1
 .have:i=0:=by omega
  subst this
  rfl
 .rw[if_neg h1]
  by_cases h2:(i==1 || x.length==0)=true
  .rw[if_pos h2]
   rw[aed]at h2
   obtain⟨x⟩:=x
   rcases h2 with z|z
   .have:i=1:=by simpa using z
    subst this
    congr 1
    apply Array.toList_inj.mp
    simp
   .have hz:x.size=0:=by simpa[Str.length]using z
    have:x=#[]:=Array.eq_empty_of_size_eq_zero hz
    subst this
    congr 1
    apply Array.toList_inj.mp
    simp
  .rw[if_neg h2,kC]
   congr 1
   simp
theorem tL:ya X (acb .Mult) Gn:=by
 intro pins s σ H x y v u Q I rx ry h
 obtain⟨z,i,rfl,rfl,h0,h1,h2,q⟩:=h
 obtain⟨t,rfl⟩:=rx
 obtain⟨t',rfl⟩:=ry
 refine SB.mul ⟨?_,λ_ _ hh=>?_,λ_ _=>?_⟩ λt2 k=>?_
 .rw[decide_eq_false (by omega),decide_eq_false (by omega)];rfl
 .have:((2:Int) ^ 63 - 1) / i ≥ 2 ^ 50:=by
   apply (Int.le_ediv_iff_mul_le (by omega)).mpr
   have:(2:Int) ^ 50*i<=2 ^ 50*1000:=ae2 h1 (by decide)
   have e:(2:Int) ^ 50*1000<=2 ^ 63 - 1:=by decide
   omega
  have e:(2:Int) ^ 50 > 1000:=by decide
  omega
 .have:z.length*i.toNat<=1000*1000:=Nat.mul_le_mul h2 (by omega)
  refine decide_eq_false ?_
  rw[aaA]
  omega
 .rw[sN z i h0]
  exact⟨.str (Ap z i.toNat),H,I.tok k,⟨_,rfl⟩,q⟩
def Mg(wi:TI)(g:TG)(tc:TT)(tk te:TE)(js:List (Option Nat)):TE:=λσ H Q=>wi σ H λJ H1=>∀l,H1 l=none ->
 ∃W:Nat->Nat->List (Key×V)->Hp->Prop,(∃m,W 0 m [] (upd H1 l (.dK [])))/\∀i m ys H2,W i m ys H2 ->
  (J.stop i H2/\Q (.ref l) H2)\/(J.go i H2/\∀x H3,J.yld i H2 x H3->g x (xm js σ) H3 λσ4 H4=>tc σ4 H4 λb H5=>
   if b=true then tk σ4 H5 λkk H6=>te σ4 H6 λy H7=>∃key,kk=kV key/\H7 l=some (.dK ys)/\ys.length<sizeLine/\∃m',m'<m/\W (i+1) m' (putK ys key y) (upd H7 l (.dK (putK ys key y)))else ∃m',m'<m/\W (i+1) m' ys H5)
variable{tg kx vx iter:Expr}{ifs:List Expr}{scope:Scope}{pos:Pos}{wi:TI}{g:TG}{tc:TT}{tk te:TE}{N:List Str}{js:List (Option Nat)}
variable{pos':Pos}
theorem nT{use:Option (Value->Sem Unit)}{Q:VK}{QQ:Value->Shared->Prop}(hc:X.calm=true)(hx:X.xe=λ_ _=>False)(hi:PI X tg iter wi)
  (hg:∀C s₀ H₀ ex pn,PG (rW X scope N C s₀ H₀ ex pn) tg g) (ht:∀C s₀ H₀ ex pn,PF (rW X scope N C s₀ H₀ ex pn) ifs tc) (hk:∀C s₀ H₀ ex pn,PE (rW X scope N C s₀ H₀ ex pn) kx tk) (he:∀C s₀ H₀ ex pn,PE (rW X scope N C s₀ H₀ ex pn) vx te) (FH:zI js g)
  (Ad:Ao X.env scope=true) (xO:yO X.N scope N js=true) (xk:scope.kind=.function) (hs:∀x,aa4 iter X.env x=pure x)
  (I:Inv X pins σ H s) (h:Mg wi g tc tk te js σ H Q)
  (fin:∀(l C:Addr) (H':Hp) (s':Shared),Inv X pins σ H' s'->Q (.ref l) H'->H' C=none->C≠X.env.locals->X.s₀.heap.objs.size<=C->(∀x c,X.env.cells.lookup x=some c->c≠C)->(∀p∈X.pn++pins,p.1≠C)->(∃m,s'.heap.Ns C m)->ae3 (model X.prog X.w) X.A E use QQ (.ref l) C (.ok .next) s') :
  wpAny (model X.prog X.w) X.A (aev (.DictComp kx vx [⟨tg,iter,ifs,0⟩] scope pos) scope X.env pos' newDict false (eval iter X.env) use) QQ E s:=by
 have SC:=mX Ad
 have CP:=mz xO
 refine wpAny_comprehension_free (cl:=y3 X.env.cells scope.names []) rfl hs (fA (SC.cells I.ok)) xk SC.lc ?_
 refine aaJ (hi pins s σ H _ I h) (λv s1 h1=>aaJ h1 (λLf s2 h2=>?_) (λ_ _ z=>by rw[hx]at z;exact z.elim)) (λ_ _ z=>by rw[hx]at z;exact z.elim)
 obtain⟨it,fp,tn,J,H2,rfl,I2,T,G7,f2,hq⟩:=h2
 have IP:H2 s2.heap.objs.size=none:=I2.wU.fresh (aak _)
 obtain⟨W,⟨m0,w0⟩,turn⟩:=hq s2.heap.objs.size IP
 refine aab (wpAny_alloc (aaf (aei (λx hx=>SC.nc x hx) (by intro y hy;simp at hy) (λh₁ hns₁ hsb₁=>?_) xk)))
 dsimp only at hns₁ hsb₁ ⊢
 generalize FK:s2.heap.push ({cls:=.type "dict",data:=.dict #[]}:Obj)=hp3 at hns₁ hsb₁ ⊢
 have Kp:hp3.objs.size=s2.heap.objs.size+1:=by rw[<- FK,abC]
 have I3:Inv X pins σ (upd H2 s2.heap.objs.size (.dK [])) {s2 with heap:=hp3}:=by
  rw[<- FK]
  exact I2.laid (t':=s2.toks) (λb u e=>aac _ e) (aak _) (ml s2.heap I2.NV)
 have keep:∀b o,hp3.get? b=some o->h₁.get? b=some o:=λb o e=>hsb₁.extBut b o (aap (aaj e)) (aac _ e)
 have HZ:∀b∈fp,b<s2.heap.objs.size:=λb hb=>by
  obtain⟨o,e,_⟩:=T.obj _ _ G7 b hb
  exact aaj e
 have f3:∀b∈fp,zJ X pins (upd H2 s2.heap.objs.size (.dK [])) b:=λb hb=>⟨by rw[af (aap (HZ b hb))];exact(f2 b hb).1,(f2 b hb).2⟩
 have J4:=lU (tk:=s2.toks+([]:List (Str×Value)).length) (C:=hp3.objs.size) (fp:=fp) (h₁:=h₁) (scope:=scope) (N:=N) (js:=js) I3 SC CP xk f3 (λb hb=>by show b<hp3.objs.size;rw[Kp];exact aa7 (HZ b hb)) rfl keep (by
  have:(λx=>adn x ([]:List (Str×Value)).reverse)=λ_=>none:=by funext x;rfl
  rw[this]at hns₁;exact hns₁)
 have Jk:tn 0 h₁:=T.keep _ _ _ G7 λb hb o e=>keep b o (by rw[<- FK];exact aac _ e)
 have loop:∀s4:Shared,s4={s2 with heap:=h₁,toks:=s2.toks+([]:List (Str×Value)).length} ->
   adi (model X.prog X.w) X.A (.compLoop (.DictComp kx vx [⟨tg,iter,ifs,0⟩] scope pos) 0 (.ref it) (.ref s2.heap.objs.size) (compEnvC scope (y3 X.env.cells scope.names []) hp3.objs.size X.env)) (ae3 (model X.prog X.w) X.A E use QQ (.ref s2.heap.objs.size) hp3.objs.size) s4:=by
  rintro s4 rfl
  generalize hY:rW X scope N hp3.objs.size {s2 with heap:=hp3} (upd H2 s2.heap.objs.size (.dK [])) fp (X.pn++pins)=Y at J4
  have H0:∀{H':Hp},(∀b∈fp,H' b=none)->∀b∈fp,zJ Y [] H' b:=λhn b hb=>by
   subst hY
   refine⟨hn b hb,?_,?_,.inl hb,λx c e=>?_,λp hp=>?_⟩
   .show b≠hp3.objs.size
    rw[Kp];exact aap (aa7 (HZ b hb))
   .intro z
    rcases List.mem_cons.mp (I3.zM b z)with q|q
    .exact(f3 b hb).2.1 q
    .exact(f3 b hb).2.2.1 q
   .exact(f3 b hb).2.2.2.2.1 x c (dm (SC.cells I.ok) (λc e=>by simp at e) e)
   .exact(f3 b hb).2.2.2.2.2 p (by simpa[rW]using hp)
  have Nl:PG Y tg g:=by subst hY;exact hg _ _ _ _ _
  have MX:PF Y ifs tc:=by subst hY;exact ht _ _ _ _ _
  have QX:PE Y kx tk:=by subst hY;exact hk _ _ _ _ _
  have Np:PE Y vx te:=by subst hY;exact he _ _ _ _ _
  have eA:Y.A=X.A:=by subst hY;rfl
  have eP:Y.prog=X.prog:=by subst hY;rfl
  have eW:Y.w=X.w:=by subst hY;rfl
  have eK:Y.K=X.K:=by subst hY;rfl
  have eC:Y.calm=true:=by subst hY;exact hc
  have eX:Y.xe=λ_ _=>False:=by subst hY;rfl
  have eE:Y.env=compEnvC scope (y3 X.env.cells scope.names []) hp3.objs.size X.env:=by subst hY;rfl
  have T':Turn Y.prog Y.w Y.K tg J fp it tn:=by rw[eP,eW,eK];exact T
  have eL:(xm js σ).length=js.length:=by unfold xm;rw[aad]
  rw[<- eP,<- eW,<- eA,<- eE]
  refine codeAny_loop rfl (λn s'=>∃i ys H',Inv Y [] (xm js σ) H' s'/\tn i s'.heap/\(∀b∈fp,H' b=none)/\W i n ys H') (λn s' hI=>?_) m0 ⟨0,[],_,J4,Jk,λb hb=>(f3 b hb).1,w0⟩
  obtain⟨i,ys,H5,I5,Fp,HY,w5⟩:=hI
  show wpAny _ Y.A ((compTurn (.DictComp kx vx [⟨tg,iter,ifs,0⟩] scope pos) 0 (.ref it) (.ref s2.heap.objs.size) Y.env).onRaise (λx=>do noteFrame x Y.env;theTreesLotGoes x)) _ _ s'
  refine wpAny_noted ?_
  rw[compTurn_dict]
  refine aab (acJ (aab ?_))
  have CN:∀(x:Value) (s:Shared) (P:Prop),Y.xe x s->P:=λx s P z=>by rw[eX]at z;exact z.elim
  rcases turn i n ys H5 w5 with ⟨stop,qn⟩|⟨go,step⟩
  .refine aaJ (T'.done Y rfl rfl rfl eC i [] s' _ H5 Y.xe I5 (H0 HY) Fp stop) (λr s6 ⟨hr,I6⟩=>?_) λx s z=>CN x s _ z
   subst hr
   refine aaf ?_
   show ae3 _ _ _ _ _ _ _ _ _
   rw[eP,eW,eA]
   have back:Inv X pins σ H5 s6:=by subst hY;exact lV I3 I6 f3
   have Ea:∃m,s6.heap.Ns hp3.objs.size m:=by
    obtain⟨m,hm,_⟩:=I6.loc
    have:Y.env.locals=hp3.objs.size:=by rw[eE];rfl
    rw[this]at hm
    exact⟨m,hm⟩
   have NG:H5 hp3.objs.size=none:=by
    have:=I6.free
    have e:Y.env.locals=hp3.objs.size:=by rw[eE];rfl
    rw[e]at this;exact this
   refine fin s2.heap.objs.size hp3.objs.size H5 s6 back qn NG ?_ ?_ ?_ ?_ Ea
   .exact aca I3.lt
   .exact I3.sz
   .intro x c e z
    obtain⟨v,o,ho,_⟩:=I3.cell x c e
    exact absurd (aaj ho) (by rw[z];exact aba _)
   .intro p hp z
    have:=aaj (I3.pin p hp).1
    rw[z]at this;exact absurd this (aba _)
  .refine aaJ (T'.item Y rfl rfl rfl eC i [] s' _ H5 Y.xe I5 (H0 HY) Fp go) (λr s6 h6=>?_) λx s z=>CN x s _ z
   obtain⟨u,hr,h6⟩:=h6
   subst hr
   dsimp only
   refine aab ?_
   refine aaJ h6 (λ_ s7 h7=>?_) λx s z=>CN x s _ z
   obtain⟨x,H7,I7,r7,y7,G6,NK⟩:=h7
   have N4:=I7.pinned (H0 NK) (T.obj _ _ G6)
   have g7:=FH x (xm js σ) H7 _ (step x H7 y7)
   refine aab ?_
   refine aaJ (Nl _ s7 (xm js σ) H7 x u _ N4 r7 g7) (λ_ s8 h8=>?_) λx s z=>CN x s _ z
   obtain⟨σ8,H8,I8,q8,l8,k8⟩:=h8
   refine aab ?_
   refine aaJ (MX _ s8 σ8 H8 _ I8 q8) (λb s9 h9=>?_) λx s z=>CN x s _ z
   obtain⟨H9,I9,q9⟩:=h9
   have again:∀{s':Shared} {H':Hp},Inv Y ([]++zP fp s7.heap) σ8 H' s'->Inv Y [] (xm js σ) H' s'/\tn (i+1) s'.heap/\∀b∈fp,H' b=none:=λ{s' H'} I'=>by
    refine⟨(I'.y9).weak l8.symm λk v e=>?_,T.keep _ _ _ G6 λb hb o e=>(I'.pin (b,o) (aaC _ (aaC _ (bJ hb e)))).1,λb hb=>?_⟩
    .cases ej:js[k]? with
     |none=>
      unfold xm at e
      rw[aai,ej]at e;cases e
     |some o=>
      cases o with
      |none=>
       unfold xm at e
       rw[aai,ej]at e;cases e
      |some j=>rw[k8 k j ej];exact e
    .obtain⟨o,e,d⟩:=T.obj _ _ G6 b hb
     exact(I'.pin (b,o) (aaC _ (aaC _ (bJ hb e)))).2.1
   cases b with
   |false=>
    rw[if_neg aaz]at q9
    obtain⟨m',hm,w9⟩:=q9
    obtain⟨a1,a2,a3⟩:=again I9
    exact aaf ⟨rfl,m',hm,i+1,ys,H9,a1,a2,a3,w9⟩
   |true=>
    rw[if_pos rfl]at q9
    refine aab (aab ?_)
    refine aaJ (QX _ s9 σ8 H9 _ I9 q9) (λkv Ml NJ=>?_) λx s z=>CN x s _ z
    obtain⟨kk,LK,N5,Mr,P7⟩:=NJ
    refine aab (aaN ?_)
    refine aaJ (Np _ Ml σ8 LK _ N5 P7) (λvv KW NI=>?_) λx s z=>CN x s _ z
    obtain⟨yv,Pl,LJ,P6,key,ek,LC,Sr,m',hm,Py⟩:=NI
    subst ek
    refine aab (acJ (aaN ?_))
    obtain⟨zz,hd,vs,rel,dd⟩:=gn LJ.wU LC
    have hz:vs.length<=sizeLine:=by rw[<- rel.length];exact zz
    have hl:(putK ys key yv).length<=sizeLine:=by have:=cq ys key yv;omega
    refine wpAny_dictSet_pairs (hsz:=hz) (dz Mr) dd λh' Fi hs=>?_
    have he:∃q,h'.get? s2.heap.objs.size=some q:=let ⟨q,_,_,hq,_⟩:=Fi;⟨q,hq⟩
    have So:Inv Y _ σ8 (upd Pl s2.heap.objs.size (.dK (putK ys key yv))) {KW with heap:=h',toks:=KW.toks+1}:=gq (t':=KW.toks+1) LJ (by rw[LC];exact adF) hs he (mj hl hd (rel.put key P6) Fi)
    obtain⟨a1,a2,a3⟩:=again So
    exact aaf ⟨rfl,m',hm,i+1,putK ys key yv,_,a1,a2,a3,Py⟩
 exact codeAny_compStart_dict (loop _ rfl) (T.self X.A 0 _ _ _ Jk (loop _ rfl))
theorem wB(hi:PI X tg iter wi)(hg:∀C s₀ H₀ ex pn,PG (rW X scope N C s₀ H₀ ex pn) tg g)(ht:∀C s₀ H₀ ex pn,PF (rW X scope N C s₀ H₀ ex pn) ifs tc)(hk:∀C s₀ H₀ ex pn,PE (rW X scope N C s₀ H₀ ex pn) kx tk)(he:∀C s₀ H₀ ex pn,PE (rW X scope N C s₀ H₀ ex pn) vx te)(FH:zI js g)
  (hc:X.calm=true:=by rfl) (hx:X.xe=(λ_ _=>False):=by rfl) (Ad:Ao X.env scope=true:=by rfl) (xO:yO X.N scope N js=true:=by rfl) (xk:scope.kind=.function:=by rfl) (hs:∀x,aa4 iter X.env x=pure x:=by intro _;rfl) :
  PE X (.DictComp kx vx [⟨tg,iter,ifs,0⟩] scope pos) (Mg wi g tc tk te js):=by
 intro pins s σ H Q I h
 show wpAny _ X.A (aev (.DictComp kx vx [⟨tg,iter,ifs,0⟩] scope pos) scope X.env _ newDict false (eval iter X.env)) _ _ s
 refine nT (use:=none) hc hx hi hg ht hk he FH Ad xO xk hs I h λl C H' s' I' q f0 f1 f2 f3 f4 ⟨m,hm⟩=>?_
 refine⟨m,hm,λh' sb=>⟨.ref l,H',?_,rfl,q⟩⟩
 exact I'.turned (t':=s'.toks) (it:=C) (λb o hb e=>sb.extBut b o hb e) f0 f1 (.inr f2) f3 f4
variable{i:Nat}{y:Str}
theorem sy{py x5:Pos}(hN:X.N.Nodup)(hy:X.N[i]?=some y)(hl:X.env.scope.names.lookup y=some .local)(hi:PI X tg iter wi)(hg:∀C s₀ H₀ ex pn,PG (rW X scope N C s₀ H₀ ex pn) tg g)(ht:∀C s₀ H₀ ex pn,PF (rW X scope N C s₀ H₀ ex pn) ifs tc)(hk:∀C s₀ H₀ ex pn,PE (rW X scope N C s₀ H₀ ex pn) kx tk)(he:∀C s₀ H₀ ex pn,PE (rW X scope N C s₀ H₀ ex pn) vx te)(FH:zI js g)
  (HF:ab1 (.DictComp kx vx [⟨tg,iter,ifs,0⟩] scope pos) (some (.Name y py)) x5.line X.env=pure true:=by rfl)
  (hc:X.calm=true:=by rfl) (hx:X.xe=(λ_ _=>False):=by rfl) (Ad:Ao X.env scope=true:=by rfl) (xO:yO X.N scope N js=true:=by rfl) (xk:scope.kind=.function:=by rfl) (hs:∀x,aa4 iter X.env x=pure x:=by intro _;rfl) :
  PS X (.Assign [.Name y py] (.DictComp kx vx [⟨tg,iter,ifs,0⟩] scope pos) x5) (DJ (Mg wi g tc tk te js) (yL i)):=by
 intro pins s σ H D I h
 rw[exec_Assign_Name_used _ _ _ _ HF]
 refine aab (acJ (aab ?_))
 show wpAny _ X.A (do let _ <- aev (.DictComp kx vx [⟨tg,iter,ifs,0⟩] scope pos) scope X.env _ newDict false (eval iter X.env) (some (assign (.Name y py) X.env))) _ _ s
 refine aab (aaJ (nT (use:=some (assign (.Name y py) X.env)) (E:=X.xe) (QQ:=λ_ s'=>SP X pins D .next s') hc hx hi hg ht hk he FH Ad xO xk hs I h λl C H' s' I' q f0 f1 f2 f3 f4 ⟨m,hm⟩=>?_) (λ_ s' hq=>aaf (aaf hq)) λ_ _ e=>e)
 show wpAny _ X.A (assign (.Name y py) X.env (.ref l)) _ _ _
 refine wpAny_assign_Name (j5 I' hN hy (.inl hl) (v:=.ref l) rfl (λJn Sq ⟨a,sb,ha⟩=>?_) (.inr hl))
 have Ro:C≠a:=by
  rcases ha with rfl|ha
  .exact f1
  .exact λz=>f3 _ _ ha z.symm
 refine⟨m,hm.sameBut sb Ro,λh' P2=>⟨_,H',?_,q⟩⟩
 exact Sq.turned (t':=Jn.toks) (it:=C) (λb o hb e=>P2.extBut b o hb e) f0 f1 (.inr f2) f3 f4
theorem sn(hc:X.calm=true):wX X (.builtin "sum") (λxs H Q=>∃(p:Addr) (ns:List Int),xs=[.ref p]/\yf X.K H p (ns.map V.int)/\Q (.int ns.sum) H):=by
 intro pins s σ H xs us Q I r h
 obtain⟨p,ns,rfl,hq,q⟩:=h
 obtain⟨u,rfl,ru⟩:=r.one
 cases ru
 obtain⟨gE,rv,pl,hz⟩:=I.list hq
 have hi:=i0 rv
 obtain⟨zs,hx⟩:=hi.allInts.items
 have Ce:s.heap.IsList p (intItems zs):=hx ▸ pl.isList
 refine sum_intListG (I.ok.hd hc) Ce λh' tk t' hk=>⟨.int ns.sum,H,I.kept hk,⟨t',?_⟩,q⟩
 have a1:ns=zs.toList.map (·.1):=by
  have z:=(show numsOf gE.toArray.toList=ns from hi.numsOf)
  rw[hx,nums_intItems]at z
  exact z.symm
 have a2:preSum (numAt zs) zs.size=ns.sum:=by rw[preSum_eq,a1,acQ (by simp)]
 rw[a2]
structure Si(h:Heap)(z u o i1 i2 t1 t2:Addr)(n:Nat):Prop where
 zz:IsZip h z u o .none
 uu:IsPair h u (.ref i1) (.ref i2)
 oo:∃a b,IsPair h o a b
 a1:h.IsTupleIter i1 t1 n
 a2:h.IsTupleIter i2 t2 n
variable{t':Nat}{fp:List Addr}
theorem Inv.Dc(I:Inv X pins σ H s)(k:∀b o,b∉fp->s.heap.get? b=some o->h'.get? b=some o)(hf:∀b∈fp,zJ X pins H b):Inv X pins σ H {s with heap:=h',toks:=t'}:=by
 have JG:∀b u,H b=some u->b∉fp:=λb u e z=>by rw[(hf b z).1]at e;cases e
 refine I.step (g':=s.gens) (d':=s.drawn) (ch:=fp) (λb hb=>?_) (λb o _ _ hc e _=>k b o hc e) (λb o _ _ hc e _=>⟨o.slots,k b o hc e⟩) (λ_ _ _ _ n=>n)
  (λb o hc e=>⟨o,k b o hc e⟩) (λ_ _ e=>e) (λ_ _ _ e=>e) (λb ps e=>⟨#[],by rw[e];simp⟩) (λm hm=>?_) (λb u e=>?_) I.bare
 .obtain⟨f0,f1,f2,f3,f4,f5⟩:=hf b hb
  exact⟨f3,f1,f4,f5⟩
 .obtain⟨o,es,ep,ho,r⟩:=hm
  exact⟨o,es,ep,k _ o (λz=>(hf _ z).2.1 rfl) ho,r⟩
 .refine(I.wU b u e).AH (λc v hc q=>k c v ?_ q) (λ_ q=>q) λ_ _ q=>q
  rcases hc with z|z
  .rw[z];exact JG b u e
  .exact JG c _ z
theorem gC{t sl:Addr}{gE:Array Value}{vl vu:Value}{lo hi:Option Int}(g:IsTup s.heap t gE)(hs:s.heap.IsSliceOf sl vl vu .none)(pl:IsPart vl lo)(pu:IsPart vu hi)
  (hw:HT.xM gE.size 0 lo=0/\HT.xM gE.size gE.size hi=gE.size) (k:Q (.ref t) s):wpAny (model prog w) A (ad2 (.ref t) (.ref sl)) Q E s:=by
 obtain⟨q,q1,q2,q3⟩:=id hs
 have ty:s.TypeIs (.ref sl) "slice" := ⟨q,q1,q2⟩
 unfold ad2
 try with_reducible refine aaN ?_
 first|refine aab (aaf ?_)|skip
 refine aab (wpAny_sequenceKey g.typeIs (by decide) (aab (adL (name:=abn "__getitem__") g.typeIs ab2 (abN ab2 g.typeIs entry_tuple_getitem ?_ (args_tuple_getitem _ _)))))
 refine aab (m:=afq (.ref t)) (tupleItemsOf_ g (aab (ac2 ty ?_)))
 rw[if_pos (by decide)]
 refine aab (HT.yJ hs pl pu ?_)
 show wpAny _ _ (if (((HT.xM gE.size 0 lo:Nat):Int)==0 && (1:Int)==1 && (HT.xM gE.size gE.size hi - HT.xM gE.size 0 lo)==gE.size)=true then _ else _) _ _ s
 rw[if_pos (by rw[hw.1,hw.2];simp)]
 refine aab ?_
 unfold Builtin.Tuple.tupleIsExact
 refine aab (ac2 g.typeIs (aaf ?_))
 rw[if_pos (by decide)]
 exact aab (adc (aaf ⟨_,rfl,aaf k⟩))
def Mn(K:aah):V->Option Int->Option Int->Hp->VK->Prop:=λx lo hi H Q=>∃a xs,x=.ref a/\yI K H a xs /\
 (HT.xM xs.length 0 lo=0/\HT.xM xs.length xs.length hi=xs.length->Q (.ref a) H)/\∀p,H p=none->Q (.ref p) (upd H p (.tup (zW xs lo hi)))
theorem sV:FY X (Mn X.K):=by
 intro pins s σ H x v vl vu lo hi sl Q I rx hs pl pu h
 obtain⟨a,xs,rfl,hx,hq,q⟩:=h
 by_cases hw:HT.xM xs.length 0 lo=0/\HT.xM xs.length xs.length hi=xs.length
 .cases rx
  obtain⟨gE,r,ht,hz⟩:=I.tuple hx
  have hn:gE.toArray.size=xs.length:=by rw[aae];exact r.length.symm
  refine⟨"tuple",_,PyProof.Rows.slot_tuple_getitem.lookup,ht.typeIs,gC ht hs pl pu (by rw[hn];exact hw) ⟨.ref a,H,I,rfl,hq hw⟩⟩
 .exact uP pins s σ H (.ref a) v vl vu lo hi sl Q I rx hs pl pu ⟨a,xs,rfl,hx,hw,q⟩
theorem n9(hc:wpAny (model prog w) A.in1 (collect x) (λvs s1=>∃(ss:List Str) (h1:Heap) (tk:Nat),s1={s with heap:=h1,toks:=tk}/\acd vs ss/\vs.length<64 /\
   (∀(h2:Heap) (out:List Value) (zr:List Str) (n:Nat),(∀b o,h1.get? b=some o->h2.get? b=some o)->h2.get? h1.objs.size=some (seqObj "list" out.toArray n)->acd out zr->zr.Perm ss->sortedS zr=true->Q (.ref h1.objs.size) {s with heap:=h2,toks:=tk})) E s) :
  wpAny (model prog w) A (call (.builtin "sorted") [x]) Q E s:=by
 refine adC afc aeQ aeR (args_sorted1 _) ?_
 unfold ack.«sorted»
 refine aab (m:=checkCount "sorted" 1 1 _) (aaf (aab (aaJ hc (λvs s1 hv=>?_) λ_ _ e=>e)))
 obtain⟨ss,h1,tk,rfl,hS,zS,k⟩:=hv
 refine aab (acs ?_ (by rw[aaA];omega))
 have Io:(h1.push (seqObj "list" vs.toArray 0)).get? h1.objs.size=some (seqObj "list" vs.toArray 0):=aal _ rfl
 refine aab (aaN (abN adz ⟨_,Io,rfl⟩ adh (list_sort_treeK strKind_oneLt Io hS.keysOf (λv₁ v₂ rest e=>keyKind_strs (by rw[<- e];exact hS)) zS λst p q=>⟨_,rfl,?_⟩) (aek _)))
 obtain⟨zr,b1,b2,b3⟩:=sorted_out_str hS p q
 obtain⟨n,at2⟩:=sortedHeap_at (out:=(arrOf st).map (·.2)) Io
 refine aaf ⟨_,rfl,k _ ((arrOf st).map (·.2)).toList zr n (λb o e=>?_) (by rw[ada];exact at2) b1 b2 b3⟩
 have lt:=aaj e
 rw[sortedHeap_old (aap lt) (by rw[size_push'];exact aa7 lt)]
 exact aac _ e
theorem lS:∀{kvs:List (Key×Value)} {ss:List Str} {vs:List Value},kvs.map (·.1)=ss.map aaq->vs.length=kvs.length->(∀(j:Nat) (v:Value),vs[j]?=some v->∃k x,kvs[j]?=some (k,x)/\(aA P w).is k v=true)->acd vs ss
 |[],ss,vs,e,hl,_=>by
  have:ss=[]:=by cases ss with|nil=>rfl|cons _ _=>cases e
  subst this
  have:vs=[]:=List.length_eq_zero_iff.mp hl
  subst this
  exact .nil
 |(k,x)::r,ss,vs,e,hl,h=>by
  cases ss with
  |nil=>cases e
  |cons y ys=>
   cases vs with
   |nil=>cases hl
   |cons v us=>
    rw[aas,aas]at e
    injection e with e1 e2
    obtain⟨k',x',e3,e4⟩:=h 0 v rfl
    have RM:(k,x)=(k',x'):=aao e3
    cases RM
    have Ks:k=aaq y:=e1
    subst Ks
    obtain⟨t,rfl⟩:=aer (x:=y) (v:=v) e4
    exact .cons y t (lS e2 (by simpa using hl) λj u hj=>h (j+1) u hj)
def Hn:List V->Hp->VK->Prop:=λxs H Q=>∃(d:Addr) (kvs:List (Key×V)) (ss:List Str),xs=[.ref d]/\H d=some (.dK kvs)/\kvs.map (·.1)=ss.map aaq/\ss.length<64 /\
 ∀(l:Addr) (zr:List Str),H l=none->zr.Perm ss->zr.Pairwise (λa b=>¬ xq b a)->Q (.ref l) (upd H l (.lst (zr.map V.str)))
theorem oW(hc:X.calm=true):wX X (.builtin "sorted") Hn:=by
 intro pins s σ H xs us Q I r h
 obtain⟨d,kvs,ss,rfl,hd,hk,zS,k⟩:=h
 obtain⟨u,rfl,ru⟩:=r.one
 cases ru
 obtain⟨hz,lo,vs,QW,hD⟩:=I.wU d _ hd
 obtain⟨ep,Rk⟩:=hD.dictAt
 have GG:vs.map (·.1)=ss.map aaq:=by rw[<- hk];exact QW.keys.symm
 have hlen:vs.length=ss.length:=by have:=congrArg acX GG;simpa using this
 refine n9 (PySem.W.kdu_collect (A:=X.A.in1) (PySem.W.kdl_dict (knd:=aA X.prog X.w) (kvs:=vs) (ep:=ep) lo) (I.ok.hd hc) Rk (by rw[hlen,aaA];omega) λh1 tk acc kk hit=>?_)
 have hl:acc.toList.length=vs.length:=by rw[aay];exact hit.1
 have hS:acd acc.toList ss:=lS GG hl λj v e=>hit.2 j v (by rw[<- abp];exact e)
 refine⟨ss,h1,tk,rfl,hS,by rw[hl,hlen];exact zS,λh2 out zr n k2 e2 o1 o2 o3=>?_⟩
 have I1:Inv X pins σ H {s with heap:=h1,toks:=tk}:=I.kept kk
 refine⟨.ref h1.objs.size,_,I1.laid (t':=tk) (a:=h1.objs.size) (o:=.lst (zr.map V.str)) (λb o q=>k2 b o q) (aak _) ?_,rfl,k _ zr (I1.wU.fresh (aak _)) o2 (dL o3)⟩
 exact⟨by rw[aad,o2.length_eq,aaA];omega,out,n,dt o1,e2⟩
def AJ(P:aaB)(w:World)(a:Addr)(S:Str->Bool)(n:Nat):HO:=.ext λh=>h.SetOf (acK P w) a S n
variable{n:Nat}
theorem qT{S:Str->Bool}(x:h.SetOf (acK P w) a S n)(k:∀o,h.get? a=some o->h'.get? a=some o):h'.SetOf (acK P w) a S n:=by
 obtain⟨o,es,ep,t,e,r⟩:=x
 exact⟨o,es,ep,t,k o e,r⟩
theorem setOk{S:Str->Bool}(x:h.SetOf (acK P w) a S n):xa P w H h a (AJ P w a S n) :=
 ⟨x,(by obtain⟨o,_,_,_,e,_⟩:=x;exact⟨o,e⟩),λh1 h2 y k=>qT y k⟩
theorem qE:wX X (.type "set") (λxs H Q=>xs=[]/\∀p,H p=none->Q (.ref p) (upd H p (AJ X.prog X.w p (λ_=>false) 0))):=by
 intro pins s σ H xs us Q I r h
 obtain⟨rfl,q⟩:=h
 cases r
 refine call_set_0 λled=>⟨.ref s.heap.objs.size,_,I.laid (t':=s.toks) (o:=AJ X.prog X.w s.heap.objs.size (λ_=>false) 0) (λb o e=>aac _ e) (aak _) (setOk ?_),rfl,q _ (I.wU.fresh (aak _))⟩
 exact⟨_,#[],0,_,aal _ rfl,⟨rfl,rfl,rfl⟩,rfl,λe he=>by simp at he,λk=>by simp,by decide,by rfl,rfl⟩
theorem pQ:ya X (abb .NotIn) (λx y H Q=>∃z a S n,x=.str z/\y=.ref a/\H a=some (AJ X.prog X.w a S n)/\Q (.bl (!S z)) H):=by
 intro pins s σ H x y v u Q I rx ry h
 obtain⟨z,a,S,n,rfl,rfl,ha,q⟩:=h
 obtain⟨t,rfl⟩:=rx
 cases ry
 obtain⟨x,_,_⟩:=I.wU a _ ha
 exact wpAny_notInSet_of (knd:=acK X.prog X.w) (aee _ _ _ _) rfl x ⟨.bl (!S z),H,I.tok _,rfl,q⟩
def sQ(P:aaB)(w:World)(to:TE)(t:TA):TE:=λσ H Q=>to σ H λx H1=>∃a S n,x=.ref a/\H1 a=some (AJ P w a S n)/\t σ H1 λys H2=>∃k S2 n2,ys=[.str k]/\H2 a=some (AJ P w a S2 n2)/\n2+1<scanBound /\
 Q .nE (upd H2 a (AJ P w a (λk'=>S2 k' || decide (k'=k)) (if S2 k then n2 else n2+1)))
variable{e:Expr}{to:TE}
theorem pL{o:Expr}{t:TA}{apos xg:Pos}(ho:PE X o to)(ha:PA X [e] t)
  (x3:abW o "add" X.env (eval o X.env)=eval o X.env:=by rfl)
  (AX:((backTo xg (aam [e] X.env)).all (λx=>!x.1) && (aeh xg (acV [] X.env)).all (λx=>x.1.isSome)
   && decide ([e].length+([]:List ac9).length+(if ([]:List ac9).isEmpty then 0 else 1)<30))=true:=by rfl)
  (xY:(apos.endLine==xg.line)=true:=by rfl) (hs:aam [e] X.env=(false,eval e X.env)::aam [] X.env:=by rfl) (yp:(backTo xg (aam [] X.env)).any (·.1)=false:=by rfl) :
  PE X (.Call (.Attribute o "add" apos) [e] [] xg) (sQ X.prog X.w to t):=by
 intro pins s σ H Q I h
 refine wpAny_Call_method_late x3 AX xY rfl (xH (ho pins s σ H _ I h) λv s1 ⟨x,H1,I1,r1,a,S,n,e1,hS,q1⟩=>?_)
 subst e1
 cases r1
 obtain⟨xs,_,_⟩:=I1.wU a _ hS
 refine⟨"set", "set.add",PySem.F.plainAttrs_set,PySem.F.slot_set_add,PySem.F.type_set_add,xs.typeIs,λc e=>xs.noDict c e,?_⟩
 have hA:=ha xg pins s1 σ H1 _ I1 q1
 rw[hs]at hA ⊢
 refine acT (by show (false || (backTo xg (aam [] X.env)).any (·.1))=false;rw[yp]<;>rfl) (Calls.evalArgs_plain (xH hA λus s2 ⟨vs,H2,I2,r2,k,S2,n2,e2,Ly,hn,q2⟩=>?_))
 subst e2
 obtain⟨u,rfl,t,rfl⟩:=r2.one
 obtain⟨ys,_,_⟩:=I2.wU a _ Ly
 refine call_set_add (knd:=acK X.prog X.w) (aee _ _ _ _) rfl ys hn λh' sb OE=>⟨.nE,_,I2.write (t':=s2.toks+1) (e:=a) (by rw[Ly];trivial) (.inl rfl) (λb o hb e=>sb.extBut _ _ hb e) ?_ (setOk OE),rfl,q2⟩
 obtain⟨o,_,_,_,e,_⟩:=OE
 exact⟨o,e⟩
def strAt(us:Array Value)(i:Nat):Str:=match us[i]? with|some (.str x _)=>x|_=>⟨#[]⟩
theorem uF{us:Array Value}(hn:∀v∈us,∃x t,v=.str x t):CmpOf prog w A .Gt (λi v=>us[i]?=some v) (λi j=>decide (xq (strAt us j) (strAt us i))):=λi j vi vj s Q E hi hj q=>by
 obtain⟨x,t,rfl⟩:=hn vi (Array.mem_of_getElem? hi)
 obtain⟨y,t',rfl⟩:=hn vj (Array.mem_of_getElem? hj)
 have e1:strAt us i=x:=by unfold strAt;rw[hi]
 have e2:strAt us j=y:=by unfold strAt;rw[hj]
 dsimp only at q
 rw[e1,e2]at q
 exact PySem.richCompare_gives (op:=.Gt) (typeIs_str s x t) (typeIs_str s y t') F.slot_str_gt F.entry_str_gt (F.args_str_gt_2 _ _) (gives_str_gt x y t t') (λe=>nomatch e) q
variable{t:Tok}
theorem Ma{x:Str}{t':Tok}:∀v∈(#[.str x t,.str y t']:Array Value),∃z u,v=.str z u:=λv hv=>by
 simp only[List.mem_toArray,abZ,ac7,or_false]at hv
 rcases hv with rfl|rfl
 .exact⟨x,t,rfl⟩
 .exact⟨y,t',rfl⟩
theorem rN{x:Str}{t':Tok}(hh:A.handled=none)(k:∀h' tk,(∀c o,s.heap.get? c=some o->h'.get? c=some o)->Q (if xq x y then .str y t' else .str x t) {s with heap:=h',toks:=tk}):
  wpAny (model prog w) A (call (.builtin "max") [.str x t,.str y t']) Q E s:=by
 have g:(s.heap.push {cls:=.type "tuple",data:=.seq #[.str x t,.str y t']}).IsTuple s.heap.objs.size #[.str x t,.str y t']:=⟨_,aal _ rfl,rfl,0,rfl⟩
 have sz:(s.heap.push {cls:=.type "tuple",data:=.seq #[.str x t,.str y t']}).objs.size=s.heap.objs.size+1:=abC ..
 refine call_max_two (wpAny_pyIter_tuple g ⟨_,[_,s.heap.objs.size],[_],_,_,_,_,rfl,Walks.tuple (A:=A.in1) hh _ s.heap.objs.size (by rw[sz];exact aap (abw _)) #[.str x t,.str y t'],
  ⟨⟨_,aal _ rfl,rfl,rfl⟩,g.push _⟩,λc hc=>?_,by simp,uF Ma,λv h' tk hP hk=>?_⟩)
 .show c<((s.heap.push _).push _).objs.size
  rw[abC,sz]
  simp only[abZ,ac7,or_false]at hc
  rcases hc with rfl|rfl
  .rw[sz];exact abw _
  .exact aa7 (abw _)
 .have old:∀c o,s.heap.get? c=some o->h'.get? c=some o:=λc o e=>by
   refine hk c o (λz=>?_) (aac _ (aac _ e))
   have lt:=aaj e
   rw[List.mem_singleton.mp z,sz]at lt
   exact aba _ (Nat.lt_of_succ_lt lt)
  have q:=k h' tk old
  have ev:v=if xq x y then ac4 y t' else ac4 x t:=by
   by_cases c:xq x y
   .simp[argBest,strAt,c]at hP
    rw[if_pos c];exact hP.symm
   .simp[argBest,strAt,c]at hP
    rw[if_neg c];exact hP.symm
  rw[ev];exact q
def DM(x y:Str):Str:=if xq x y then y else x
theorem oZ(hc:X.calm=true):wX X (.builtin "max") (λxs H Q=>∃x y,xs=[.str x,.str y]/\Q (.str (DM x y)) H):=by
 intro pins s σ H xs us Q I r h
 obtain⟨x,y,rfl,q⟩:=h
 obtain⟨u,v,rfl,⟨t,rfl⟩,⟨t',rfl⟩⟩:=vals2 r
 refine rN (I.ok.hd hc) λh' tk k=>⟨.str (DM x y),H,I.kept k,?_,q⟩
 unfold DM
 split<;>exact⟨_,rfl⟩
def Gq(K:aah):R2:=λx y H Q=>∃a b xs ys,x=.ref a/\y=.ref b/\yI K H a xs/\yI K H b ys/\xs.length+ys.length<=sizeLine /\
 (xs=[]->Q (.ref b) H)/\(ys=[]->Q (.ref a) H)/\∀p,H p=none->Q (.ref p) (upd H p (.tup (xs++ys)))
theorem tM:ya X (acb .Add) (Gq X.K):=by
 intro pins s σ H x y v u Q I rx ry h
 obtain⟨a,b,xs,ys,rfl,rfl,ha,hb,hz,q0,q1,q2⟩:=h
 by_cases hx:xs=[]
 .cases rx
  cases ry
  obtain⟨gE,r1,p1,_⟩:=I.tuple ha
  obtain⟨yh,r2,p2,_⟩:=I.tuple hb
  subst hx
  cases r1
  obtain⟨⟨c1,d1,e1,l1⟩,g1,g2,n,g3⟩:=id p1
  obtain⟨⟨c2,d2,e2,l2⟩,k1,k2,n2,k3⟩:=id p2
  simp only at g2 g3 k2 k3
  subst g2 g3 k2 k3
  exact concat_meets ⟨_,g1,rfl⟩ ⟨_,k1,rfl⟩ aeX seq_tuple_add adX adP (adH _ _)
   (tuple_addW0 a b _ _ n n2 d1 d2 l1 l2 (by simp)) ⟨g1,k1,⟨.ref b,H,I,rfl,q0 rfl⟩⟩
 .exact tN pins s σ H (.ref a) (.ref b) v u Q I rx ry ⟨a,b,xs,ys,rfl,rfl,ha,hb,hx,hz,q1,λ_=>q2⟩
variable{st:Expr}{PH:TE}{p2:Pos}
end L2
namespace PySem
open Sem (wp)
theorem lR:typeLookup (.type "list") "keys" = pure none:=by rw[ae5,ad3];kernel_rfl
theorem jM{prog:aaB}{w:World}{A:Around}{E:Value->Shared->Prop}{s:Shared}{a:Addr}{xs:Array Value}{k:Nat}{sl:Array (Option Value)}{Q:Option Value->Shared->Prop}
  (hx:s.heap.get? a=some {cls:=.type "list",dict:=none,data:=.seq xs k,slots:=sl}) (hA:A.handled=none)
  (h:∀h' tk e,Heap.NewExcOf s.heap h' e "AttributeError" -> Q none {s with heap:=h',toks:=tk}) :
  wpAny (model prog w) A (getAttr? (.ref a) "keys") Q E s:=by
 obtain⟨hp,g,d,tk,os⟩:=s
 have hT:∀D7,(⟨hp,g,d,D7,os⟩:Shared).TypeIs (.ref a) "list" := λ_=>⟨_,hx,rfl⟩
 have f1:=sub_AttributeError
 have f3:=F.slot_list_getattribute.lookup
 have f4:=F.slot_list_getattribute.bind (.ref a)
 have f5:=am_list_getattr_none
 unfold getAttr? getAttrBy? getAttrBy
 repeat (any_goals (first|assumption|exact hT _|((with_reducible show wpAny _ _ (call (Value.builtin "list.__getattribute__") _ _) _ _ _);refine aeg F.slot_list_getattribute (hT _) am_entry_list_getattribute (F.args_list_getattribute_2 _ _) (meets_getattribute_miss_list a xs k sl "keys" _ lR (by decide +kernel) (by size_fits)) ⟨hx,hA,λh' D7 e Lm=>?_⟩)|wp_step))
 obtain⟨t',u',he⟩:=Lm.there
 show wpAny _ _ (getattributeRaised _ _ _ _ _ _ _) _ _ _
 unfold getattributeRaised
 have Rr:∀D7,(⟨h',g,d,D7,os⟩:Shared).TypeIs (.ref e) "AttributeError" := λ_=>⟨_,he,rfl⟩
 repeat (any_goals (first|assumption|exact Rr _|wp_step))
 exact h _ _ _ Lm.of
end PySem
namespace PySem
open PySem.Spec PyProof.Rows
theorem F.yV:entryFor table "dict.update.loop" = some ack.«dict.update.loop»:=entryFor_of_tree (by kernel_rfl)
theorem F.xQ:plainId "dict.update.loop" = true:=by decide +kernel
section
variable{prog:aaB}{w:World}{K:Type}[DecidableEq K]{knd:KeyKind prog w K}{A:Around}{R:Result->Shared->Prop}
theorem dC{h h':Heap}{d:Addr}{kvs:List (K×Value)}(x:h.DictOf knd d kvs)(k:∀o,h.get? d=some o->h'.get? d=some o):h'.DictOf knd d kvs:=by
 obtain⟨o,es,ep,ho,r⟩:=x
 exact⟨o,es,ep,k _ ho,r⟩
theorem jT{d it l:Addr}{items:Array Value}(ks:Nat->K)(vs:Nat->Value)(hsz:items.size<=1000)(Nq:d≠it)(Rf:d≠l)(HL:l≠it)(hA:A.in1.handled=none):
  ∀(k i:Nat) (s:Shared) (kvs:List (K×Value)),items.size - i=k->i<=items.size->kvs.length<=i->s.heap.DictOf knd d kvs->s.heap.IsListIter it l i->s.heap.IsList l items ->
  (∀j,j<items.size->∃p key,items[j]?=some (.ref p)/\p≠d/\p≠it/\s.heap.IsTuple p #[key,vs j]/\knd.is (ks j) key=true) ->
  (∀h' tk,h'.DictOf knd d ((List.range' i k).foldl (λkvs j=>stored kvs (ks j) (vs j)) kvs)->(∀b o,b≠d->b≠it->s.heap.get? b=some o->h'.get? b=some o)->R (.ok (.ret .none)) {s with heap:=h',toks:=tk}) ->
  adi (model prog w) A (.builtin "dict.update.loop" ⟨[.ref d,.ref it,rawInt i,.none],[]⟩) R s:=by
 intro k
 induction k with
 |zero=>
  intro i s kvs hk hi hlen hD hI hL hP hR
  refine abJ F.yV ?_
  rw[abr F.xQ _]
  show wpAny _ A.in1 (pyNext (.ref it) >>= _) _ _ s
  refine aab (ac3 hA hI hL (by rw[adY];omega) λh' kk=>?_)
  show wpAny _ A.in1 (Builtin.Dict.addKeywords d [] >>= _) _ _ _
  refine aab (m:=Builtin.Dict.addKeywords d []) (aaf (aaf (hR h' s.toks (dC hD λo e=>kk _ _ Nq e) λb o h1 h2 e=>kk _ _ h2 e)))
 |succ k ih=>
  intro i s kvs hk hi hlen hD hI hL hP hR
  have xA:i<items.size:=by omega
  obtain⟨p,key,ep,pd,pt,hp,Cf⟩:=hP i xA
  refine abJ F.yV ?_
  rw[abr F.xQ _]
  show wpAny _ A.in1 (pyNext (.ref it) >>= _) _ _ s
  refine aab (acP hI hL ep λh1 I1 k1=>?_)
  have e1:∀b o,b≠it->s.heap.get? b=some o->h1.get? b=some o:=λb o h e=>k1.extBut _ _ h e
  have Lp:h1.IsTuple p #[key,vs i]:=by
   obtain⟨o,e,r⟩:=hp
   exact⟨o,e1 _ _ pt e,r⟩
  refine aab (aaN ?_)
  refine aab (acY ?_)
  obtain⟨op,Ot,Qc,Sx,Qb⟩:=id Lp
  unfold Builtin.Dict.pairItems
  refine aab (ac2 (T := "tuple") ⟨op,Ot,Qc⟩ ?_)
  rw[if_pos (show ((aby "tuple" == aby "list") || (aby "tuple" == aby "tuple"))=true by decide)]
  refine aab (acy Ot Qb (aaf ?_))
  show wpAny _ A.in1 (adg [key,vs i] (dictSet d key (vs i))) _ _ _
  have RC:h1.DictOf knd d kvs:=dC hD λo e=>e1 _ _ Nq e
  refine aaN (wpAny_dictSet_pairs Cf RC (λh2 D2 k2=>?_) (by rw[aaA];omega))
  have e2:∀b o,b≠d->b≠it->s.heap.get? b=some o->h2.get? b=some o:=λb o h h' e=>k2.extBut _ _ h (e1 _ _ h' e)
  refine aaf ⟨abP F.xQ _,ih (i+1) _ _ (by omega) xA ?_ D2 ?_ ?_ ?_ ?_⟩
  .exact aaX (stored_length_le kvs (ks i) (vs i)) (by omega)
  .obtain⟨o,e,r⟩:=I1
   exact⟨o,k2.extBut _ _ Nq.symm e,r⟩
  .obtain⟨o,e,r⟩:=hL
   exact⟨o,e2 _ _ Rf.symm HL e,r⟩
  .intro j hj
   obtain⟨p',MJ,q1,q2,q3,⟨o,e,r⟩,q5⟩:=hP j hj
   exact⟨p',MJ,q1,q2,q3,⟨o,e2 _ _ q2 q3 e,r⟩,q5⟩
  .intro h' tk D' kk
   refine hR h' tk ?_ λb o h h3 e=>kk _ _ h h3 (e2 _ _ h h3 e)
   rw[List.range'_succ,acq]
   exact D'
end
section
variable{prog:aaB}{w:World}{K:Type}[DecidableEq K]{knd:KeyKind prog w K}{A:Around}{E:Value->Shared->Prop}{s:Shared}
theorem jg{l:Addr}{items:Array Value}{n:Nat}{sl:Array (Option Value)}{Q:Value->Shared->Prop}(ks:Nat->K)(vs:Nat->Value)(hsz:items.size<=1000)(hA:A.handled=none)
  (hx:s.heap.get? l=some {cls:=.type "list",dict:=none,data:=.seq items n,slots:=sl})
  (hP:∀j,j<items.size->∃p key,items[j]?=some (.ref p)/\s.heap.IsTuple p #[key,vs j]/\knd.is (ks j) key=true)
  (hQ:∀h' tk,h'.DictOf knd s.heap.objs.size ((List.range' 0 items.size).foldl (λkvs j=>stored kvs (ks j) (vs j)) [])->(∀b o,s.heap.get? b=some o->h'.get? b=some o)->Q (.ref s.heap.objs.size) {s with heap:=h',toks:=tk}) :
  wpAny (model prog w) A (call (.type "dict") [.ref l]) Q E s:=by
 refine callType_codes (Q₁:=λobj s₁=>obj=.ref s.heap.objs.size/\s₁={s with heap:=s.heap.push {cls:=.type "dict",data:=.dict #[]}}) F.kt_called_dict (F.kt_typeCall_dict_1 _) F.entry_dict_init (kt_code_dict_new _ ⟨rfl,rfl⟩) ?_
 rintro obj s₁ ⟨rfl,rfl⟩
 have zD:(s.heap.push {cls:=.type "dict",data:=.dict #[]}).DictOf knd s.heap.objs.size []:=Heap.DictOf.new s.heap
 have OC:(s.heap.push {cls:=.type "dict",data:=.dict #[]}).get? l=some {cls:=.type "list",dict:=none,data:=.seq items n,slots:=sl}:=aac _ hx
 refine⟨zD.typeIs,F.args_dict_init_2 _ _,?_⟩
 unfold ack.«dict.__init__»
 refine aab ?_
 unfold Builtin.Dict.selfAndRest
 refine aab (wpAny_notOrdered_dict zD.typeIs ?_)
 show wpAny _ _ (pure (s.heap.objs.size,[aaM l])) _ _ _
 refine aaf ?_
 show wpAny _ _ (Builtin.Dict.updateFrom "dict.__init__" s.heap.objs.size (.ref l) [] .none) _ _ _
 unfold Builtin.Dict.updateFrom
 refine aab (ac2 (T := "list") ⟨_,OC,rfl⟩ ?_)
 rw[if_pos (by decide)]
 refine aab (m:=getAttr? (.ref l) "keys") (jM OC hA λh2 tk e ne=>?_)
 rw[if_pos (by rfl)]
 have up:∀b o,s.heap.get? b=some o->h2.get? b=some o:=λb o q=>ne.keeps _ _ (aac _ q)
 have Fb:=up _ _ hx
 have O5:h2.DictOf knd s.heap.objs.size []:=dC zD λo q=>ne.keeps _ _ q
 have BJ:h2.IsList l items:=⟨_,Fb,rfl,n,rfl⟩
 have RQ:s.heap.objs.size≠l:=aca (aaj hx)
 have RR:s.heap.objs.size≠h2.objs.size:=by
  obtain⟨_,_,_,ho,_⟩:=O5
  exact aap (aaj ho)
 have RP:l≠h2.objs.size:=aap (aaj Fb)
 refine aab (adc (aab (acU (s:={s with heap:=h2,toks:=tk}) BJ ?_)))
 refine aaf ⟨abP F.xQ _,?_⟩
 refine jT (A:=A.in1) (knd:=knd) (it:=h2.objs.size) ks vs hsz RR RQ RP hA items.size 0 _ [] (by omega) (aaS _) (aak _) (dC O5 λo q=>aac _ q) ⟨_,aal _ rfl,rfl,rfl⟩ ⟨_,aac _ Fb,rfl,n,rfl⟩ ?_ ?_
 .intro j hj
  obtain⟨p,key,q1,⟨o,q2,r⟩,q3⟩:=hP j hj
  exact⟨p,key,q1,aap (aaj q2),aap (aaj (up _ _ q2)),⟨o,aac _ (up _ _ q2),r⟩,q3⟩
 .intro h' D7 D kk
  exact⟨rfl,hQ h' D7 D λb o q=>kk b o (aap (aaj q)) (aap (aaj (up _ _ q))) (aac _ (up _ _ q))⟩
end
end PySem
namespace L2
open PySem PySem.Spec PyProof.Rows
theorem nz(yn:List (Str×V))(vf:Nat->Value)(h:∀j (hj:j<yn.length),RelV yn[j].2 (vf j)):∀n,n<=yn.length ->
  KV ((yn.take n).foldl (λkvs kv=>putK kvs (aaq kv.1:Key) kv.2) []) ((List.range' 0 n).foldl (λkvs j=>stored kvs (aaq ((yn[j]?.getD (Str.empty,V.nE)).1):Key) (vf j)) [])
 |0,_=>.nil
 |n+1,hn=>by
  have ih:=nz yn vf h n (by omega)
  have xA:n<yn.length:=by omega
  rw[List.range'_1_concat,aeM,abB,aeM,aaa xA]
  simp only[adu,acq,List.foldl_nil,aaV]
  rw[aaa xA,adU]
  exact ih.put _ (h n xA)
theorem r9(yn:List (Str×V)):∀(kvs:List (Key×V)),(yn.foldl (λkvs kv=>putK kvs (aaq kv.1:Key) kv.2) kvs).length<=kvs.length+yn.length:=by
 induction yn with
 |nil=>intro kvs;simp
 |cons x r ih=>
  intro kvs
  rw[acq,aa3]
  have:=ih (putK kvs (aaq x.1) x.2)
  have h2:(putK kvs (aaq x.1:Key) x.2).length<=kvs.length+1:=by
   unfold putK
   split
   .rw[aad];omega
   .rw[aaF];simp
  omega
variable{X:Cx}
end L2
namespace Q
open PySem L2
inductive PV where
 |nE|bl (b:Bool)|int (i:Int)|str (x:Str)|tup (xs:List PV)|lst (xs:List PV)|xv (kvs:List (Key×PV))|set (xs:List Str)|y6 (ns:List Int)
def Cq(K:aah)(F:Hp)(a:Addr)(ns:List Int):Prop:=(∃o,F a=some (.yG o (.lst (ns.map V.int)))) \/
 ∃(o:Obj) (gE:Array Value) (n:Nat),K.lookup a=some o/\o.cls=.type "list" /\ o.dict=none/\o.data=.seq gE n/\gE.size<=sizeLine/\oR (ns.map V.int) gE.toList
mutual
inductive Rep (K:aah) (F:Hp):V->PV->Prop where
 |nE:Rep K F .nE .nE
 |bl (b:Bool):Rep K F (.bl b) (.bl b)
 |int (i:Int):Rep K F (.int i) (.int i)
 |str (x:Str):Rep K F (.str x) (.str x)
 |tup {a:Addr} {vs:List V} {xs:List PV}:yI K F a vs->iF K F vs xs->Rep K F (.ref a) (.tup xs)
 |lst {a:Addr} {vs:List V} {xs:List PV}:F a=some (.lst vs)->iF K F vs xs->Rep K F (.ref a) (.lst xs)
 |xv {a:Addr} {vs:List (Key×V)} {xs:List (Key×PV)}:F a=some (.dK vs)->lE K F vs xs->Rep K F (.ref a) (.xv xs)
 |y6 {a:Addr} {ns:List Int}:Cq K F a ns->Rep K F (.ref a) (.y6 ns)
inductive iF (K:aah) (F:Hp):List V->List PV->Prop where
 |nil:iF K F [] []
 |cons {v:V} {x:PV} {vs:List V} {xs:List PV}:Rep K F v x->iF K F vs xs->iF K F (v::vs) (x::xs)
inductive lE (K:aah) (F:Hp):List (Key×V)->List (Key×PV)->Prop where
 |nil:lE K F [] []
 |cons {k:Key} {v:V} {x:PV} {vs:List (Key×V)} {xs:List (Key×PV)}:Rep K F v x->lE K F vs xs->lE K F ((k,v)::vs) ((k,x)::xs)
end
variable{K:aah}{F F' H:Hp}
variable{a:Addr}
theorem cO{xs:List V}(s:dO F F')(h:yf K F a xs):yf K F' a xs:=by
 rcases h with (h|⟨o,h⟩)|h
 .exact .inl (.inl (s _ _ h))
 .exact .inl (.inr ⟨o,s _ _ h⟩)
 .exact .inr h
theorem aw{xs:List V}(s:dO F F')(h:yI K F a xs):yI K F' a xs:=by
 rcases h with (h|⟨o,h⟩)|h
 .exact .inl (.inl (s _ _ h))
 .exact .inl (.inr ⟨o,s _ _ h⟩)
 .exact .inr h
variable{ns:List Int}
theorem g8(s:dO F F')(h:Cq K F a ns):Cq K F' a ns:=by
 rcases h with ⟨o,h⟩|h
 .exact .inl ⟨o,s _ _ h⟩
 .exact .inr h
theorem Cq.sq(h:Cq K F a ns):yf K F a (ns.map V.int):=by
 rcases h with ⟨o,h⟩|h
 .exact .inl (.inr ⟨o,h⟩)
 .exact .inr h
variable{v:V}{x:PV}
theorem Rep.mono(s:dO F F')(h:Rep K F v x):Rep K F' v x :=
 Rep.rec (K:=K) (F:=F) (motive_1:=λv x _=>Rep K F' v x) (motive_2:=λvs xs _=>iF K F' vs xs) (motive_3:=λvs xs _=>lE K F' vs xs)
  .nE .bl .int .str (λa _ b=>.tup (aw s a) b) (λa _ b=>.lst (s _ _ a) b) (λa _ b=>.xv (s _ _ a) b) (λa=>.y6 (g8 s a)) .nil (λ_ _ a b=>.cons a b) .nil (λ_ _ a b=>.cons a b) h
variable{vs:List V}{xs:List PV}
theorem iF.mono(s:dO F F')(h:iF K F vs xs):iF K F' vs xs :=
 iF.rec (K:=K) (F:=F) (motive_1:=λv x _=>Rep K F' v x) (motive_2:=λvs xs _=>iF K F' vs xs) (motive_3:=λvs xs _=>lE K F' vs xs)
  .nE .bl .int .str (λa _ b=>.tup (aw s a) b) (λa _ b=>.lst (s _ _ a) b) (λa _ b=>.xv (s _ _ a) b) (λa=>.y6 (g8 s a)) .nil (λ_ _ a b=>.cons a b) .nil (λ_ _ a b=>.cons a b) h
theorem lE.mono{vs:List (Key×V)}{xs:List (Key×PV)}(s:dO F F')(h:lE K F vs xs):lE K F' vs xs :=
 lE.rec (K:=K) (F:=F) (motive_1:=λv x _=>Rep K F' v x) (motive_2:=λvs xs _=>iF K F' vs xs) (motive_3:=λvs xs _=>lE K F' vs xs)
  .nE .bl .int .str (λa _ b=>.tup (aw s a) b) (λa _ b=>.lst (s _ _ a) b) (λa _ b=>.xv (s _ _ a) b) (λa=>.y6 (g8 s a)) .nil (λ_ _ a b=>.cons a b) .nil (λ_ _ a b=>.cons a b) h
theorem iF.ind{motive:∀vs xs,iF K F vs xs->Prop}(h:iF K F vs xs)(nil:motive [] [] .nil)(cons:∀{v x vs xs} (a:Rep K F v x) (r:iF K F vs xs),motive vs xs r->motive (v::vs) (x::xs) (.cons a r)):motive vs xs h :=
 iF.rec (K:=K) (F:=F) (motive_1:=λ_ _ _=>True) (motive_2:=motive) (motive_3:=λ_ _ _=>True)
  trivial (λ_=>trivial) (λ_=>trivial) (λ_=>trivial) (λ_ _ _=>trivial) (λ_ _ _=>trivial) (λ_ _ _=>trivial) (λ_=>trivial) nil (λa r _ b=>cons a r b) trivial (λ_ _ _ _=>trivial) h
theorem lE.ind{motive:∀vs xs,lE K F vs xs->Prop}{vs:List (Key×V)}{xs:List (Key×PV)}(h:lE K F vs xs)(nil:motive [] [] .nil)(cons:∀{k v x vs xs} (a:Rep K F v x) (r:lE K F vs xs),motive vs xs r->motive ((k,v)::vs) ((k,x)::xs) (.cons a r)):motive vs xs h :=
 lE.rec (K:=K) (F:=F) (motive_1:=λ_ _ _=>True) (motive_2:=λ_ _ _=>True) (motive_3:=motive)
  trivial (λ_=>trivial) (λ_=>trivial) (λ_=>trivial) (λ_ _ _=>trivial) (λ_ _ _=>trivial) (λ_ _ _=>trivial) (λ_=>trivial) trivial (λ_ _ _ _=>trivial) nil (λa r _ b=>cons a r b) h
theorem iF.len(h:iF K F vs xs):vs.length=xs.length:=by
 induction h using iF.ind with
 |nil=>rfl
 |cons _ _ ih=>exact congrArg (·+1) ih
variable{i:Nat}
theorem iF.get(h:iF K F vs xs)(e:xs[i]?=some x):∃v,vs[i]?=some v/\Rep K F v x:=by
 induction h using iF.ind generalizing i with
 |nil=>cases e
 |cons a _ ih=>cases i with
  |zero=>cases e;exact⟨_,rfl,a⟩
  |succ i=>exact ih e
theorem iF.ET(h:iF K F vs xs)(e:vs[i]?=some v):∃x,xs[i]?=some x/\Rep K F v x:=by
 induction h using iF.ind generalizing i with
 |nil=>cases e
 |cons a _ ih=>cases i with
  |zero=>cases e;exact⟨_,rfl,a⟩
  |succ i=>exact ih e
variable{ws:List V}
theorem iF.app{ys:List PV}(h:iF K F vs xs)(k:iF K F ws ys):iF K F (vs++ws) (xs++ys):=by
 induction h using iF.ind with
 |nil=>exact k
 |cons a _ ih=>exact .cons a ih
theorem iF.take(n:Nat)(h:iF K F vs xs):iF K F (vs.take n) (xs.take n):=by
 induction h using iF.ind generalizing n with
 |nil=>cases n<;>exact .nil
 |cons a _ ih=>cases n with
  |zero=>exact .nil
  |succ n=>exact .cons a (ih n)
theorem iF.drop(n:Nat)(h:iF K F vs xs):iF K F (vs.drop n) (xs.drop n):=by
 induction h using iF.ind generalizing n with
 |nil=>cases n<;>exact .nil
 |cons a r ih=>cases n with
  |zero=>exact .cons a r
  |succ n=>exact ih n
theorem iF.Mi(n:Nat)(k:Rep K F v x)(h:iF K F vs xs):iF K F (vs.set n v) (xs.set n x):=by
 induction h using iF.ind generalizing n with
 |nil=>exact .nil
 |cons a r ih=>cases n with
  |zero=>exact .cons k r
  |succ n=>exact .cons a (ih n)
theorem iF.erase(n:Nat)(h:iF K F vs xs):iF K F (vs.eraseIdx n) (xs.eraseIdx n):=by
 induction h using iF.ind generalizing n with
 |nil=>exact .nil
 |cons a r ih=>cases n with
  |zero=>exact r
  |succ n=>exact .cons a (ih n)
theorem lE.len{vs:List (Key×V)}{xs:List (Key×PV)}(h:lE K F vs xs):vs.length=xs.length:=by
 induction h using lE.ind with
 |nil=>rfl
 |cons _ _ ih=>exact congrArg (·+1) ih
theorem lE.keys{vs:List (Key×V)}{xs:List (Key×PV)}(h:lE K F vs xs):vs.map (·.1)=xs.map (·.1):=by
 induction h using lE.ind with
 |nil=>rfl
 |cons _ _ ih=>exact congrArg (List.cons _) ih
structure Sl where
 k:Nat
 v:PV
abbrev En:=List (Option Sl)
structure xV where
 P:Hp->Hp->Addr->List Addr->PV->Prop
 mono:∀F F' H H' a l x,P F H a l x->dO F F'->(∀c∈l,H' c=H c)->P F' H' a l x
structure Md where
 P:aaB
 w:World
 K:aah
 ob:xV
structure Zn where
 H₀:Hp
 F₀:Hp
 S:List Addr
 oa:Nat->Option Addr:=λ_=>none
 sS:∀b∈S,H₀ b≠none
def yD(M:Md)(F H:Hp)(a:Addr):PV->Prop
 |.lst xs=>∃vs,H a=some (.lst vs)/\iF M.K F vs xs
 |.xv xs=>∃vs,H a=some (.dK vs)/\lE M.K F vs xs
 |.set xs=>H a=some (AJ M.P M.w a (λs=>decide (s∈xs)) xs.length)
 |_=>False
variable{M:Md}{H':Hp}
theorem yD.mono(s:dO F F')(e:H' a=H a)(h:yD M F H a x):yD M F' H' a x:=by
 cases x<;>try exact h.elim
 .obtain⟨vs,h1,h2⟩:=h
  exact⟨vs,e.trans h1,h2.mono s⟩
 .obtain⟨vs,h1,h2⟩:=h
  exact⟨vs,e.trans h1,h2.mono s⟩
 .exact e.trans h
def Bb(M:Md)(Z:Zn)(F H:Hp)(v:V)(s:Sl)(fp:List Addr):Prop :=
 (s.k=0/\fp=[]/\Rep M.K F v s.v)\/(s.k=1/\∃a,v=.ref a/\fp=[a]/\Z.H₀ a=none/\yD M F H a s.v) \/
 ((s.k=2\/s.k=4)/\∃a,v=.ref a/\(∀c∈fp,c∈Z.S\/Z.H₀ c=none)/\M.ob.P F H a fp s.v) \/
 (s.k=3/\∃a,v=.ref a/\fp=[a]/\a∈Z.S/\yD M F H a s.v)
structure Slots(M:Md)(Z:Zn)(F:Hp)(σ:St)(H:Hp)(env:En)(fp:Nat->List Addr):Prop where
 at':∀i s,env[i]?=some (some s)->∃v,σ[i]?=some (some v)/\Bb M Z F H v s (fp i)
 al:∀i a,a∈fp i->H a≠none/\F a=none
 dj:∀i j a,i≠j->a∈fp i->a∉fp j
 oa:∀i a s,Z.oa i=some a->env[i]?=some (some s)->s.k=2->σ[i]?=some (some (.ref a))
structure lT(M:Md)(Z:Zn)(F:Hp)(σ:St)(H:Hp)(env:En):Prop where
 sF:dO F H
 sG:∀b o,Z.H₀ b=some o->b∉Z.S->H b=some o
 pr:∀b,Z.H₀ b≠none->H b≠none
 gr:dO Z.F₀ F
 nw:∀a,F a≠none->Z.F₀ a≠none\/Z.H₀ a=none
 len:env.length=σ.length
 sl:∃fp,Slots M Z F σ H env fp
variable{Z:Zn}{σ:St}{env:En}{s:Sl}{fp:List Addr}
theorem Bb.mono(s1:dO F F')(e:∀c∈fp,H' c=H c)(h:Bb M Z F H v s fp):Bb M Z F' H' v s fp:=by
 rcases h with ⟨a,b,c⟩|⟨a,p,rfl,rfl,c,d⟩|⟨a,p,rfl,c,d⟩|⟨a,p,rfl,rfl,c,d⟩
 .exact .inl ⟨a,b,c.mono s1⟩
 .exact .inr (.inl ⟨a,p,rfl,rfl,c,d.mono s1 (e p (by simp))⟩)
 .exact .inr (.inr (.inl ⟨a,p,rfl,c,M.ob.mono _ _ _ _ _ _ _ d s1 e⟩))
 .exact .inr (.inr (.inr ⟨a,p,rfl,rfl,c,d.mono s1 (e p (by simp))⟩))
theorem aj:dO H H:=λ_ _ h=>h
theorem ai{A B C:Hp}(x:dO A B)(y:dO B C):dO A C:=λa o h=>y a o (x a o h)
variable{p:Addr}{o:HO}
theorem ay(h:F p=none):dO F (upd F p o):=λa u e=>by rw[af (aq e h)];exact e
theorem dO.none_of{A B:Hp}(s:dO A B)(h:B a=none):A a=none:=by
 cases e:A a with
 |none=>rfl
 |some o=>rw[s a o e]at h;cases h
theorem Slots.move{fp:Nat->List Addr}(L:Slots M Z F σ H env fp)(s1:dO F F')(s3:∀i c o,c∈fp i->H c=some o->H' c=some o)(nw:∀a,F' a≠none->F a≠none\/H a=none):Slots M Z F' σ H' env fp:=by
 refine⟨λi s h=>?_,λi a h=>?_,L.dj,L.oa⟩
 .obtain⟨v,h1,h2⟩:=L.at' i s h
  refine⟨v,h1,h2.mono s1 λc hc=>?_⟩
  cases e:H c with
  |none=>exact absurd e (L.al i c hc).1
  |some o=>exact s3 i c o hc e
 .obtain⟨h1,h2⟩:=L.al i a h
  constructor
  .cases e:H a with
   |none=>exact absurd e h1
   |some o=>rw[s3 i a o h e];simp
  .cases e:F' a with
   |none=>rfl
   |some o=>
    rcases nw a (by rw[e];simp)with z|z
    .exact absurd h2 z
    .exact absurd z h1
variable{l:List Addr}
theorem Slots.put{fp:Nat->List Addr}(L:Slots M Z F σ H env fp)(hk:s.k≠2)(hi:i<σ.length)(h:Bb M Z F H v s l)(al:∀a∈l,H a≠none/\F a=none)(dj:∀j a,j≠i->a∈l->a∉fp j):
  Slots M Z F (σ.set i (some v)) H (env.set i (some s)) (λj=>if j=i then l else fp j):=by
 refine⟨λj t e=>?_,λj a e=>?_,λj k a AW e z=>?_,λj a t e1 e2 e3=>?_⟩
 case refine_4=>
  by_cases q:j=i
  .subst q
   rw[aa8]at e2
   simp only[if_true]at e2
   split at e2
   .cases e2;exact absurd e3 hk
   .cases e2
  .rw[aau (abv q)]at e2
   rw[aau (abv q)]
   exact L.oa j a t e1 e2 e3
 .by_cases q:j=i
  .subst q
   rw[aa8]at e
   simp only[if_true]at e
   split at e
   .first|(exfalso;revert e;simp;done)|cases e
    exact⟨v,by simp[hi],by rw[if_pos rfl];exact h⟩
   .first|(exfalso;revert e;simp;done)|cases e
  .rw[aau (abv q)]at e
   rw[aau (abv q),if_neg q]
   exact L.at' j t e
 .by_cases q:j=i
  .rw[if_pos q]at e;exact al a e
  .rw[if_neg q]at e;exact L.al j a e
 .by_cases q:j=i
  .rw[if_pos q]at e
   rw[if_neg (λy=>AW (q.trans y.symm))]at z
   exact dj k a (λy=>AW (q.trans y.symm)) e z
  .rw[if_neg q]at e
   by_cases q2:k=i
   .rw[if_pos q2]at z
    exact dj j a q z e
   .rw[if_neg q2]at z
    exact L.dj j k a AW e z
theorem Slots.push{fp:Nat->List Addr}(L:Slots M Z F σ H env fp)(hk:s.k≠2)(hn:env.length=σ.length)(h:Bb M Z F H v s l)(al:∀a∈l,H a≠none/\F a=none)(dj:∀j a,a∈l->a∉fp j):
  Slots M Z F (σ++[some v]) H (env++[some s]) (λj=>if j=env.length then l else fp j):=by
 refine⟨λj t e=>?_,λj a e=>?_,λj k a AW e z=>?_,λj a t e1 e2 e3=>?_⟩
 case refine_4=>
  by_cases q:j=env.length
  .subst q
   simp at e2
   subst e2
   exact absurd e3 hk
  .have hj:j<env.length:=by
    have:j<(env++[some s]).length:=by
     rcases aaO j (env++[some s]).length with y|y
     .exact y
     .rw[aan y]at e2;cases e2
    simp at this;omega
   rw[aav hj]at e2
   rw[aav (by omega)]
   exact L.oa j a t e1 e2 e3
 .by_cases q:j=env.length
  .subst q
   simp at e
   subst e
   exact⟨v,by rw[hn];simp,by rw[if_pos rfl];exact h⟩
  .rw[if_neg q]
   have hj:j<env.length:=by
    have:j<(env++[some s]).length:=by
     rcases aaO j (env++[some s]).length with y|y
     .exact y
     .rw[aan y]at e;cases e
    simp at this;omega
   rw[aav hj]at e
   rw[aav (by omega)]
   exact L.at' j t e
 .by_cases q:j=env.length
  .rw[if_pos q]at e;exact al a e
  .rw[if_neg q]at e;exact L.al j a e
 .by_cases q:j=env.length
  .rw[if_pos q]at e
   rw[if_neg (λy=>AW (q.trans y.symm))]at z
   exact dj k a e z
  .rw[if_neg q]at e
   by_cases q2:k=env.length
   .rw[if_pos q2]at z
    exact dj j a z e
   .rw[if_neg q2]at z
    exact L.dj j k a AW e z
theorem Slots.drop{fp:Nat->List Addr}(L:Slots M Z F (σ++[some v]) H (env++[some s]) fp)(hn:env.length=σ.length):Slots M Z F σ H env fp:=by
 have lt:∀{j:Nat} {t:Sl},env[j]?=some (some t)->j<env.length:=λ{j t} e=>by
  rcases aaO j env.length with y|y
  .exact y
  .rw[aan y]at e;cases e
 refine⟨λj t e=>?_,L.al,L.dj,λj a t e1 e2 e3=>?_⟩
 .have hj:=lt e
  obtain⟨v',h1,h2⟩:=L.at' j t (by rw[aav hj];exact e)
  rw[aav (by omega)]at h1
  exact⟨v',h1,h2⟩
 .have hj:=lt e2
  have:=L.oa j a t e1 (by rw[aav hj];exact e2) e3
  rw[aav (by omega)]at this
  exact this
theorem Slots.last{fp:Nat->List Addr}(L:Slots M Z F (σ++[some v]) H (env++[some s]) fp)(hn:env.length=σ.length):Bb M Z F H v s (fp env.length):=by
 obtain⟨v',h1,h2⟩:=L.at' env.length s (by simp)
 rw[hn]at h1
 simp at h1
 subst h1
 exact h2
theorem lT.h0(K:lT M Z F σ H env)(h:H a=none):Z.H₀ a=none:=by
 cases e:Z.H₀ a with
 |none=>rfl
 |some o=>exact absurd h (K.pr a (by rw[e];simp))
theorem lT.move(K:lT M Z F σ H env)(s1:dO F F')(s2:dO F' H')(s3:dO H H')(nw:∀a,F' a≠none->F a≠none\/H a=none):lT M Z F' σ H' env:=by
 obtain⟨fp,L⟩:=K.sl
 refine⟨s2,λb o h1 h2=>s3 b o (K.sG b o h1 h2),λb h=>?_,ai K.gr s1,λa h=>?_,K.len,fp,L.move s1 (λ_ c o _ e=>s3 c o e) nw⟩
 .cases e:H b with
  |none=>exact absurd e (K.pr b h)
  |some o=>rw[s3 b o e];simp
 .rcases nw a h with h1|h1
  .exact K.nw a h1
  .exact .inr (K.h0 h1)
theorem lT.lay(K:lT M Z F σ H env)(h:H p=none):lT M Z (upd F p o) σ (upd H p o) env:=by
 have hF:F p=none:=dO.none_of K.sF h
 refine K.move (ay hF) (λa u e=>?_) (ay h) λa e=>?_
 .by_cases q:a=p
  .subst q;rw[ag]at e ⊢;exact e
  .rw[af q]at e ⊢;exact K.sF a u e
 .by_cases q:a=p
  .subst q;exact .inr h
  .rw[af q]at e;exact .inl e
theorem lT.slots{σ':St}{bY:En}{fp:Nat->List Addr}(K:lT M Z F σ H env)(hn:bY.length=σ'.length)(L:Slots M Z F σ' H bY fp):lT M Z F σ' H bY:=⟨K.sF,K.sG,K.pr,K.gr,K.nw,hn,fp,L⟩
theorem lT.own(K:lT M Z F σ H env)(h:H p=none)(hx:yD M F (upd H p o) p x):lT M Z F (σ++[some (.ref p)]) (upd H p o) (env++[some ⟨1,x⟩]):=by
 have hF:F p=none:=dO.none_of K.sF h
 have K1:lT M Z F σ (upd H p o) env:=K.move aj (λa u e=>by rw[af (aq e hF)];exact K.sF a u e) (ay h) λa e=>.inl e
 obtain⟨fp,L⟩:=K.sl
 have L1:Slots M Z F σ (upd H p o) env fp:=L.move aj (λ_ c u _ e=>ay h c u e) λa e=>.inl e
 refine K1.slots (by simp[K.len]) (L1.push (l:=[p]) (by simp) K.len (.inr (.inl ⟨rfl,p,rfl,rfl,K.h0 h,hx⟩)) (λa ha=>?_) λj a ha hj=>?_)
 .simp at ha;subst ha
  exact⟨by rw[ag];simp,hF⟩
 .simp at ha;subst ha
  exact(L.al j a hj).1 h
theorem lT.drop(K:lT M Z F (σ++[some v]) H (env++[some s])):lT M Z F σ H env:=by
 have hn:env.length=σ.length:=by have:=K.len;simpa using this
 obtain⟨fp,L⟩:=K.sl
 exact K.slots hn (L.drop hn)
theorem yD.rep(h:yD M F H a x)(hx:∀xs,x≠.set xs)(hF:F a=none)(ho:H a=some o):Rep M.K (upd F a o) (.ref a) x:=by
 have s1:dO F (upd F a o):=ay hF
 cases x<;>try exact h.elim
 .obtain⟨vs,h1,h2⟩:=h
  rw[ho]at h1;cases h1
  exact .lst ag (h2.mono s1)
 .obtain⟨vs,h1,h2⟩:=h
  rw[ho]at h1;cases h1
  exact .xv ag (h2.mono s1)
 .exact absurd rfl (hx _)
theorem lT.yG{fp:Nat->List Addr}{σ':St}{bY:En}(K:lT M Z F σ H env)(L:Slots M Z F σ H env fp)(hf:fp i=[a])(h0:Z.H₀ a=none)(ho:H a=some o)
  (hn:bY.length=σ'.length) (hs:∀j s,j≠i->bY[j]?=some (some s)->env[j]?=some (some s)/\σ'[j]?=σ[j]?)
  (hi:∀s,bY[i]?=some (some s)->∃v,σ'[i]?=some (some v)/\s.k=0/\Rep M.K (upd F a o) v s.v):lT M Z (upd F a o) σ' H bY:=by
 have ha:=L.al i a (by rw[hf];simp)
 have s1:dO F (upd F a o):=ay ha.2
 refine⟨λb u e=>?_,K.sG,K.pr,ai K.gr s1,λb e=>?_,hn,λj=>if j=i then []else fp j,λj s h=>?_,λj b h=>?_,λj k b AW h z=>?_,λj b t e1 e2 e3=>?_⟩
 .by_cases q:b=a
  .subst q;rw[ag]at e;cases e;exact ho
  .rw[af q]at e;exact K.sF b u e
 .by_cases q:b=a
  .subst q;exact .inr h0
  .rw[af q]at e;exact K.nw b e
 .by_cases q:j=i
  .subst q
   obtain⟨v,h1,h2,h3⟩:=hi s h
   exact⟨v,h1,.inl ⟨h2,if_pos rfl,h3⟩⟩
  .obtain⟨e1,e2⟩:=hs j s q h
   obtain⟨v,h1,h2⟩:=L.at' j s e1
   exact⟨v,by rw[e2];exact h1,by rw[if_neg q];exact h2.mono s1 λ_ _=>rfl⟩
 .by_cases q:j=i
  .rw[if_pos q]at h;simp at h
  .rw[if_neg q]at h
   have hb:=L.al j b h
   have:b≠a:=λz=>L.dj j i b q h (by rw[hf,z];simp)
   exact⟨hb.1,by rw[af this];exact hb.2⟩
 .by_cases q:j=i
  .rw[if_pos q]at h;simp at h
  .rw[if_neg q]at h
   by_cases q2:k=i
   .rw[if_pos q2]at z;simp at z
   .rw[if_neg q2]at z;exact L.dj j k b AW h z
 .by_cases q:j=i
  .subst q
   obtain⟨_,_,h2,_⟩:=hi t e2
   rw[e3]at h2;cases h2
  .obtain⟨f1,f2⟩:=hs j t q e2
   rw[f2];exact L.oa j b t e1 f1 e3
theorem b8(h:H a≠none):∃o,H a=some o:=by
 cases e:H a with
 |none=>exact absurd e h
 |some o=>exact⟨o,rfl⟩
theorem lT.FQ(K:lT M Z F (σ++[some v]) H (env++[some ⟨1,x⟩]))(hx:∀xs,x≠.set xs):∃F',dO F F'/\lT M Z F' σ H env/\Rep M.K F' v x:=by
 have hn:env.length=σ.length:=by have:=K.len;simpa using this
 obtain⟨fp,L⟩:=K.sl
 rcases L.last hn with ⟨e,_⟩|⟨_,a,rfl,hf,h0,hw⟩|⟨e,_⟩|⟨e,_⟩
 .first|(exfalso;revert e;simp;done)|cases e
 .have ha:=L.al env.length a (by rw[hf];simp)
  obtain⟨o,ho⟩:=b8 ha.1
  refine⟨upd F a o,ay ha.2,K.yG L hf h0 ho hn (λj s _ e=>?_) (λs e=>?_),hw.rep hx ha.2 ho⟩
  .have hj:j<env.length:=by
    rcases aaO j env.length with y|y
    .exact y
    .rw[aan y]at e;cases e
   rw[aav hj,aav (by omega)]
   exact⟨e,rfl⟩
  .simp at e
 .first|(exfalso;revert e;simp;done)|cases e
 .first|(exfalso;revert e;simp;done)|cases e
theorem lT.freeze(K:lT M Z F σ H env)(hi:env[i]?=some (some ⟨1,x⟩))(hx:∀xs,x≠.set xs):∃F' v,σ[i]?=some (some v)/\dO F F'/\lT M Z F' σ H (env.set i (some ⟨0,x⟩))/\Rep M.K F' v x:=by
 obtain⟨fp,L⟩:=K.sl
 obtain⟨v,hv,h⟩:=L.at' i _ hi
 rcases h with ⟨e,_⟩|⟨_,a,rfl,hf,h0,hw⟩|⟨e,_⟩|⟨e,_⟩
 .first|(exfalso;revert e;simp;done)|cases e
 .have ha:=L.al i a (by rw[hf];simp)
  obtain⟨o,ho⟩:=b8 ha.1
  refine⟨upd F a o,_,hv,ay ha.2,K.yG L hf h0 ho (by simp[K.len]) (λj s q e=>?_) (λs e=>?_),hw.rep hx ha.2 ho⟩
  .rw[aau (abv q)]at e
   exact⟨e,rfl⟩
  .rw[aa8]at e
   simp only[if_true]at e
   split at e
   .first|(exfalso;revert e;simp;done)|cases e
    exact⟨_,hv,rfl,hw.rep hx ha.2 ho⟩
   .first|(exfalso;revert e;simp;done)|cases e
 .first|(exfalso;revert e;simp;done)|cases e
 .first|(exfalso;revert e;simp;done)|cases e
theorem lT.put(K:lT M Z F σ H env)(h:Rep M.K F v x):lT M Z F (σ.set i (some v)) H (env.set i (some ⟨0,x⟩)):=by
 obtain⟨fp,L⟩:=K.sl
 rcases aaO i env.length with hi|hi
 case inr=>
  rw[abm hi,abm (by have:=K.len;omega)]
  exact K
 exact K.slots (by simp[K.len]) (L.put (l:=[]) (by simp) (by have:=K.len;omega) (.inl ⟨rfl,rfl,h⟩) (λa h=>by simp at h) λj a _ h=>by simp at h)
theorem lT.take(K:lT M Z F (σ++[some v]) H (env++[some s]))(hk:s.k≠2:=by simp):lT M Z F (σ.set i (some v)) H (env.set i (some s)):=by
 have hn:env.length=σ.length:=by have:=K.len;simpa using this
 rcases aaO i env.length with hi|hi
 case inr=>
  rw[abm hi,abm (by omega)]
  exact K.drop
 obtain⟨fp,L⟩:=K.sl
 have hl:=L.last hn
 refine K.slots (by simp[hn]) (Slots.put (l:=fp env.length) (fp:=λj=>if j=env.length then []else fp j) ⟨λj t e=>?_,λj a e=>?_,λj k a AW e z=>?_,(L.drop hn).oa⟩ hk (by omega) hl (λa=>L.al _ a) λj a _ h z=>?_)
 .have hj:j<env.length:=by
   rcases aaO j env.length with y|y
   .exact y
   .rw[aan y]at e;cases e
  rw[if_neg (by omega)]
  obtain⟨v',h1,h2⟩:=L.at' j t (by rw[aav hj];exact e)
  rw[aav (by omega)]at h1
  exact⟨v',h1,h2⟩
 .split at e
  .simp at e
  .exact L.al j a e
 .split at e
  .simp at e
  .split at z
   .simp at z
   .exact L.dj j k a AW e z
 .split at z
  .simp at z
  .rename_i q
   exact L.dj env.length j a (abv q) h z
variable{k:Nat}{y:PV}
theorem lT.write(K:lT M Z F σ H env)(hk:k=1\/k=3)(hi:env[i]?=some (some ⟨k,x⟩))(hv:σ[i]?=some (some (.ref a)))(hw:yD M F (upd H a o) a y):lT M Z F σ (upd H a o) (env.set i (some ⟨k,y⟩)):=by
 obtain⟨fp,L⟩:=K.sl
 obtain⟨v,GB,h⟩:=L.at' i _ hi
 rw[hv]at GB;cases GB
 obtain⟨hf,hd,zD⟩:fp i=[a]/\(Z.H₀ a=none\/a∈Z.S)/\Bb M Z F (upd H a o) (.ref a) ⟨k,y⟩ [a]:=by
  rcases h with ⟨e,_⟩|⟨e,a',ea,hf,h0,hx⟩|⟨e,_⟩|⟨e,a',ea,hf,h0,hx⟩
  .rcases hk with rfl|rfl<;>exact absurd e (by simp)
  .cases ea
   exact⟨hf,.inl h0,.inr (.inl ⟨e,a,rfl,rfl,h0,hw⟩)⟩
  .rcases hk with rfl|rfl<;>exact absurd e (by simp)
  .cases ea
   exact⟨hf,.inr h0,.inr (.inr (.inr ⟨e,a,rfl,rfl,h0,hw⟩))⟩
 have ha:=L.al i a (by rw[hf];simp)
 refine⟨λb u e=>?_,λb u h1 h2=>?_,λb h=>?_,K.gr,K.nw,by simp[K.len],fp,λj s e=>?_,λj b h=>?_,L.dj,λj b t e1 e2 e3=>?_⟩
 .rw[af (aq e ha.2)];exact K.sF b u e
 .have:b≠a:=by
   rcases hd with h0|h0
   .exact aq h1 h0
   .exact λz=>h2 (by rw[z];exact h0)
  rw[af this];exact K.sG b u h1 h2
 .by_cases q:b=a
  .subst q;rw[ag];simp
  .rw[af q];exact K.pr b h
 .by_cases q:j=i
  .subst q
   rw[aa8]at e
   simp only[if_true]at e
   split at e
   .first|(exfalso;revert e;simp;done)|cases e
    exact⟨_,hv,by rw[hf];exact zD⟩
   .first|(exfalso;revert e;simp;done)|cases e
  .rw[aau (abv q)]at e
   obtain⟨v,h1,h2⟩:=L.at' j s e
   refine⟨v,h1,h2.mono aj λc hc=>af λz=>?_⟩
   exact L.dj j i c q hc (by rw[hf,z];simp)
 .have hb:=L.al j b h
  refine⟨?_,hb.2⟩
  by_cases q:b=a
  .subst q;rw[ag];simp
  .rw[af q];exact hb.1
 .by_cases q:j=i
  .subst q
   rw[aa8]at e2
   simp only[if_true]at e2
   split at e2
   .cases e2;rcases hk with rfl|rfl<;>cases e3
   .cases e2
  .rw[aau (abv q)]at e2
   exact L.oa j b t e1 e2 e3
def Vw(M:Md)(F H:Hp)(v:V)(x:PV):Prop:=Rep M.K F v x\/∃a,v=.ref a/\yD M F H a x
theorem Vw.lst(h:Vw M F H v (.lst xs))(s:dO F H):∃a vs,v=.ref a/\H a=some (.lst vs)/\iF M.K F vs xs:=by
 rcases h with h|⟨a,rfl,vs,h1,h2⟩
 .cases h with
  |lst h1 h2=>exact⟨_,_,rfl,s _ _ h1,h2⟩
 .exact⟨a,vs,rfl,h1,h2⟩
theorem Vw.tup(h:Vw M F H v (.tup xs))(s:dO F H):∃a vs,v=.ref a/\yI M.K H a vs/\iF M.K F vs xs:=by
 rcases h with h|⟨a,rfl,h⟩
 .cases h with
  |tup h1 h2=>exact⟨_,_,rfl,aw s h1,h2⟩
 .exact h.elim
theorem Vw.xv{xs:List (Key×PV)}(h:Vw M F H v (.xv xs))(s:dO F H):∃a vs,v=.ref a/\H a=some (.dK vs)/\lE M.K F vs xs:=by
 rcases h with h|⟨a,rfl,vs,h1,h2⟩
 .cases h with
  |xv h1 h2=>exact⟨_,_,rfl,s _ _ h1,h2⟩
 .exact⟨a,vs,rfl,h1,h2⟩
theorem Vw.int{i:Int}(h:Vw M F H v (.int i)):v=.int i:=by
 rcases h with h|⟨a,rfl,h⟩
 .cases h;rfl
 .exact h.elim
theorem Vw.bl{b:Bool}(h:Vw M F H v (.bl b)):v=.bl b:=by
 rcases h with h|⟨a,rfl,h⟩
 .cases h;rfl
 .exact h.elim
theorem Vw.str{x:Str}(h:Vw M F H v (.str x)):v=.str x:=by
 rcases h with h|⟨a,rfl,h⟩
 .cases h;rfl
 .exact h.elim
theorem Vw.nE(h:Vw M F H v .nE):v=.nE:=by
 rcases h with h|⟨a,rfl,h⟩
 .cases h;rfl
 .exact h.elim
theorem lT.vw(K:lT M Z F σ H env)(hi:env[i]?=some (some s))(hk:s.k≠2/\s.k≠4):∃v,σ[i]?=some (some v)/\Vw M F H v s.v:=by
 obtain⟨fp,L⟩:=K.sl
 obtain⟨v,hv,h⟩:=L.at' i _ hi
 rcases h with ⟨_,_,h⟩|⟨_,a,rfl,_,_,h⟩|⟨e,_⟩|⟨_,a,rfl,_,_,h⟩
 .exact⟨v,hv,.inl h⟩
 .exact⟨_,hv,.inr ⟨a,rfl,h⟩⟩
 .exact(e.elim hk.1 hk.2).elim
 .exact⟨_,hv,.inr ⟨a,rfl,h⟩⟩
theorem lT.val(K:lT M Z F σ H env)(hi:env[i]?=some (some ⟨0,x⟩)):∃v,σ[i]?=some (some v)/\Rep M.K F v x:=by
 obtain⟨fp,L⟩:=K.sl
 obtain⟨v,hv,h⟩:=L.at' i _ hi
 rcases h with ⟨_,_,h⟩|⟨e,_⟩|⟨e,_⟩|⟨e,_⟩
 .exact⟨v,hv,h⟩
 .first|(exfalso;revert e;simp;done)|cases e
 .first|(exfalso;revert e;simp;done)|cases e
 .first|(exfalso;revert e;simp;done)|cases e
theorem lT.ownAt(K:lT M Z F σ H env)(hk:k=1\/k=3)(hi:env[i]?=some (some ⟨k,x⟩)):∃a,σ[i]?=some (some (.ref a))/\yD M F H a x:=by
 obtain⟨fp,L⟩:=K.sl
 obtain⟨v,hv,h⟩:=L.at' i _ hi
 rcases h with ⟨e,_⟩|⟨_,a,rfl,_,_,h⟩|⟨e,_⟩|⟨_,a,rfl,_,_,h⟩
 .rcases hk with rfl|rfl<;>exact absurd e (by simp)
 .exact⟨a,hv,h⟩
 .rcases hk with rfl|rfl<;>exact absurd e (by simp)
 .exact⟨a,hv,h⟩
abbrev WE:=En->(PV->En->Prop)->Prop
abbrev WT:=En->(Bool->En->Prop)->Prop
abbrev WA:=En->(List PV->En->Prop)->Prop
structure Wd where
 nx:En->Prop
 rt:PV->En->Prop
 bk:En->Prop:=λ_=>False
 ct:En->Prop:=λ_=>False
 rf:PV->En->Prop:=λ_ _=>False
 ro:PV->Nat->En->Prop:=λ_ _ _=>False
abbrev WS:=Wd->En->Prop
abbrev md(ob:xV)(X:Cx):Md:=⟨X.prog,X.w,X.K,ob⟩
structure xu(ob:xV)(X:Cx)(e:Expr)(f:WE):Prop where
 ex:∃t:TE,PE X e t/\∀(Z:Zn) (F:Hp) (σ:St) (H:Hp) (env:En) (P:PV->En->Prop) (Q:VK),lT (md ob X) Z F σ H env->f env P ->
  (∀x bY v F' H',P x bY->dO F F'->lT (md ob X) Z F' σ H' bY->Rep X.K F' v x->Q v H')->t σ H Q
structure Bd(ob:xV)(X:Cx)(e:Expr)(f:WE):Prop where
 ex:∃t:TE,PE X e t/\∀(Z:Zn) (F:Hp) (σ:St) (H:Hp) (env:En) (P:PV->En->Prop) (Q:VK),lT (md ob X) Z F σ H env->f env P ->
  (∀x bY v F' H',P x bY->dO F F'->lT (md ob X) Z F' σ H' bY->Vw (md ob X) F' H' v x->Q v H')->t σ H Q
structure C8(ob:xV)(X:Cx)(e:Expr)(f:WE):Prop where
 ex:∃t:TE,PE X e t/\∀(Z:Zn) (F:Hp) (σ:St) (H:Hp) (env:En) (P:PV->En->Prop) (Q:VK),lT (md ob X) Z F σ H env->f env P ->
  (∀x bY v F' H',P x bY->dO F F'->(∀xs,x≠.set xs)->lT (md ob X) Z F' (σ++[some v]) H' (bY++[some ⟨1,x⟩])->Q v H')->t σ H Q
structure C7(ob:xV)(X:Cx)(e:Expr)(f:WT):Prop where
 ex:∃t:TT,PT X e t/\∀(Z:Zn) (F:Hp) (σ:St) (H:Hp) (env:En) (P:Bool->En->Prop) (Q:Bool->Hp->Prop),lT (md ob X) Z F σ H env->f env P ->
  (∀b bY F' H',P b bY->dO F F'->lT (md ob X) Z F' σ H' bY->Q b H')->t σ H Q
structure Ir(ob:xV)(X:Cx)(e:Expr)(f:WT):Prop where
 ex:∃t:TT,PW X e t/\∀(Z:Zn) (F:Hp) (σ:St) (H:Hp) (env:En) (P:Bool->En->Prop) (Q:Bool->Hp->Prop),lT (md ob X) Z F σ H env->f env P ->
  (∀b bY F' H',P b bY->dO F F'->lT (md ob X) Z F' σ H' bY->Q b H')->t σ H Q
structure CC(ob:xV)(X:Cx)(es:List Expr)(f:WA):Prop where
 ex:∃t:TA,PA X es t/\∀(Z:Zn) (F:Hp) (σ:St) (H:Hp) (env:En) (P:List PV->En->Prop) (Q:List V->Hp->Prop),lT (md ob X) Z F σ H env->f env P ->
  (∀xs bY vs F' H',P xs bY->xs.length=es.length->dO F F'->lT (md ob X) Z F' σ H' bY->iF X.K F' vs xs->Q vs H')->t σ H Q
def eC(x:PV):WE:=λenv P=>P x env
def eV(i:Nat):WE:=λenv P=>match env[i]? with
 |some (some ⟨0,x⟩)=>P x env
 |some (some ⟨1,.lst xs⟩)=>P (.lst xs) (env.set i (some ⟨0,.lst xs⟩))
 |some (some ⟨1,.xv xs⟩)=>P (.xv xs) (env.set i (some ⟨0,.xv xs⟩))
 |_=>False
def yi(i:Nat):WE:=λenv P=>match env[i]? with
 |some (some ⟨0,x⟩)=>P x env
 |some (some ⟨1,x⟩)=>P x env
 |some (some ⟨3,x⟩)=>P x env
 |_=>False
variable{α:Type}
def opt(o:Option α)(P:α->Prop):Prop:=∃z,o=some z/\P z
theorem zB{z:α}{P:α->Prop}:opt (some z) P↔P z:=⟨λ⟨_,e,h⟩=>by cases e;exact h,λh=>⟨z,rfl,h⟩⟩
def iD:WA:=λenv P=>P [] env
def aS(a:WE)(r:WA):WA:=λenv P=>a env λx e1=>r e1 λxs e2=>P (x::xs) e2
def yN(a:WA):WE:=λenv P=>a env λxs e=>P (.tup xs) e
def zx(a:WA):WE:=λenv P=>a env λxs e=>P (.lst xs) e
def wO(g:PV->PV->Option PV)(a b:WE):WE:=λenv P=>a env λx e1=>b e1 λy e2=>opt (g x y) λz=>P z e2
def LB(g:PV->Option PV)(a:WE):WE:=λenv P=>a env λx e1=>opt (g x) λz=>P z e1
def Cm(g:PV->PV->Option PV)(i:Nat)(b:WE):WE:=λenv P=>(env[i]?).join.isSome=true/\b env λy e2=>yi i e2 λx _=>opt (g x y) λz=>P z e2
def xo(a:WE):WT:=λenv P=>a env λx e=>opt (match x with|.bl b=>some b|_=>none) λb=>P b e
def DK(a b:WT):WT:=λenv P=>a env λx e=>if x=true then b e P else P false e
def IA(a b:WT):WT:=λenv P=>a env λx e=>if x=true then P true e else b e P
def Eo(a:WT):WT:=λenv P=>a env λx e=>P (!x) e
def Pe(c:WT)(a b:WE):WE:=λenv P=>c env λx e=>if x=true then a e P else b e P
variable{ob:xV}{X:Cx}{e a b c:Expr}{es:List Expr}{pos:Pos}{f g h:WE}
theorem wV(he:xu ob X e f):Bd ob X e f:=by
 obtain⟨t,ht,h⟩:=he.ex
 exact⟨t,ht,λZ F σ H env P Q K hf k=>h Z F σ H env P Q K hf λx bY v F' H' p s K' r=>k x bY v F' H' p s K' (.inl r)⟩
theorem zj(he:C8 ob X e f):xu ob X e f:=by
 obtain⟨t,ht,h⟩:=he.ex
 refine⟨t,ht,λZ F σ H env P Q K hf k=>h Z F σ H env P Q K hf λx bY v F' H' p s hx K'=>?_⟩
 obtain⟨F2,s2,K2,r⟩:=K'.FQ hx
 exact k x bY v F2 H' p (ai s s2) K2 r
theorem fo(hp:PE X e (tC v))(hr:∀F,Rep X.K F v x):xu ob X e (eC x) :=
 ⟨_,hp,λZ F σ H env P Q K hf k=>k x env v F H hf aj K (hr F)⟩
theorem ak{i j}:xu ob X (.Constant (.int i) j pos) (eC (.int i)):=fo aB λ_=>.int i
theorem jb{i j}:xu ob X (.Constant (.bool i) j pos) (eC (.bl i)):=fo wC λ_=>.bl i
theorem qw{j}:xu ob X (.Constant .none j pos) (eC .nE):=fo u5 λ_=>.nE
theorem vR{i j}:xu ob X (.Constant (.str i) j pos) (eC (.str i)):=fo uZ λ_=>.str i
theorem vQ(i:Nat){x:Str}(hp:PE X (.Name x pos) (xx i)):xu ob X (.Name x pos) (eV i):=by
 refine⟨_,hp,λZ F σ H env P Q K hf k=>?_⟩
 unfold eV at hf
 split at hf
 .rename_i y hy
  obtain⟨v,hv,r⟩:=K.val hy
  exact⟨v,hv,k _ _ v F H hf aj K r⟩
 .rename_i y hy
  obtain⟨F',v,hv,s,K',r⟩:=K.freeze hy (λ_=>by simp)
  exact⟨v,hv,k _ _ v F' H hf s K' r⟩
 .rename_i y hy
  obtain⟨F',v,hv,s,K',r⟩:=K.freeze hy (λ_=>by simp)
  exact⟨v,hv,k _ _ v F' H hf s K' r⟩
 .exact hf.elim
theorem um(i:Nat){x:Str}(hp:PE X (.Name x pos) (xx i)):Bd ob X (.Name x pos) (yi i):=by
 refine⟨_,hp,λZ F σ H env P Q K hf k=>?_⟩
 unfold yi at hf
 split at hf
 .rename_i y hy
  obtain⟨v,hv,r⟩:=K.vw hy (by simp)
  exact⟨v,hv,k _ _ v F H hf aj K r⟩
 .rename_i y hy
  obtain⟨v,hv,r⟩:=K.vw hy (by simp)
  exact⟨v,hv,k _ _ v F H hf aj K r⟩
 .rename_i y hy
  obtain⟨v,hv,r⟩:=K.vw hy (by simp)
  exact⟨v,hv,k _ _ v F H hf aj K r⟩
 .exact hf.elim
theorem ah:CC ob X [] iD:=⟨_,aV,λZ F σ H env P Q K hf k=>k [] env [] F H hf rfl aj K .nil⟩
variable{fa:WA}
theorem ab(he:xu ob X e f)(hr:CC ob X es fa)(hs:aam (e::es) X.env=(false,eval e X.env)::aam es X.env:=by rfl):CC ob X (e::es) (aS f fa):=by
 obtain⟨t,ht,h⟩:=he.ex
 obtain⟨u,hu,g⟩:=hr.ex
 refine⟨_,aP ht hu hs,λZ F σ H env P Q K hf k=>?_⟩
 refine h Z F σ H env _ _ K hf λx e1 v F1 H1 p s1 K1 r1=>?_
 refine g Z F1 σ H1 e1 _ _ K1 p λxs e2 vs F2 H2 p2 hl s2 K2 r2=>?_
 exact k (x::xs) e2 (v::vs) F2 H2 p2 (by simp[hl]) (ai s1 s2) K2 (.cons (r1.mono s2) r2)
theorem aW{x1}(ha:CC ob X es fa)(hn:es.length<=1000:=by decide):xu ob X (.Tuple es x1 pos) (yN fa):=by
 obtain⟨t,ht,h⟩:=ha.ex
 refine⟨_,uY ht,λZ F σ H env P Q K hf k=>?_⟩
 refine h Z F σ H env _ _ K hf λxs e1 vs F1 H1 p hl s1 K1 r1=>⟨?_,λq hq=>?_⟩
 .rw[r1.len,hl,aaA];omega
 .have hF:F1 q=none:=dO.none_of K1.sF hq
  exact k _ e1 _ _ _ p (ai s1 (ay hF)) (K1.lay hq) (.tup (.inl (.inl ag)) (r1.mono (ay hF)))
theorem bz(ha:CC ob X es fa)(hn:es.length<=1000:=by decide):C8 ob X (.List es pos) (zx fa):=by
 obtain⟨t,ht,h⟩:=ha.ex
 refine⟨_,fJ ht,λZ F σ H env P Q K hf k=>?_⟩
 refine h Z F σ H env _ _ K hf λxs e1 vs F1 H1 p hl s1 K1 r1=>⟨?_,λq hq=>?_⟩
 .rw[r1.len,hl,aaA];omega
 .exact k _ e1 _ _ _ p s1 (λ_=>by simp) (K1.own hq ⟨vs,ag,r1⟩)
def Bo(ob:xV)(X:Cx)(r:R2)(g:PV->PV->Option PV):Prop :=
 ∀(Z:Zn) (F:Hp) (σ:St) (H:Hp) (env:En) (v u:V) (x y z:PV) (Q:VK),lT (md ob X) Z F σ H env->Vw (md ob X) F H v x->Vw (md ob X) F H u y->g x y=some z ->
  (∀v' F' H',dO F F'->lT (md ob X) Z F' σ H' env->Rep X.K F' v' z->Q v' H')->r v u H Q
def KD(ob:xV)(X:Cx)(r:R2)(g:PV->PV->Option PV):Prop :=
 ∀(Z:Zn) (F:Hp) (σ:St) (H:Hp) (env:En) (v u:V) (x y z:PV) (Q:VK),lT (md ob X) Z F σ H env->Rep X.K F v x->Vw (md ob X) F H u y->g x y=some z ->
  (∀v' F' H',dO F F'->lT (md ob X) Z F' σ H' env->Rep X.K F' v' z->Q v' H')->r v u H Q
variable{r:R2}
theorem KU{o:PV->PV->Option PV}(h:Bo ob X r o):KD ob X r o:=λZ F σ H env v u x y z Q K rx ry=>h Z F σ H env v u x y z Q K (.inl rx) ry
theorem gb{o:PV->PV->Option PV}{ta tb:TE}(hq:KD ob X r o)
  (ha:∀(Z:Zn) (F:Hp) (σ:St) (H:Hp) (env:En) (P:PV->En->Prop) (Q:VK),lT (md ob X) Z F σ H env->f env P->(∀x bY v F' H',P x bY->dO F F'->lT (md ob X) Z F' σ H' bY->Rep X.K F' v x->Q v H')->ta σ H Q)
  (hb:∀(Z:Zn) (F:Hp) (σ:St) (H:Hp) (env:En) (P:PV->En->Prop) (Q:VK),lT (md ob X) Z F σ H env->g env P->(∀x bY v F' H',P x bY->dO F F'->lT (md ob X) Z F' σ H' bY->Vw (md ob X) F' H' v x->Q v H')->tb σ H Q) :
  ∀(Z:Zn) (F:Hp) (σ:St) (H:Hp) (env:En) (P:PV->En->Prop) (Q:VK),lT (md ob X) Z F σ H env->wO o f g env P->(∀x bY v F' H',P x bY->dO F F'->lT (md ob X) Z F' σ H' bY->Rep X.K F' v x->Q v H')->An r ta tb σ H Q:=by
 intro Z F σ H env P Q K hf k
 refine ha Z F σ H env _ _ K hf λx e1 v F1 H1 p s1 K1 r1=>?_
 refine hb Z F1 σ H1 e1 _ _ K1 p λy e2 u F2 H2 p2 s2 K2 r2=>?_
 obtain⟨z,ez,p3⟩:=p2
 exact hq Z F2 σ H2 e2 v u x y z Q K2 (r1.mono s2) r2 ez λv' F' H' s3 K3 r3=>k z e2 v' F' H' p3 (ai s1 (ai s2 s3)) K3 r3
theorem rB{o:PV->PV->Option PV}{tb:TE}(hq:Bo ob X r o)
  (hb:∀(Z:Zn) (F:Hp) (σ:St) (H:Hp) (env:En) (P:PV->En->Prop) (Q:VK),lT (md ob X) Z F σ H env->g env P->(∀x bY v F' H',P x bY->dO F F'->lT (md ob X) Z F' σ H' bY->Vw (md ob X) F' H' v x->Q v H')->tb σ H Q) :
  ∀(Z:Zn) (F:Hp) (σ:St) (H:Hp) (env:En) (P:PV->En->Prop) (Q:VK),lT (md ob X) Z F σ H env->Cm o i g env P->(∀x bY v F' H',P x bY->dO F F'->lT (md ob X) Z F' σ H' bY->Rep X.K F' v x->Q v H')->An r (xx i) tb σ H Q:=by
 intro Z F σ H env P Q K hf k
 obtain⟨hd,hf⟩:=hf
 obtain⟨v,hv⟩:∃v,σ[i]?=some (some v):=by
  cases e:env[i]? with
  |none=>rw[e]at hd;cases hd
  |some w=>
   cases w with
   |none=>rw[e]at hd;cases hd
   |some s=>
    obtain⟨fp,L⟩:=K.sl
    obtain⟨v,hv,_⟩:=L.at' i s e
    exact⟨v,hv⟩
 refine⟨v,hv,hb Z F σ H env _ _ K hf λy e2 u F2 H2 p2 s2 K2 r2=>?_⟩
 unfold yi at p2
 have fin:∀(s:Sl),(s.k≠2/\s.k≠4)->e2[i]?=some (some s)->opt (o s.v y) (λz=>P z e2)->r v u H2 Q:=λs hk hs ⟨z,ez,p3⟩=>by
  obtain⟨v',GB,rv⟩:=K2.vw hs hk
  rw[hv]at GB;cases GB
  exact hq Z F2 σ H2 e2 v u s.v y z Q K2 rv r2 ez λv' F' H' s3 K3 r3=>k z e2 v' F' H' p3 (ai s2 s3) K3 r3
 split at p2
 .rename_i hy;exact fin _ (by simp) hy p2
 .rename_i hy;exact fin _ (by simp) hy p2
 .rename_i hy;exact fin _ (by simp) hy p2
 .exact p2.elim
end Q
namespace Q
open PySem L2 PyProof.Rows
def yu(kvs:List (Key×PV))(k:Key):Option PV:=(kvs.find? λkv=>decide (kv.1=k)).map (·.2)
def zO(kvs:List (Key×PV))(k:Key)(v:PV):List (Key×PV) :=
 if (kvs.any λkv=>decide (kv.1=k))=true then kvs.map (λkv=>if kv.1=k then (kv.1,v)else kv)else kvs++[(k,v)]
def zC:PV->Option Key
 |.int i=>some (.inl i)
 |.str s=>some (.inr s)
 |_=>none
variable{K:aah}{F:Hp}
variable{k:Key}{vs:List (Key×V)}{xs:List (Key×PV)}
theorem lE.val(h:lE K F vs xs):(yP vs k=none/\yu xs k=none)\/∃v x,yP vs k=some v/\yu xs k=some x/\Rep K F v x:=by
 induction h using lE.ind with
 |nil=>exact .inl ⟨rfl,rfl⟩
 |@cons k' v x vs xs h _ ih=>
  by_cases e:k'=k
  .exact .inr ⟨v,x,eO e,by simp[yu,abK,e],h⟩
  .rw[eR (p:=(k',v)) e]
   have e2:yu ((k',x)::xs) k=yu xs k:=by simp[yu,abK,e]
   rw[e2]
   exact ih
theorem lE.any(h:lE K F vs xs):(vs.any λkv=>decide (kv.1=k))=xs.any λkv=>decide (kv.1=k):=by
 induction h using lE.ind with
 |nil=>rfl
 |cons _ _ ih=>exact congrArg (_ || ·) ih
theorem lE.app{ws:List (Key×V)}{ys:List (Key×PV)}(h:lE K F vs xs)(k:lE K F ws ys):lE K F (vs++ws) (xs++ys):=by
 induction h using lE.ind with
 |nil=>exact k
 |cons a _ ih=>exact .cons a ih
variable{v:V}{x:PV}
theorem lE.Hu(hv:Rep K F v x)(h:lE K F vs xs):lE K F (vs.map λkv=>if kv.1=k then (kv.1,v)else kv) (xs.map λkv=>if kv.1=k then (kv.1,x)else kv):=by
 induction h using lE.ind with
 |nil=>exact .nil
 |@cons k' v' x' vs xs a _ ih=>
  rw[aas,aas]
  dsimp only
  by_cases e:k'=k
  .rw[if_pos e,if_pos e];exact .cons hv ih
  .rw[if_neg e,if_neg e];exact .cons a ih
theorem lE.put(h:lE K F vs xs)(hv:Rep K F v x):lE K F (putK vs k v) (zO xs k x):=by
 unfold putK zO
 rw[h.any]
 split
 .exact h.Hu hv
 .exact h.app (.cons hv .nil)
theorem eh(h:zC x=some k)(r:Rep K F v x):v=kV k:=by
 cases r<;>cases h<;>rfl
def iN:PV->PV->Option PV
 |.tup xs,.int i=>C1 xs i
 |.lst xs,.int i=>C1 xs i
 |.str s,.int i=>if s.length<=100000 then (C1 s.cps.toList i).map λc=>.str ⟨#[c]⟩else none
 |.xv kvs,y=>(zC y).bind (yu kvs)
 |_,_=>none
def Jx:R2:=λx y H Q=>∃a v,x=.ref a/\Ct H a y (some v)/\Q v H
variable{ob:xV}{X:Cx}{a b c e:Expr}{f g h:WE}{pos:Pos}
theorem ud(hu:X.A.units+1<cLine):E7 X Jx:=by
 intro value slice pins s σ H x y v u Q I rx ry h hs
 obtain⟨a,z,rfl,g,q⟩:=h
 cases rx
 exact tail_any (gQ I g) PySem.F.slot_dict_getitem.lookup (kH hu I g ry λw' s3 I3 AA=>⟨z,H,I3,AA,q⟩) hs
def Jy(K:aah):R2:=λx y H Q=>Ol K x y H Q\/Jx x y H Q
theorem qf(hu:X.A.units+1<cLine):E7 X (Jy X.K):=HA.or (ud hu)
theorem n4{vs:List V}{xs:List PV}{i:Int}{z:PV}(r:iF K F vs xs)(h:C1 xs i=some z):∃v,C1 vs i=some v/\Rep K F v z:=by
 unfold C1 at h⊢
 rw[r.len]
 cases e:D9 xs.length i with
 |none=>rw[e]at h;cases h
 |some j=>
  rw[e]at h
  exact r.get h
variable{M:Md}{H:Hp}
theorem Ge(h:Vw M F H v x)(hk:zC x=some k):v=kV k:=by
 cases x<;>try cases hk
 .exact h.int
 .exact h.str
theorem EF:Bo ob X (Jy X.K) iN:=by
 intro Z F σ H env v u x y z Q K rx ry hz k
 unfold iN at hz
 split at hz
 .obtain⟨p,vs,rfl,h1,h2⟩:=rx.tup K.sF
  rw[ry.int]
  obtain⟨w,e1,e2⟩:=n4 h2 hz
  exact .inl (.inr (.inl ⟨p,vs,_,w,rfl,rfl,h1,e1,k w F H aj K e2⟩))
 .obtain⟨p,vs,rfl,h1,h2⟩:=rx.lst K.sF
  rw[ry.int]
  obtain⟨w,e1,e2⟩:=n4 h2 hz
  exact .inl (.inl ⟨p,vs,_,w,rfl,rfl,.inl (.inl h1),e1,k w F H aj K e2⟩)
 .rename_i s i
  split at hz
  .rename_i hl
   rw[rx.str,ry.int]
   cases e:C1 s.cps.toList i with
   |none=>rw[e]at hz;cases hz
   |some c=>
    rw[e]at hz;cases hz
    exact .inl (.inr (.inr ⟨s,i,c,rfl,rfl,by rw[aaA];omega,e,k _ F H aj K (.str _)⟩))
  .cases hz
 .rename_i kvs
  obtain⟨p,vs,rfl,h1,h2⟩:=rx.xv K.sF
  cases e:zC y with
  |none=>rw[e]at hz;cases hz
  |some kk=>
   rw[e]at hz
   have hz:yu kvs kk=some z:=hz
   rw[Ge ry e]
   rcases h2.val (k:=kk)with ⟨_,e2⟩|⟨w,w',e1,e2,e3⟩
   .rw[e2]at hz;cases hz
   .rw[e2]at hz;cases hz
    refine .inr ⟨p,w,rfl,?_,k w F H aj K e3⟩
    rw[<- e1];exact MK h1
 .cases hz
theorem wH(hu:X.A.units+1<cLine)(ha:xu ob X a f)(hb:Bd ob X b g)(hs:eM b:=by exact λ_ _=>rfl):xu ob X (.Subscript a b pos) (wO iN f g):=by
 obtain⟨ta,ha,ka⟩:=ha.ex
 obtain⟨tb,hb,kb⟩:=hb.ex
 exact⟨_,br (qf hu) ha hb hs,gb (KU EF) ka kb⟩
variable{p:Pos}
theorem vX(i:Nat){x:Str}(hu:X.A.units+1<cLine)(ha:PE X (.Name x p) (xx i))(hb:Bd ob X b g)(hs:eM b:=by exact λ_ _=>rfl):xu ob X (.Subscript (.Name x p) b pos) (Cm iN i g):=by
 obtain⟨tb,hb,kb⟩:=hb.ex
 exact⟨_,br (qf hu) ha hb hs,rB EF kb⟩
variable{r:R2}
theorem ya.or{fn:Value->Value->Sem Value}{r':R2}(h:ya X fn r)(h':ya X fn r'):ya X fn (λx y H Q=>r x y H Q\/r' x y H Q):=by
 intro pins s σ H x y v u Q I rx ry q
 rcases q with q|q
 .exact h pins s σ H x y v u Q I rx ry q
 .exact h' pins s σ H x y v u Q I rx ry q
def xc:PV->PV->Option PV
 |.int i,.int j=>some (.int (i+j))
 |.str s,.str t=>if s.length+t.length<=100000 then some (.str (s++t))else none
 |.tup xs,.tup ys=>if xs.length+ys.length<=100000 then some (.tup (xs++ys))else none
 |.lst xs,.lst ys=>if xs.length+ys.length<=100000 then some (.lst (xs++ys))else none
 |_,_=>none
theorem Vw.CH{xs:List PV}(h:Vw M F H v (.tup xs)):Rep M.K F v (.tup xs):=by
 rcases h with h|⟨a,rfl,h⟩
 .exact h
 .exact h.elim
def Gr(K:aah):R2:=λx y H Q=>((D8 λi j=>.int (i+j)) x y H Q\/∃i j,x=.str i/\y=.str j/\i.length+j.length<=sizeLine/\Q (.str (i++j)) H)\/(Gq K x y H Q\/JB x y H Q)
theorem tP:ya X (acb .Add) (Gr X.K):=ya.or (ya.or fL oC) (ya.or tM vh)
theorem tI:Bo ob X (Gr X.K) xc:=by
 intro Z F σ H env v u x y z Q K rx ry hz k
 unfold xc at hz
 split at hz
 .cases hz
  rw[rx.int,ry.int]
  exact .inl (.inl ⟨_,_,rfl,rfl,k _ F H aj K (.int _)⟩)
 .split at hz
  .cases hz
   rw[rx.str,ry.str]
   exact .inl (.inr ⟨_,_,rfl,rfl,by rw[aaA];omega,k _ F H aj K (.str _)⟩)
  .cases hz
 .rename_i xs ys
  split at hz
  .cases hz
   obtain⟨p,vs,rfl,h1,h2⟩:=rx.tup K.sF
   obtain⟨q,ws,rfl,g1,g2⟩:=ry.tup K.sF
   have hl:=h2.len
   have gl:=g2.len
   refine .inr (.inl ⟨p,q,vs,ws,rfl,rfl,h1,g1,by rw[aaA];omega,?_⟩)
   refine⟨λe=>k _ F H aj K ?_,λe=>k _ F H aj K ?_,λr hr=>?_⟩
   .subst e
    have:xs=[]:=List.length_eq_zero_iff.mp hl.symm
    subst this
    exact ry.CH
   .subst e
    have:ys=[]:=List.length_eq_zero_iff.mp gl.symm
    subst this
    rw[abh]
    exact rx.CH
   .have hF:F r=none:=dO.none_of K.sF hr
    exact k _ _ _ (ay hF) (K.lay hr) (.tup (.inl (.inl ag)) ((h2.app g2).mono (ay hF)))
  .cases hz
 .rename_i xs ys
  split at hz
  .cases hz
   obtain⟨p,vs,rfl,h1,h2⟩:=rx.lst K.sF
   obtain⟨q,ws,rfl,g1,g2⟩:=ry.lst K.sF
   have hl:=h2.len
   have gl:=g2.len
   refine .inr (.inr ⟨p,q,vs,ws,rfl,rfl,h1,g1,by rw[aaA];omega,λr hr=>?_⟩)
   have hF:F r=none:=dO.none_of K.sF hr
   exact k _ _ _ (ay hF) (K.lay hr) (.lst ag ((h2.app g2).mono (ay hF)))
  .cases hz
 .cases hz
variable{o:PV->PV->Option PV}
theorem eD{op:Operator}(hr:ya X (acb op) r)(hq:Bo ob X r o)(ha:xu ob X a f)(hb:Bd ob X b g):xu ob X (.BinOp a op b pos) (wO o f g):=by
 obtain⟨ta,ha,ka⟩:=ha.ex
 obtain⟨tb,hb,kb⟩:=hb.ex
 exact⟨_,bc hr ha hb,gb (KU hq) ka kb⟩
theorem aJ(ha:xu ob X a f)(hb:Bd ob X b g):xu ob X (.BinOp a .Add b pos) (wO xc f g):=eD tP tI ha hb
def iI(C:Int->Int->Bool)(h:Int->Int->Int):PV->PV->Option PV
 |.int i,.int j=>if C i j=true then some (.int (h i j))else none
 |_,_=>none
theorem gc{C:Int->Int->Bool}{D:Int->Int->Prop}{h:Int->Int->Int}(hC:∀i j,C i j=true->D i j):Bo ob X (rI D λi j=>.int (h i j)) (iI C h):=by
 intro Z F σ H env v u x y z Q K rx ry hz k
 unfold iI at hz
 split at hz
 .split at hz
  .rename_i hc
   cases hz
   rw[rx.int,ry.int]
   exact⟨_,_,rfl,rfl,hC _ _ hc,k _ F H aj K (.int _)⟩
  .cases hz
 .cases hz
def zb:=iI (λ_ _=>true) λi j=>i - j
def Il(i j:Int):Bool:=(decide (-(2 ^ 64)<i) && decide (i<2 ^ 64)) || (decide (-(2 ^ 64)<j) && decide (j<2 ^ 64))
def yz:PV->PV->Option PV
 |.int i,.int j=>if Il i j=true then some (.int (i*j))else none
 |.str s,.int i=>if 0<=i/\i<=1000/\s.length<=1000 then some (.str (Ap s i.toNat))else none
 |.lst xs,.int i=>if -1000<=i/\i<=1000/\xs.length<=1000 then some (.lst (aaG i.toNat xs).flatten)else none
 |_,_=>none
def Ac:=iI (λ_ j=>decide (0<j)) λi j=>i % j
def Dz:=iI (λ_ j=>decide (0<j) && decide (j<1073741824)) λi j=>i / j
def Aa:=iI (λi j=>decide (0<=j) && decide (j<=1000000) && decide (i.natAbs<2 ^ 64)) λi j=>i ^ j.toNat
theorem tJ:ya X (acb .Sub) (rI (λ_ _=>True) λi j=>.int (i - j)):=by
 intro pins s σ H x y v u Q I rx ry h
 obtain⟨i,j,e1,e2,_,q⟩:=h
 exact vd pins s σ H x y v u Q I rx ry ⟨i,j,e1,e2,q⟩
theorem cF(ha:xu ob X a f)(hb:Bd ob X b g):xu ob X (.BinOp a .Sub b pos) (wO zb f g):=eD tJ (gc λ_ _ _=>trivial) ha hb
theorem eB(ha:xu ob X a f)(hb:Bd ob X b g):xu ob X (.BinOp a .Mod b pos) (wO Ac f g):=eD da (gc λ_ _ h=>of_decide_eq_true h) ha hb
theorem qx(ha:xu ob X a f)(hb:Bd ob X b g):xu ob X (.BinOp a .FloorDiv b pos) (wO Dz f g):=eD jH (gc λ_ _ h=>by simp at h;exact h) ha hb
theorem ja(ha:xu ob X a f)(hb:Bd ob X b g):xu ob X (.BinOp a .Pow b pos) (wO Aa f g):=eD lI (gc λ_ _ h=>by simp at h;exact⟨h.1.1,h.1.2,h.2⟩) ha hb
theorem iF.rep{vs:List V}{xs:List PV}(r:iF K F vs xs):∀n:Nat,iF K F (aaG n vs).flatten (aaG n xs).flatten
 |0=>.nil
 |n+1=>by
  rw[abo,abo,abQ,abQ]
  exact r.app (r.rep n)
theorem tH:Bo ob X (λx y H Q=>(rI D5 λi j=>.int (i*j)) x y H Q\/(Gn x y H Q\/Jr x y H Q)) yz:=by
 intro Z F σ H env v u x y z Q K rx ry hz k
 unfold yz at hz
 split at hz
 .split at hz
  .rename_i hc
   cases hz
   rw[rx.int,ry.int]
   refine .inl ⟨_,_,rfl,rfl,?_,k _ F H aj K (.int _)⟩
   unfold Il at hc
   simp at hc
   exact hc
  .cases hz
 .split at hz
  .rename_i hc
   cases hz
   rw[rx.str,ry.int]
   exact .inr (.inl ⟨_,_,rfl,rfl,hc.1,hc.2.1,hc.2.2,k _ F H aj K (.str _)⟩)
  .cases hz
 .rename_i xs i
  split at hz
  .rename_i hc
   cases hz
   obtain⟨p,vs,rfl,h1,h2⟩:=rx.lst K.sF
   rw[ry.int]
   have hl:=h2.len
   refine .inr (.inr ⟨p,i,vs,rfl,rfl,h1,by omega,by omega,?_,λr hr=>?_⟩)
   .rw[aaA]
    have h3:i.toNat<=1000:=by omega
    have h4:vs.length<=1000:=by omega
    calc vs.length*i.toNat<=1000*1000:=Nat.mul_le_mul h4 h3
     _<=16777216:=by decide
   .have hF:F r=none:=dO.none_of K.sF hr
    exact k _ _ _ (ay hF) (K.lay hr) (.lst ag ((h2.rep _).mono (ay hF)))
  .cases hz
 .cases hz
theorem dh(ha:xu ob X a f)(hb:Bd ob X b g):xu ob X (.BinOp a .Mult b pos) (wO yz f g):=eD (ya.or iR (ya.or tL ve)) tH ha hb
def Dn:PV->Option PV
 |.int i=>some (.int (-i))
 |_=>none
theorem vU(ha:Bd ob X a f):xu ob X (.UnaryOp .USub a pos) (LB Dn f):=by
 obtain⟨ta,ha,ka⟩:=ha.ex
 refine⟨_,wA uM ha,λZ F σ H env P Q K hf k=>ka Z F σ H env _ _ K hf λx e1 v F1 H1 p s1 K1 r1=>?_⟩
 obtain⟨z,hz,p⟩:=p
 unfold Dn at hz
 split at hz
 .cases hz
  rw[r1.int]
  exact⟨_,rfl,k _ e1 _ F1 H1 p s1 K1 (.int _)⟩
 .cases hz
variable{op:CmpOp}
theorem vZ(hr:ya X (abb op) r)(hq:Bo ob X r o)(ha:xu ob X a f)(hb:Bd ob X b g)(hm:acu op b=false):xu ob X (.Compare a [op] [b] pos) (wO o f g):=by
 obtain⟨ta,ha,ka⟩:=ha.ex
 obtain⟨tb,hb,kb⟩:=hb.ex
 exact⟨_,ng hr ha hb hm,gb (KU hq) ka kb⟩
theorem wf{o:PV->PV->Option PV}(he:∃t,PE X (.Compare a [op] [b] pos) t/\PT X (.Compare a [op] [b] pos) (El t)/\∀(Z:Zn) (F:Hp) (σ:L2.St) (H:Hp) (env:En) (P:PV->En->Prop) (Q:VK),lT (md ob X) Z F σ H env->f env P->(∀x bY v F' H',P x bY->dO F F'->lT (md ob X) Z F' σ H' bY->Rep X.K F' v x->Q v H')->t σ H Q):C7 ob X (.Compare a [op] [b] pos) (xo f):=by
 obtain⟨t,_,ht,h⟩:=he
 refine⟨_,ht,λZ F σ H env P Q K hf k=>h Z F σ H env _ _ K hf λx e1 v F1 H1 p s1 K1 r1=>?_⟩
 obtain⟨z,hz,p⟩:=p
 cases x<;>try (cases hz)
 cases r1
 exact⟨_,rfl,k _ e1 F1 H1 p s1 K1⟩
theorem ut(hr:ya X (abb op) r)(hq:Bo ob X r o)(ha:xu ob X a f)(hb:Bd ob X b g)(hm:acu op b=false):C7 ob X (.Compare a [op] [b] pos) (xo (wO o f g)):=by
 obtain⟨ta,ha,ka⟩:=ha.ex
 obtain⟨tb,hb,kb⟩:=hb.ex
 exact wf (o:=o) ⟨_,ng hr ha hb hm,dW hr ha hb hm,gb (KU hq) ka kb⟩
theorem bt{P:V->V->Hp->V->Prop}(h:∀(F H:Hp) (v u:V) (x y z:PV),dO F H->Vw (md ob X) F H v x->Vw (md ob X) F H u y->o x y=some z->∃w,(∀F,Rep X.K F w z)/\∀Q:VK,Q w H->r v u H Q):Bo ob X r o:=by
 intro Z F σ H env v u x y z Q K rx ry hz k
 obtain⟨w,h1,h2⟩:=h F H v u x y z K.sF rx ry hz
 exact h2 Q (k w F H aj K (h1 F))
def EK:PV->PV->Option PV
 |.int i,.int j=>some (.bl (decide (i<j)))
 |.str s,.str t=>some (.bl (decide (xq s t)))
 |_,_=>none
def MD:PV->PV->Option PV
 |.int i,.int j=>some (.bl (decide (i<=j)))
 |.str s,.str t=>some (.bl (!decide (xq t s)))
 |_,_=>none
def FO:PV->PV->Option PV
 |.int i,.int j=>some (.bl (decide (j<i)))
 |_,_=>none
theorem pP:Bo ob X (λx y H Q=>(D8 λi j=>.bl (decide (i<j))) x y H Q\/∃i j,x=.str i/\y=.str j/\Q (.bl (decide (i.cps.toList<j.cps.toList))) H) EK:=by
 refine bt (P:=λ_ _ _ _=>True) λF H v u x y z sF rx ry hz=>?_
 unfold EK at hz
 split at hz
 .cases hz
  rw[rx.int,ry.int]
  exact⟨_,λ_=>.bl _,λQ q=>.inl ⟨_,_,rfl,rfl,q⟩⟩
 .cases hz
  rw[rx.str,ry.str]
  exact⟨_,λ_=>.bl _,λQ q=>.inr ⟨_,_,rfl,rfl,q⟩⟩
 .cases hz
theorem vc:Bo ob X (D8 λi j=>.bl (decide (j<i))) FO:=by
 refine bt (P:=λ_ _ _ _=>True) λF H v u x y z sF rx ry hz=>?_
 unfold FO at hz
 split at hz
 .cases hz
  rw[rx.int,ry.int]
  exact⟨_,λ_=>.bl _,λQ q=>⟨_,_,rfl,rfl,q⟩⟩
 .cases hz
theorem sA:ya X (abb .Lt) (λx y H Q=>(D8 λi j=>.bl (decide (i<j))) x y H Q\/∃i j,x=.str i/\y=.str j/\Q (.bl (decide (i.cps.toList<j.cps.toList))) H):=ya.or wD pR
def Ej:PV->Option Bool
 |.nE=>some false
 |.bl b=>some b
 |.int i=>some (i != 0)
 |.str s=>if s.length<=100000 then some ((s.length:Int) != 0)else none
 |.tup xs=>some (!xs.isEmpty)
 |.lst xs=>some (!xs.isEmpty)
 |.xv xs=>some (!xs.isEmpty)
 |_=>none
def DH(a:WE):WT:=λenv P=>a env λx e=>opt (Ej x) λb=>P b e
theorem jc(he:Bd ob X e f)(h:∀whole,isTrue e X.env whole=(do let v <- whole;standAt e.pos;adg [v] (truthy v)):=by intro _;rfl):C7 ob X e (DH f):=by
 obtain⟨t,ht,k0⟩:=he.ex
 refine⟨_,qY ht h,λZ F σ H env P Q K hf k=>k0 Z F σ H env _ _ K hf λx e1 v F1 H1 p s1 K1 r1=>?_⟩
 obtain⟨z,hz,p⟩:=p
 refine⟨z,?_,k _ e1 F1 H1 p s1 K1⟩
 have NP:∀{α β:Type} {l:List α} {m:List β},l.length=m.length->l.isEmpty=m.isEmpty:=λ{α β l m} h=>by
  cases l<;>cases m<;>simp at h⊢
 cases x<;>simp only[Ej]at hz
 .cases hz;rw[r1.nE];rfl
 .cases hz;rw[r1.bl];rfl
 .cases hz;rw[r1.int];rfl
 .split at hz
  .cases hz;rw[r1.str];exact⟨by rw[aaA];omega,rfl⟩
  .cases hz
 .cases hz
  obtain⟨p,vs,rfl,h1,h2⟩:=r1.tup K1.sF
  exact .inr (.inl ⟨vs,h1,by rw[NP h2.len]⟩)
 .cases hz
  obtain⟨p,vs,rfl,h1,h2⟩:=r1.lst K1.sF
  exact .inl ⟨vs,.inl (.inl h1),by rw[NP h2.len]⟩
 .cases hz
  obtain⟨p,vs,rfl,h1,h2⟩:=r1.xv K1.sF
  exact .inr (.inr ⟨vs,h1,by rw[NP h2.len]⟩)
 .cases hz
 .cases hz
variable{t u:WT}{rest:List Expr}
theorem sh(h:Ir ob X e t):C7 ob X e t:=by
 obtain⟨w,hw,k⟩:=h.ex
 exact⟨w,hw.pt,k⟩
theorem nK(h:C7 ob X a t):Ir ob X (.BoolOp .And [a] pos) t:=by
 obtain⟨w,hw,k⟩:=h.ex
 exact⟨w,pw_and1 hw,k⟩
theorem wg(h:C7 ob X a t):Ir ob X (.BoolOp .Or [a] pos) t:=by
 obtain⟨w,hw,k⟩:=h.ex
 exact⟨w,pw_or1 hw,k⟩
theorem qy(h:C7 ob X a t)(h2:Ir ob X (.BoolOp .And (b::rest) pos) u):Ir ob X (.BoolOp .And (a::b::rest) pos) (DK t u):=by
 obtain⟨w,hw,k⟩:=h.ex
 obtain⟨w2,MR,k2⟩:=h2.ex
 refine⟨_,pw_and hw MR,λZ F σ H env P Q K hf kk=>k Z F σ H env _ _ K hf λx e1 F1 H1 p s1 K1=>?_⟩
 cases x with
 |true=>exact AV (k2 Z F1 σ H1 e1 P Q K1 p λx e2 F2 H2 p2 s2 K2=>kk x e2 F2 H2 p2 (ai s1 s2) K2)
 |false=>exact Ar (kk _ e1 F1 H1 p s1 K1)
theorem sI(h:C7 ob X a t)(h2:Ir ob X (.BoolOp .Or (b::rest) pos) u):Ir ob X (.BoolOp .Or (a::b::rest) pos) (IA t u):=by
 obtain⟨w,hw,k⟩:=h.ex
 obtain⟨w2,MR,k2⟩:=h2.ex
 refine⟨_,pw_or hw MR,λZ F σ H env P Q K hf kk=>k Z F σ H env _ _ K hf λx e1 F1 H1 p s1 K1=>?_⟩
 cases x with
 |true=>exact AV (kk _ e1 F1 H1 p s1 K1)
 |false=>exact Ar (k2 Z F1 σ H1 e1 P Q K1 p λx e2 F2 H2 p2 s2 K2=>kk x e2 F2 H2 p2 (ai s1 s2) K2)
theorem we(h:C7 ob X a t):C7 ob X (.UnaryOp .Not a pos) (Eo t):=by
 obtain⟨w,hw,k⟩:=h.ex
 exact⟨_,uU hw,λZ F σ H env P Q K hf kk=>k Z F σ H env _ _ K hf λx e1 F1 H1 p s1 K1=>kk _ e1 F1 H1 p s1 K1⟩
theorem vY(hc:C7 ob X c t)(ha:xu ob X a f)(hb:xu ob X b g):xu ob X (.IfExp c a b pos) (Pe t f g):=by
 obtain⟨w,hw,k⟩:=hc.ex
 obtain⟨ta,ha,ka⟩:=ha.ex
 obtain⟨tb,hb,kb⟩:=hb.ex
 refine⟨_,rj hw ha hb,λZ F σ H env P Q K hf kk=>k Z F σ H env _ _ K hf λx e1 F1 H1 p s1 K1=>?_⟩
 cases x with
 |true=>exact AV (ka Z F1 σ H1 e1 P Q K1 p λx e2 v F2 H2 p2 s2 K2 r2=>kk x e2 v F2 H2 p2 (ai s1 s2) K2 r2)
 |false=>exact Ar (kb Z F1 σ H1 e1 P Q K1 p λx e2 v F2 H2 p2 s2 K2 r2=>kk x e2 v F2 H2 p2 (ai s1 s2) K2 r2)
def D0:PV->Option Bool
 |.bl b=>some b
 |_=>none
def Ij(a b:WE):WE:=λenv P=>a env λx e=>opt (D0 x) λk=>if k=true then b e P else P (.bl false) e
def RL(a b:WE):WE:=λenv P=>a env λx e=>opt (D0 x) λk=>if k=true then P (.bl true) e else b e P
def NR(a:WE):WE:=λenv P=>a env λx e=>opt (D0 x) λk=>P (.bl (!k)) e
theorem vS{op}(h:xu ob X a f):xu ob X (.BoolOp op [a] pos) f:=by
 obtain⟨t,ht,k⟩:=h.ex
 exact⟨t,u4 ht,k⟩
theorem uH{k:Bool}(r:Rep K F v x)(h:D0 x=some k):v=.bl k/\x=.bl k:=by
 cases x<;>cases h
 cases r
 exact⟨rfl,rfl⟩
theorem wc(ha:xu ob X a f)(hb:xu ob X (.BoolOp .And (b::rest) pos) g):xu ob X (.BoolOp .And (a::b::rest) pos) (Ij f g):=by
 obtain⟨ta,ha,ka⟩:=ha.ex
 obtain⟨tb,hb,kb⟩:=hb.ex
 refine⟨_,u8 ha hb,λZ F σ H env P Q K hf kk=>ka Z F σ H env _ _ K hf λx e1 v F1 H1 p s1 K1 r1=>?_⟩
 obtain⟨z,hz,p⟩:=p
 obtain⟨rfl,rfl⟩:=uH r1 hz
 refine⟨z,rfl,?_⟩
 cases z with
 |true=>exact AV (kb Z F1 σ H1 e1 P Q K1 p λx e2 v F2 H2 p2 s2 K2 r2=>kk x e2 v F2 H2 p2 (ai s1 s2) K2 r2)
 |false=>exact Ar (kk _ e1 _ F1 H1 p s1 K1 (.bl _))
def yc:Nat->PV->PV->Option Bool
 |0,_,_=>none
 |d+1,x,y=>match x,y with
  |.nE,.nE=>some true
  |.nE,.bl _=>some false
  |.nE,.int _=>some false
  |.nE,.str _=>some false
  |.bl _,.nE=>some false
  |.bl a,.bl b=>some (a==b)
  |.bl a,.int b=>some ((if a then 1 else 0)==b)
  |.bl _,.str _=>some false
  |.int _,.nE=>some false
  |.int a,.bl b=>some (a==(if b then 1 else 0))
  |.int a,.int b=>some (a==b)
  |.int _,.str _=>some false
  |.str _,.nE=>some false
  |.str _,.bl _=>some false
  |.str _,.int _=>some false
  |.str a,.str b=>some (a==b)
  |.tup xs,.tup ys=>((xs.zip ys).mapM λp=>yc d p.1 p.2).map λbs=>bs.all id && xs.length==ys.length
  |.lst xs,.lst ys=>if xs.length=ys.length then ((xs.zip ys).mapM λp=>yc d p.1 p.2).map λbs=>bs.all id else some false
  |.tup _,.lst _=>some false
  |.lst _,.tup _=>some false
  |.tup _,.nE=>some false
  |.tup _,.bl _=>some false
  |.tup _,.int _=>some false
  |.tup _,.str _=>some false
  |.nE,.tup _=>some false
  |.bl _,.tup _=>some false
  |.int _,.tup _=>some false
  |.str _,.tup _=>some false
  |.lst _,.nE=>some false
  |.lst _,.bl _=>some false
  |.lst _,.int _=>some false
  |.lst _,.str _=>some false
  |.nE,.lst _=>some false
  |.bl _,.lst _=>some false
  |.int _,.lst _=>some false
  |.str _,.lst _=>some false
  |_,_=>none
variable{α:Type}
theorem bh{β:Type}{f:α->Option β}:∀{l:List α} {m:List β},l.mapM f=some m->m.length=l.length/\∀(i:Nat) (a:α),l[i]?=some a->∃b,m[i]?=some b/\f a=some b
 |[],m,h=>by simp at h;subst h;exact⟨rfl,λi a e=>by simp at e⟩
 |a::l,m,h=>by
  rw[abq]at h
  cases ea:f a with
  |none=>rw[ea]at h;cases h
  |some b=>
   rw[ea]at h
   cases el:l.mapM f with
   |none=>rw[el]at h;cases h
   |some m'=>
    rw[el]at h
    have h:some (b::m')=some m:=h
    cases h
    obtain⟨h1,h2⟩:=bh el
    refine⟨by simp[h1],λi c e=>?_⟩
    cases i with
    |zero=>simp at e;subst e;exact⟨b,rfl,ea⟩
    |succ i=>simp at e ⊢;exact h2 i c e
theorem oR.ET:∀{xs:List V} {us:List Value} {i:Nat} {u:Value},oR xs us->us[i]?=some u->∃x,xs[i]?=some x/\RelV x u
 |_,_,_,_,.nil,e=>by simp at e
 |_,_,0,_,.cons r _,e=>by simp at e;subst e;exact⟨_,rfl,r⟩
 |_,_,i+1,x,.cons _ t,e=>by
  obtain⟨u,h1,h2⟩:=oR.ET (i:=i) (u:=x) t (by simpa using e)
  exact⟨u,by simpa using h1,h2⟩
variable{pins:List (Addr×Obj)}{σ:L2.St}{s:Shared}
variable{ws:List V}
theorem cm(I:Inv X pins σ H s){a:Addr}{vs:List V}(h1:yf X.K H a vs)(h2:yI X.K H a ws):False:=by
 obtain⟨_,_,⟨o,n,e,c,_⟩,_⟩:=I.list h1
 obtain⟨_,_,⟨o',e',c',_⟩,_⟩:=I.tuple h2
 rw[e]at e';cases e';rw[c]at c';injection c' with c';exact absurd c' (by decide)
theorem dq{e:Nat->Bool}{bs:List Bool}(h:∀j,j<bs.length->bs[j]?=some (e j)):(aaR bs.length).all e=bs.all id:=by
 rw[aaY,adW,adW]
 constructor
 .intro q b hb
  obtain⟨j,hj,rfl⟩:=List.mem_iff_getElem.mp hb
  have:=h j hj
  rw[aaa hj]at this
  have q2:=q j (List.mem_range.mpr hj)
  rw[<- aao this]at q2
  exact q2
 .intro q j hj
  have hj:=List.mem_range.mp hj
  have:=h j hj
  rw[aaa hj]at this
  rw[<- aao this]
  exact q _ (abg hj)
theorem kF(I:Inv X pins σ H s)(sF:dO F H):∀{d:Nat} {v:V} {x y:PV} {k:Bool},Rep X.K F v x->Rep X.K F v y->yc d x y=some k->k=true:=by
 intro d
 induction d with
 |zero=>intro v x y k _ _ h;cases h
 |succ d ih=>
  intro v x y k rx ry h
  have lists:∀{vs:List V} {xs ys:List PV} {bs:List Bool},iF X.K F vs xs->iF X.K F vs ys->(xs.zip ys).mapM (λp=>yc d p.1 p.2)=some bs->bs.all id=true:=λ{vs xs ys bs} r1 r2 hm=>by
   obtain⟨h1,h2⟩:=bh hm
   rw[adW]
   intro b hb
   obtain⟨j,hj,rfl⟩:=List.mem_iff_getElem.mp hb
   have Ni:j<(xs.zip ys).length:=by rw[<- h1];exact hj
   obtain⟨b',e1,e2⟩:=h2 j _ (aaa Ni)
   rw[aaa hj]at e1
   cases aao e1
   have hx:xs[j]?=some (xs.zip ys)[j].1:=by
    have:=aaa Ni
    rw[aa0]at this
    exact this.1
   have hy:ys[j]?=some (xs.zip ys)[j].2:=by
    have:=aaa Ni
    rw[aa0]at this
    exact this.2
   obtain⟨v1,q1,q2⟩:=r1.get hx
   obtain⟨v2,q3,q4⟩:=r2.get hy
   rw[q1]at q3;cases q3
   exact ih q2 q4 e2
  cases rx with
  |nE=>cases ry;cases h;rfl
  |bl b=>cases ry;cases h;simp
  |int b=>cases ry;cases h;simp
  |str b=>cases ry;cases h;simp
  |tup h1 r1=>
   cases ry with
   |tup h2 r2=>
    have:=I.zL (aw sF h1) (aw sF h2)
    subst this
    replace h:Option.map (λbs:List Bool=>bs.all id && acX _==acX _) (List.mapM (λp:PV×PV=>yc d p.1 p.2) (List.zip _ _))=some k:=h
    rw[aax]at h
    obtain⟨bs,hb,e⟩:=h
    rw[<- e,lists r1 r2 hb,<- r1.len,<- r2.len]
    simp
   |lst h2 r2=>exact(cm I (.inl (.inl (sF _ _ h2))) (aw sF h1)).elim
   |xv h2 r2=>cases h
   |y6 h2=>cases h
  |lst h1 r1=>
   cases ry with
   |tup h2 r2=>exact(cm I (.inl (.inl (sF _ _ h1))) (aw sF h2)).elim
   |lst h2 r2=>
    rw[h1]at h2;cases h2
    replace h:(if acX _=acX _ then Option.map (λbs:List Bool=>bs.all id) (List.mapM (λp:PV×PV=>yc d p.1 p.2) (List.zip _ _))else some false)=some k:=h
    rw[if_pos (by rw[<- r1.len,<- r2.len])]at h
    rw[aax]at h
    obtain⟨bs,hb,e⟩:=h
    rw[<- e,lists r1 r2 hb]
   |xv h2 r2=>cases h
   |y6 h2=>cases h
  |xv h1 r1=>cases y<;>cases h
  |y6 h1=>cases y<;>cases h
theorem Ie(I:Inv X pins σ H s)(sF:dO F H):∀{d:Nat} {A:Around} {v u:V} {x y:PV} {a b:Value} {k:Bool},A.units+d<cLine->Rep X.K F v x->Rep X.K F u y->RelV v a->RelV u b->yc d x y=some k->SeqAt.RcAt A s a b k/\SeqAt.EqAt A s a b k:=by
 intro d
 induction d with
 |zero=>intro A v u x y a b k _ _ _ _ _ h;cases h
 |succ d ih=>
  intro A v u x y a b k hu rx ry ra rb h
  have yF:A.units<cLine:=by omega
  cases rx with
  |nE=>
   cases ra
   cases ry with
   |nE=>cases rb;cases h;exact⟨SeqAt.RcAt.none_none,aff _⟩
   |bl b=>cases rb;cases h;exact⟨SeqAt.RcAt.none_bool b,SeqAt.EqAt.none_bool b⟩
   |int b=>obtain⟨t,rfl⟩:=rb;cases h;exact⟨SeqAt.RcAt.none_int b t,SeqAt.EqAt.none_int b t⟩
   |str b=>obtain⟨t,rfl⟩:=rb;cases h;exact⟨SeqAt.RcAt.none_str b t,SeqAt.EqAt.none_str b t⟩
   |tup h1 r1=>
    cases rb;cases h
    obtain⟨gE,_,p,_⟩:=I.tuple (aw sF h1)
    exact⟨SeqAt.RcAt.none_tuple p yF,SeqAt.EqAt.none_tuple p yF⟩
   |lst h1 r1=>
    cases rb;cases h
    obtain⟨gE,_,p,_⟩:=I.list (.inl (.inl (sF _ _ h1)))
    exact⟨SeqAt.RcAt.none_list p.isList yF,SeqAt.EqAt.none_list p.isList yF⟩
   |xv=>cases h
   |y6=>cases h
  |bl a=>
   cases ra
   cases ry with
   |nE=>cases rb;cases h;exact⟨SeqAt.RcAt.bool_none a,SeqAt.EqAt.bool_none a⟩
   |bl b=>cases rb;cases h;exact⟨SeqAt.RcAt.bool_bool a b,SeqAt.EqAt.bool_bool a b⟩
   |int b=>obtain⟨t,rfl⟩:=rb;cases h;exact⟨SeqAt.RcAt.bool_int a b t,SeqAt.EqAt.bool_int a b t⟩
   |str b=>obtain⟨t,rfl⟩:=rb;cases h;exact⟨SeqAt.RcAt.bool_str a b t,SeqAt.EqAt.bool_str a b t⟩
   |tup h1 r1=>
    cases rb;cases h
    obtain⟨gE,_,p,_⟩:=I.tuple (aw sF h1)
    exact⟨SeqAt.RcAt.bool_tuple a p yF,SeqAt.EqAt.bool_tuple a p yF⟩
   |lst h1 r1=>
    cases rb;cases h
    obtain⟨gE,_,p,_⟩:=I.list (.inl (.inl (sF _ _ h1)))
    exact⟨SeqAt.RcAt.bool_list a p.isList yF,SeqAt.EqAt.bool_list a p.isList yF⟩
   |xv=>cases h
   |y6=>cases h
  |int a=>
   obtain⟨t',rfl⟩:=ra
   cases ry with
   |nE=>cases rb;cases h;exact⟨SeqAt.RcAt.int_none a t',SeqAt.EqAt.int_none a t'⟩
   |bl b=>cases rb;cases h;exact⟨SeqAt.RcAt.int_bool a t' b,SeqAt.EqAt.int_bool a t' b⟩
   |int b=>obtain⟨t,rfl⟩:=rb;cases h;exact⟨SeqAt.RcAt.int_int a t' b t,SeqAt.EqAt.int_int a t' b t⟩
   |str b=>obtain⟨t,rfl⟩:=rb;cases h;exact⟨SeqAt.RcAt.int_str a t' b t,SeqAt.EqAt.int_str a t' b t⟩
   |tup h1 r1=>
    cases rb;cases h
    obtain⟨gE,_,p,_⟩:=I.tuple (aw sF h1)
    exact⟨SeqAt.RcAt.int_tuple a t' p yF,SeqAt.EqAt.int_tuple a t' p yF⟩
   |lst h1 r1=>
    cases rb;cases h
    obtain⟨gE,_,p,_⟩:=I.list (.inl (.inl (sF _ _ h1)))
    exact⟨SeqAt.RcAt.int_list a t' p.isList yF,SeqAt.EqAt.int_list a t' p.isList yF⟩
   |xv=>cases h
   |y6=>cases h
  |str a=>
   obtain⟨t',rfl⟩:=ra
   cases ry with
   |nE=>cases rb;cases h;exact⟨SeqAt.RcAt.str_none a t',SeqAt.EqAt.str_none a t'⟩
   |bl b=>cases rb;cases h;exact⟨SeqAt.RcAt.str_bool a t' b,SeqAt.EqAt.str_bool a t' b⟩
   |int b=>obtain⟨t,rfl⟩:=rb;cases h;exact⟨SeqAt.RcAt.str_int a t' b t,SeqAt.EqAt.str_int a t' b t⟩
   |str b=>obtain⟨t,rfl⟩:=rb;cases h;exact⟨SeqAt.RcAt.str_str a t' b t,SeqAt.EqAt.str_str a t' b t⟩
   |tup h1 r1=>
    cases rb;cases h
    obtain⟨gE,_,p,_⟩:=I.tuple (aw sF h1)
    exact⟨SeqAt.RcAt.str_tuple a t' p yF,SeqAt.EqAt.str_tuple a t' p yF⟩
   |lst h1 r1=>
    cases rb;cases h
    obtain⟨gE,_,p,_⟩:=I.list (.inl (.inl (sF _ _ h1)))
    exact⟨SeqAt.RcAt.str_list a t' p.isList yF,SeqAt.EqAt.str_list a t' p.isList yF⟩
   |xv=>cases h
   |y6=>cases h
  |@tup pa vs xs h1 r1=>
   cases ra
   obtain⟨gE,rv,p,_⟩:=I.tuple (aw sF h1)
   cases ry with
   |nE=>cases rb;cases h;exact⟨SeqAt.RcAt.tuple_none p yF,SeqAt.EqAt.tuple_none p yF⟩
   |bl b=>cases rb;cases h;exact⟨SeqAt.RcAt.tuple_bool b p yF,SeqAt.EqAt.tuple_bool b p yF⟩
   |int b=>obtain⟨t,rfl⟩:=rb;cases h;exact⟨SeqAt.RcAt.tuple_int b t p yF,SeqAt.EqAt.tuple_int b t p yF⟩
   |str b=>obtain⟨t,rfl⟩:=rb;cases h;exact⟨SeqAt.RcAt.tuple_str b t p yF,SeqAt.EqAt.tuple_str b t p yF⟩
   |@tup pb ws ys h2 r2=>
    cases rb
    have h0:=h
    obtain⟨yh,AA,p2,_⟩:=I.tuple (aw sF h2)
    replace h:Option.map (λbs:List Bool=>bs.all id && xs.length==ys.length) (List.mapM (λp:PV×PV=>yc d p.1 p.2) (xs.zip ys))=some k:=h
    rw[aax]at h
    obtain⟨bs,hb,e⟩:=h
    obtain⟨Cy,DV⟩:=bh hb
    have l1:gE.length=xs.length:=by rw[<- rv.length,r1.len]
    have l2:yh.length=ys.length:=by rw[<- AA.length,r2.len]
    have rc:SeqAt.RcAt A s (.ref pa) (.ref pb) k:=by
     have:=SeqAt.RcAt.tuples (e:=λj=>bs.getD j false) p p2 yF (λj j1 j2=>by
      simp only[aae]at j1 j2
      have jx:j<xs.length:=by omega
      have jy:j<ys.length:=by omega
      have hz:(xs.zip ys)[j]?=some (xs[j],ys[j]):=by rw[aa0];exact⟨by simp[jx],by simp[jy]⟩
      obtain⟨b,e1,e2⟩:=DV j _ hz
      obtain⟨v1,q1,q2⟩:=r1.get (aaa jx)
      obtain⟨v2,q3,q4⟩:=r2.get (aaa jy)
      obtain⟨u1,q5,q6⟩:=rv.get q1
      obtain⟨u2,q7,q8⟩:=AA.get q3
      have g1:gE.toArray[j]=u1:=by simpa[aaa j1]using q5
      have g2:yh.toArray[j]=u2:=by simpa[aaa j2]using q7
      rw[g1,g2]
      have CA:bs.getD j false=b:=by simp[aeA,e1]
      rw[CA]
      exact(ih (A:=A.in1) (by show A.units+1+d<cLine;omega) q2 q4 q6 q8 e2).2)
     have e3:((aaR (min gE.toArray.size yh.toArray.size)).all (λj=>bs.getD j false) && gE.toArray.size==yh.toArray.size)=k:=by
      have e4:min gE.toArray.size yh.toArray.size=bs.length:=by
       rw[Cy,afk,aae,aae,l1,l2]
      rw[e4,dq (λj hj=>by simp[aeA,aaa hj]),aae,aae,l1,l2]
      exact e
     rw[e3]at this
     exact this
    refine⟨rc,?_⟩
    by_cases q:pa=pb
    .subst q
     have:k=true:=kF I sF (.tup h1 r1) (.tup h2 r2) h0
     subst this
     exact aff _
    .exact SeqAt.EqAt.of_refs q rc
   |lst h2 r2=>
    cases rb;cases h
    obtain⟨yh,_,p2,_⟩:=I.list (.inl (.inl (sF _ _ h2)))
    exact⟨SeqAt.RcAt.tuple_list p p2.isList yF,SeqAt.EqAt.tuple_list p p2.isList yF⟩
   |xv=>cases h
   |y6=>cases h
  |@lst pa vs xs h1 r1=>
   cases ra
   obtain⟨gE,rv,p,_⟩:=I.list (.inl (.inl (sF _ _ h1)))
   cases ry with
   |nE=>cases rb;cases h;exact⟨SeqAt.RcAt.list_none p.isList yF,SeqAt.EqAt.list_none p.isList yF⟩
   |bl b=>cases rb;cases h;exact⟨SeqAt.RcAt.list_bool b p.isList yF,SeqAt.EqAt.list_bool b p.isList yF⟩
   |int b=>obtain⟨t,rfl⟩:=rb;cases h;exact⟨SeqAt.RcAt.list_int b t p.isList yF,SeqAt.EqAt.list_int b t p.isList yF⟩
   |str b=>obtain⟨t,rfl⟩:=rb;cases h;exact⟨SeqAt.RcAt.list_str b t p.isList yF,SeqAt.EqAt.list_str b t p.isList yF⟩
   |tup h2 r2=>
    cases rb;cases h
    obtain⟨yh,_,p2,_⟩:=I.tuple (aw sF h2)
    exact⟨SeqAt.RcAt.list_tuple p.isList p2 yF,SeqAt.EqAt.list_tuple p.isList p2 yF⟩
   |@lst pb ws ys h2 r2=>
    cases rb
    have h0:=h
    obtain⟨yh,AA,p2,_⟩:=I.list (.inl (.inl (sF _ _ h2)))
    have l1:gE.length=xs.length:=by rw[<- rv.length,r1.len]
    have l2:yh.length=ys.length:=by rw[<- AA.length,r2.len]
    have rc:SeqAt.RcAt A s (.ref pa) (.ref pb) k:=by
     replace h:(if xs.length=ys.length then Option.map (λbs:List Bool=>bs.all id) (List.mapM (λp:PV×PV=>yc d p.1 p.2) (xs.zip ys))else some false)=some k:=h
     split at h
     .rename_i hl
      rw[aax]at h
      obtain⟨bs,hb,e⟩:=h
      obtain⟨Cy,DV⟩:=bh hb
      have:=SeqAt.RcAt.lists (e:=λj=>bs.getD j false) p.isList p2.isList (by rw[aae,aae];omega) yF (λj j1 j2=>by
       simp only[aae]at j1 j2
       have jx:j<xs.length:=by omega
       have jy:j<ys.length:=by omega
       have hz:(xs.zip ys)[j]?=some (xs[j],ys[j]):=by rw[aa0];exact⟨by simp[jx],by simp[jy]⟩
       obtain⟨b,e1,e2⟩:=DV j _ hz
       obtain⟨v1,q1,q2⟩:=r1.get (aaa jx)
       obtain⟨v2,q3,q4⟩:=r2.get (aaa jy)
       obtain⟨u1,q5,q6⟩:=rv.get q1
       obtain⟨u2,q7,q8⟩:=AA.get q3
       have g1:gE.toArray[j]=u1:=by simpa[aaa j1]using q5
       have g2:yh.toArray[j]=u2:=by simpa[aaa j2]using q7
       rw[g1,g2]
       have CA:bs.getD j false=b:=by simp[aeA,e1]
       rw[CA]
       exact(ih (A:=A.in1) (by show A.units+1+d<cLine;omega) q2 q4 q6 q8 e2).2)
      have e3:((aaR gE.toArray.size).all (λj=>bs.getD j false))=k:=by
       have e4:gE.toArray.size=bs.length:=by
        rw[Cy,afk,aae,l1];omega
       rw[e4,dq (λj hj=>by simp[aeA,aaa hj])]
       exact e
      rw[e3]at this
      exact this
     .rename_i hl
      cases h
      exact SeqAt.RcAt.lists_lengths p.isList p2.isList (by simp only[aae];simpa[l1,l2]using hl) yF
    refine⟨rc,?_⟩
    by_cases q:pa=pb
    .subst q
     have:k=true:=kF I sF (.lst h1 r1) (.lst h2 r2) h0
     subst this
     exact aff _
    .exact SeqAt.EqAt.of_refs q rc
   |xv=>cases h
   |y6=>cases h
  |xv h1 r1=>cases y<;>cases h
  |y6 h1=>cases y<;>cases h
def yM(x y:PV):Option PV:=(yc 60 x y).map .bl
theorem Vw.yG(h:Vw M F H v x)(s:dO F H)(hx:∀xs,x≠.set xs):∃F',dO F F'/\dO F' H/\Rep M.K F' v x:=by
 rcases h with h|⟨a,rfl,h⟩
 .exact⟨F,aj,s,h⟩
 .cases x<;>try exact h.elim
  .rename_i xs
   obtain⟨vs,h1,h2⟩:=h
   cases e:F a with
   |none=>
    refine⟨upd F a (.lst vs),ay e,λb o q=>?_,.lst ag (h2.mono (ay e))⟩
    by_cases z:b=a
    .subst z;rw[ag]at q;cases q;exact h1
    .rw[af z]at q;exact s b o q
   |some o=>
    have:=s a o e
    rw[h1]at this;cases this
    exact⟨F,aj,s,.lst e h2⟩
  .rename_i xs
   obtain⟨vs,h1,h2⟩:=h
   cases e:F a with
   |none=>
    refine⟨upd F a (.dK vs),ay e,λb o q=>?_,.xv ag (h2.mono (ay e))⟩
    by_cases z:b=a
    .subst z;rw[ag]at q;cases q;exact h1
    .rw[af z]at q;exact s b o q
   |some o=>
    have:=s a o e
    rw[h1]at this;cases this
    exact⟨F,aj,s,.xv e h2⟩
  .exact absurd rfl (hx _)
def Jz(K:aah):R2:=λv u H Q=>∃F x y k,dO F H/\Rep K F v x/\Rep K F u y/\yc 60 x y=some k/\Q (.bl k) H
theorem cD(hu:X.A.units+60<cLine):ya X (abb .Eq) (Jz X.K):=by
 intro pins s σ H x y v u Q I rx ry h
 obtain⟨F,p,q,k,sF,r1,r2,e,hq⟩:=h
 exact(Ie I sF (A:=X.A) hu r1 r2 rx ry e).1 X.prog X.w X.xe _ ⟨.bl k,H,I,rfl,hq⟩
theorem cC:Bo ob X (Jz X.K) yM:=by
 refine bt (P:=λ_ _ _ _=>True) λF H v u x y z sF rx ry hz=>?_
 unfold yM at hz
 rw[aax]at hz
 obtain⟨k,hk,rfl⟩:=hz
 have nx:∀xs,x≠.set xs:=λxs e=>by subst e;cases y<;>cases hk
 have ny:∀xs,y≠.set xs:=λxs e=>by subst e;cases x<;>cases hk
 obtain⟨F1,s1,s2,r1⟩:=rx.yG sF nx
 have P4:Vw (md ob X) F1 H u y:=by
  rcases ry with r|⟨a,e,r⟩
  .exact .inl (r.mono s1)
  .exact .inr ⟨a,e,r.mono s1 rfl⟩
 obtain⟨F2,s3,s4,r2⟩:=P4.yG s2 ny
 exact⟨_,λ_=>.bl _,λQ q=>⟨F2,x,y,k,s4,r1.mono s3,r2,hk,q⟩⟩
def toV:PV->Option V
 |.nE=>some .nE
 |.bl b=>some (.bl b)
 |.int i=>some (.int i)
 |.str s=>some (.str s)
 |_=>none
theorem pc{w:V}(h:Vw M F H v x)(e:toV x=some w):v=w:=by
 cases x<;>cases e
 .exact h.nE
 .exact h.bl
 .exact h.int
 .exact h.str
def CQ:PV->PV->Option PV
 |.lst xs,.lst []=>some (.bl (!xs.isEmpty))
 |x,y=>(toV x).bind λv=>(toV y).bind λu=>if Fu v u=true then some (.bl (!decide (v=u)))else none
theorem lG:Bo ob X (λx y H Q=>Jt x y H Q\/BF X.K x y H Q) CQ:=by
 refine bt (P:=λ_ _ _ _=>True) λF H v u x y z sF rx ry hz=>?_
 unfold CQ at hz
 split at hz
 .cases hz
  rename_i xs
  obtain⟨p,vs,rfl,h1,h2⟩:=rx.lst sF
  obtain⟨q,ws,rfl,g1,g2⟩:=ry.lst sF
  cases g2
  refine⟨_,λ_=>.bl _,λQ hq=>.inr ⟨p,q,vs,rfl,rfl,.inl (.inl h1),.inl (.inl g1),?_⟩⟩
  have:vs.isEmpty=xs.isEmpty:=by have:=h2.len;cases vs<;>cases xs<;>simp at this ⊢
  rw[this];exact hq
 .cases e1:toV x with
  |none=>rw[e1]at hz;cases hz
  |some v'=>
   cases e2:toV y with
   |none=>rw[e1,e2]at hz;cases hz
   |some u'=>
    rw[e1,e2]at hz
    have hz:(if Fu v' u'=true then some (PV.bl (!decide (v'=u')))else none)=some z:=hz
    split at hz
    .rename_i hs
     cases hz
     rw[pc rx e1,pc ry e2]
     exact⟨_,λ_=>.bl _,λQ q=>.inl ⟨hs,q⟩⟩
    .cases hz
theorem oA(hu:X.A.units<cLine):ya X (abb .NotEq) (λx y H Q=>Jt x y H Q\/BF X.K x y H Q):=ya.or sB (ib hu)
theorem Inv.Lc(I:Inv X pins σ H s){a:Addr}{o:Obj}(h:X.K.lookup a=some o):H a=none:=(I.bs a o (I.mod.kin a o h)).2
theorem mq(I:Inv X pins σ H s){a:Addr}{kvs:List (Key×V)}{vs:List V}(h1:H a=some (.dK kvs))(h2:yI X.K H a vs):False:=by
 obtain⟨_,_,_,_,o,_,_,e,ex,_⟩:=I.wU a _ h1
 obtain⟨_,_,⟨o',e',c',_⟩,_⟩:=I.tuple h2
 rw[e]at e';cases e';rw[ex.1]at c';injection c' with c';exact absurd c' (by decide)
theorem gK:∀{ns ms:List Int},ns.map V.int=ms.map V.int->ns=ms
 |[],[],_=>rfl
 |n::ns,m::ms,h=>by
  rw[aas,aas]at h
  injection h with h1 h2
  injection h1 with h1
  rw[h1,gK h2]
 |[],_::_,h=>by simp at h
 |_::_,[],h=>by simp at h
variable{y:PV}
theorem Rep.inj(I:Inv X pins σ H s)(sF:dO F H)(h:Rep X.K F v x)(h':Rep X.K F v y):x=y:=by
 refine Rep.rec (K:=X.K) (F:=F) (motive_1:=λv x _=>∀y,Rep X.K F v y->x=y) (motive_2:=λvs xs _=>∀ys,iF X.K F vs ys->xs=ys) (motive_3:=λvs xs _=>∀ys,lE X.K F vs ys->xs=ys)
  ?_ ?_ ?_ ?_ ?_ ?_ ?_ ?_ ?_ ?_ ?_ ?_ h y h'
 .intro y h;cases h;rfl
 .intro b y h;cases h;rfl
 .intro b y h;cases h;rfl
 .intro b y h;cases h;rfl
 .intro a vs xs h1 _ ih y h
  cases h with
  |tup h2 r2=>
   have:=I.zL (aw sF h1) (aw sF h2)
   subst this
   rw[ih _ r2]
  |lst h2 r2=>exact(cm I (.inl (.inl (sF _ _ h2))) (aw sF h1)).elim
  |xv h2 r2=>exact(mq I (sF _ _ h2) (aw sF h1)).elim
  |y6 h2=>exact(cm I (cO sF h2.sq) (aw sF h1)).elim
 .intro a vs xs h1 _ ih y h
  cases h with
  |tup h2 r2=>exact(cm I (.inl (.inl (sF _ _ h1))) (aw sF h2)).elim
  |lst h2 r2=>rw[h1]at h2;cases h2;rw[ih _ r2]
  |xv h2 r2=>rw[h1]at h2;cases h2
  |y6 h2=>
   rcases h2 with ⟨o,h2⟩|⟨o,_,_,h2,_⟩
   .rw[h1]at h2;cases h2
   .have:=sF _ _ h1;rw[Inv.Lc I h2]at this;cases this
 .intro a vs xs h1 _ ih y h
  cases h with
  |tup h2 r2=>exact(mq I (sF _ _ h1) (aw sF h2)).elim
  |lst h2 r2=>rw[h1]at h2;cases h2
  |xv h2 r2=>rw[h1]at h2;cases h2;rw[ih _ r2]
  |y6 h2=>
   rcases h2 with ⟨o,h2⟩|⟨o,_,_,h2,_⟩
   .rw[h1]at h2;cases h2
   .have:=sF _ _ h1;rw[Inv.Lc I h2]at this;cases this
 .intro a ns h1 y h
  cases h with
  |tup h2 r2=>exact(cm I (cO sF h1.sq) (aw sF h2)).elim
  |lst h2 r2=>
   rcases h1 with ⟨o,h1⟩|⟨o,_,_,h1,_⟩
   .rw[h1]at h2;cases h2
   .have:=sF _ _ h2;rw[Inv.Lc I h1]at this;cases this
  |xv h2 r2=>
   rcases h1 with ⟨o,h1⟩|⟨o,_,_,h1,_⟩
   .rw[h1]at h2;cases h2
   .have:=sF _ _ h2;rw[Inv.Lc I h1]at this;cases this
  |y6 h2=>rw[gK (I.Cb (cO sF h1.sq) (cO sF h2.sq))]
 .intro ys h;cases h;rfl
 .intro v x vs xs _ _ JV JU ys h
  cases h with
  |cons h r=>rw[JV _ h,JU _ r]
 .intro ys h;cases h;rfl
 .intro k v x vs xs _ _ JV JU ys h
  cases h with
  |cons h r=>rw[JV _ h,JU _ r]
variable{A:Around}
theorem gf(I:Inv X pins σ H s)(sF:dO F H){d:Nat}{vs:List V}{us:List Value}{xs:List PV}{u:Value}{ks:List Bool}(hu:A.units+d<cLine)(rv:oR vs us)(r:iF X.K F vs xs)(rx:Rep X.K F v x)(ru:RelV v u)
  (hk:xs.mapM (λy=>yc d y x)=some ks):∃e:Value->Bool,(∀y,y∈us->SeqAt.EqAt A s y u (e y))/\us.any e=ks.any id/\us.countP e=ks.countP id/\(∀(i:Nat) (w:Value),us[i]?=some w->ks[i]?=some (e w)):=by
 obtain⟨hl,hb⟩:=bh hk
 have l1:=rv.length
 have l2:=r.len
 have key:∀(i:Nat) (w:Value),us[i]?=some w->∃b y z,xs[i]?=some y/\vs[i]?=some z/\RelV z w/\Rep X.K F z y/\yc d y x=some b/\ks[i]?=some b:=λi w hw=>by
  obtain⟨z,e1,e2⟩:=oR.ET rv hw
  obtain⟨y,e3,e4⟩:=r.ET e1
  obtain⟨b,e5,e6⟩:=hb i y e3
  exact⟨b,y,z,e3,e1,e2,e4,e6,e5⟩
 let e:Value->Bool:=λw=>(us.zip ks).any λp=>p.1==w && p.2
 have four:∀(i:Nat) (w:Value),us[i]?=some w->ks[i]?=some (e w):=by
  intro i w hw
  obtain⟨b,y,z,e1,e2,e3,e4,e5,e6⟩:=key i w hw
  rw[e6]
  congr 1
  rw[aaY,ae1]
  constructor
  .intro CA
   refine⟨(w,b),aaI (i:=i) (by rw[aa0];exact⟨hw,e6⟩),by simp[CA]⟩
  .rintro⟨⟨w',b'⟩,hm,hp⟩
   simp only[aaT]at hp
   obtain⟨j,hj,ej⟩:=List.mem_iff_getElem.mp hm
   have hz:=aaa hj
   rw[ej,aa0]at hz
   obtain⟨MO,Lk⟩:=hz
   have Qs:w'=w:=eq_of_beq hp.1
   dsimp only at MO Lk
   rw[Qs]at MO
   obtain⟨b2,y2,z2,f1,f2,f3,f4,f5,f6⟩:=key j w MO
   have:z=z2:=e3.inj f3
   subst this
   have:=Rep.inj I sF e4 f4
   subst this
   rw[e5]at f5;cases f5
   rw[Lk]at f6;cases f6
   exact hp.2
 have J6:ks=us.map e:=by
  refine ab7 λi=>?_
  rw[aai]
  cases q:us[i]? with
  |none=>
   have:us.length<=i:=List.getElem?_eq_none_iff.mp q
   rw[aan (by omega)];rfl
  |some w=>rw[four i w q];rfl
 refine⟨e,λy hy=>?_,?_,?_,four⟩
 .obtain⟨i,hi,rfl⟩:=List.mem_iff_getElem.mp hy
  have hw:=aaa hi
  obtain⟨b,y,z,e1,e2,e3,e4,e5,e6⟩:=key i _ hw
  have:=four i _ hw
  rw[e6]at this
  rw[<- aao this]
  exact(Ie I sF (A:=A) hu e4 rx e3 ru e5).2
 .rw[J6,List.any_map];rfl
 .rw[J6,List.countP_map];rfl
def Gy(x:PV):PV->Option Bool
 |.tup ys=>(ys.mapM λy=>yc 60 y x).map λks=>ks.any id
 |.lst ys=>(ys.mapM λy=>yc 60 y x).map λks=>ks.any id
 |.xv kvs=>(zC x).map λk=>(yu kvs k).isSome
 |.str s=>match x with
  |.str t=>some (!(acO s t 0 s.length 1).isEmpty)
  |_=>none
 |.set S=>match x with
  |.str t=>some (decide (t∈S))
  |_=>none
 |_=>none
def Dm:PV->Bool
 |.set _=>false
 |_=>true
theorem ic(h:Dm x=true):∀xs,x≠.set xs:=λxs e=>by subst e;cases h
def BI(x y:PV):Option PV:=if Dm x=true then (Gy x y).map .bl else none
def Ab(x y:PV):Option PV:=if Dm x=true then (Gy x y).map λb=>.bl (!b)else none
def DL(P:aaB)(w:World)(K:aah)(neg:Bool):R2:=λv u H Q=>∃(F:Hp) (x:PV) (b:Bool),dO F H/\Q (.bl (if neg then !b else b)) H /\
 ((∃p vs ys ks,u=.ref p/\(yf K H p vs\/yI K H p vs)/\iF K F vs ys/\Rep K F v x/\ys.mapM (λy=>yc 60 y x)=some ks/\b=ks.any id) \/
  (∃p o,u=.ref p/\Ct H p v o/\b=o.isSome)\/(∃i j,v=.str i/\u=.str j/\b=!(acO j i 0 j.length 1).isEmpty) \/
  (∃z a S n,v=.str z/\u=.ref a/\H a=some (AJ P w a S n)/\b=S z))
theorem lK(hu:X.A.units+62<cLine):ya X (abb .In) (DL X.prog X.w X.K false):=by
 intro pins s σ H v u v' u' Q I rv ru h
 obtain⟨F,x,b,sF,q,h⟩:=h
 have q:Q (.bl b) H:=q
 rcases h with ⟨p,vs,ys,ks,rfl,hs,hr,hx,hk,rfl⟩|⟨p,o,rfl,hd,rfl⟩|⟨i,j,rfl,rfl,rfl⟩|⟨z,a,S,n,rfl,rfl,ha,rfl⟩
 .cases ru
  rcases hs with hs|hs
  .obtain⟨gE,r,pl,_⟩:=I.list hs
   obtain⟨e,e1,e2,_⟩:=gf I sF (A:=X.A.in1) (d:=60) (by show X.A.units+1+60<cLine;omega) r hr hx rv hk
   refine SeqAt.in_listAt e pl.isList (λy hy=>e1 y (by simpa using hy)) ⟨.bl _,H,I,rfl,?_⟩
   rw[show gE.toArray.any e=gE.any e by simp,e2];exact q
  .obtain⟨gE,r,pl,_⟩:=I.tuple hs
   obtain⟨e,e1,e2,_⟩:=gf I sF (A:=X.A.in1) (d:=60) (by show X.A.units+1+60<cLine;omega) r hr hx rv hk
   refine SeqAt.in_tupleAt e pl (λy hy=>e1 y (by simpa using hy)) ⟨.bl _,H,I,rfl,?_⟩
   rw[show gE.toArray.any e=gE.any e by simp,e2];exact q
 .cases ru
  exact wL (by omega) I hd rv λs3 I3=>⟨.bl _,H,I3,rfl,q⟩
 .exact pS pins s σ H _ _ _ _ Q I rv ru ⟨i,j,rfl,rfl,q⟩
 .cases ru
  obtain⟨t,rfl⟩:=rv
  obtain⟨x,_,_⟩:=I.wU a _ ha
  exact wpAny_inSet_of (knd:=acK X.prog X.w) (aee _ _ _ _) rfl x ⟨.bl (S z),H,I.tok _,rfl,q⟩
theorem jG(hu:X.A.units+62<cLine):ya X (abb .NotIn) (DL X.prog X.w X.K true):=by
 intro pins s σ H v u v' u' Q I rv ru h
 obtain⟨F,x,b,sF,q,h⟩:=h
 have q:Q (.bl (!b)) H:=q
 rcases h with ⟨p,vs,ys,ks,rfl,hs,hr,hx,hk,rfl⟩|⟨p,o,rfl,hd,rfl⟩|⟨i,j,rfl,rfl,rfl⟩|⟨z,a,S,n,rfl,rfl,ha,rfl⟩
 .cases ru
  rcases hs with hs|hs
  .obtain⟨gE,r,pl,_⟩:=I.list hs
   obtain⟨e,e1,e2,_⟩:=gf I sF (A:=X.A.in1) (d:=60) (by show X.A.units+1+60<cLine;omega) r hr hx rv hk
   refine SeqAt.notIn_listAt e pl.isList (λy hy=>e1 y (by simpa using hy)) ⟨.bl _,H,I,rfl,?_⟩
   rw[show gE.toArray.any e=gE.any e by simp,e2];exact q
  .obtain⟨gE,r,pl,_⟩:=I.tuple hs
   obtain⟨e,e1,e2,_⟩:=gf I sF (A:=X.A.in1) (d:=60) (by show X.A.units+1+60<cLine;omega) r hr hx rv hk
   refine SeqAt.notIn_tupleAt e pl (λy hy=>e1 y (by simpa using hy)) ⟨.bl _,H,I,rfl,?_⟩
   rw[show gE.toArray.any e=gE.any e by simp,e2];exact q
 .cases ru
  exact uz (by omega) I hd rv λs3 I3=>⟨.bl _,H,I3,rfl,q⟩
 .exact lJ pins s σ H _ _ _ _ Q I rv ru ⟨i,j,rfl,rfl,q⟩
 .exact pQ pins s σ H _ _ _ _ Q I rv ru ⟨z,a,S,n,rfl,rfl,ha,q⟩
theorem qh{u:V}{b neg:Bool}(sF:dO F H)(nx:∀xs,x≠.set xs)(rx:Vw (md ob X) F H v x)(ry:Vw (md ob X) F H u y)(hz:Gy x y=some b)(Q:VK)(q:Q (.bl (if neg then !b else b)) H):DL X.prog X.w X.K neg v u H Q:=by
 unfold Gy at hz
 have seq:∀{p:Addr} {vs:List V} {ys:List PV},u=.ref p->(yf X.K H p vs\/yI X.K H p vs)->iF X.K F vs ys->((ys.mapM λy=>yc 60 y x).map λks=>ks.any id)=some b->DL X.prog X.w X.K neg v u H Q:=λ{p vs ys} hp hs hr hz=>by
  rw[aax]at hz
  obtain⟨ks,hk,e⟩:=hz
  obtain⟨F1,s1,s2,r1⟩:=rx.yG sF nx
  exact⟨F1,x,b,s2,q,.inl ⟨p,vs,ys,ks,hp,hs,hr.mono s1,r1,hk,e.symm⟩⟩
 split at hz
 .obtain⟨p,vs,e,h1,h2⟩:=ry.tup sF
  exact seq e (.inr h1) h2 hz
 .obtain⟨p,vs,e,h1,h2⟩:=ry.lst sF
  exact seq e (.inl (.inl (.inl h1))) h2 hz
 .obtain⟨p,vs,e,h1,h2⟩:=ry.xv sF
  rw[aax]at hz
  obtain⟨k,hk,rfl⟩:=hz
  have hv:=Ge rx hk
  subst hv
  refine⟨F,.nE,_,sF,q,.inr (.inl ⟨p,yP vs k,e,MK h1,?_⟩)⟩
  rcases h2.val (k:=k)with ⟨e1,e2⟩|⟨w,w',e1,e2,_⟩
  .rw[e1,e2];rfl
  .rw[e1,e2];rfl
 .split at hz
  .cases hz
   exact⟨F,.nE,_,sF,q,.inr (.inr (.inl ⟨_,_,rx.str,ry.str,rfl⟩))⟩
  .cases hz
 .split at hz
  .cases hz
   rcases ry with r|⟨p,rfl,r⟩
   .cases r
   .exact⟨F,.nE,_,sF,q,.inr (.inr (.inr ⟨_,p,_,_,rx.str,rfl,r,rfl⟩))⟩
  .cases hz
 .cases hz
theorem lH:Bo ob X (DL X.prog X.w X.K false) BI:=by
 refine bt (P:=λ_ _ _ _=>True) λF H v u x y z sF rx ry hz=>?_
 unfold BI at hz
 split at hz
 case isFalse=>cases hz
 rename_i nx
 rw[aax]at hz
 obtain⟨b,hb,rfl⟩:=hz
 exact⟨_,λ_=>.bl _,λQ q=>qh sF (ic nx) rx ry hb Q q⟩
theorem jE:Bo ob X (DL X.prog X.w X.K true) Ab:=by
 refine bt (P:=λ_ _ _ _=>True) λF H v u x y z sF rx ry hz=>?_
 unfold Ab at hz
 split at hz
 case isFalse=>cases hz
 rename_i nx
 rw[aax]at hz
 obtain⟨b,hb,rfl⟩:=hz
 exact⟨_,λ_=>.bl _,λQ q=>qh sF (ic nx) rx ry hb Q q⟩
inductive D1 (M:Md) (F H:Hp):List V->List PV->Prop where
 |nil:D1 M F H [] []
 |cons {v:V} {x:PV} {vs:List V} {xs:List PV}:Vw M F H v x->D1 M F H vs xs->D1 M F H (v::vs) (x::xs)
theorem iF.PB{vs:List V}{xs:List PV}(h:iF M.K F vs xs):D1 M F H vs xs:=by
 induction h using iF.ind with
 |nil=>exact .nil
 |cons a _ ih=>exact .cons (.inl a) ih
theorem D1.one{vs:List V}(h:D1 M F H vs [x]):∃v,vs=[v]/\Vw M F H v x:=by
 cases h with
 |cons a r=>cases r;exact⟨_,rfl,a⟩
theorem D1.two{vs:List V}(h:D1 M F H vs [x,y]):∃v u,vs=[v,u]/\Vw M F H v x/\Vw M F H u y:=by
 cases h with
 |cons a r=>
  cases r with
  |cons b r=>cases r;exact⟨_,_,rfl,a,b⟩
structure BU(ob:xV)(X:Cx)(es:List Expr)(f:WA):Prop where
 ex:∃t:TA,PA X es t/\∀(Z:Zn) (F:Hp) (σ:L2.St) (H:Hp) (env:En) (P:List PV->En->Prop) (Q:List V->Hp->Prop),lT (md ob X) Z F σ H env->f env P ->
  (∀xs bY vs F' H',P xs bY->dO F F'->lT (md ob X) Z F' σ H' bY->D1 (md ob X) F' H' vs xs->Q vs H')->t σ H Q
def a1(a:WE):WA:=λenv P=>a env λx e=>P [x] e
def zi(o:List PV->Option PV)(fa:WA):WE:=λenv P=>fa env λxs e=>opt (o xs) λz=>P z e
variable{es:List Expr}{fa:WA}{x:Str}{Gz T:String}{r:List V->Hp->VK->Prop}{o:List PV->Option PV}
theorem AG(h:CC ob X es fa):BU ob X es fa:=by
 obtain⟨t,ht,k⟩:=h.ex
 exact⟨t,ht,λZ F σ H env P Q K hf kk=>k Z F σ H env P Q K hf λxs e1 vs F1 H1 p _ s1 K1 r1=>kk xs e1 vs F1 H1 p s1 K1 r1.PB⟩
theorem cr(h:Bd ob X e f)(hs:aam [e] X.env=(false,eval e X.env)::aam [] X.env:=by rfl):BU ob X [e] (a1 f):=by
 obtain⟨t,ht,k⟩:=h.ex
 exact⟨_,aP ht aV hs,λZ F σ H env P Q K hf kk=>k Z F σ H env _ _ K hf λx e1 v F1 H1 p s1 K1 r1=>kk [x] e1 [v] F1 H1 p s1 K1 (.cons r1 .nil)⟩
def Aj(ob:xV)(X:Cx)(r:List V->Hp->VK->Prop)(o:List PV->Option PV):Prop :=
 ∀(Z:Zn) (F:Hp) (σ:L2.St) (H:Hp) (env:En) (vs:List V) (xs:List PV) (z:PV) (Q:VK),lT (md ob X) Z F σ H env->D1 (md ob X) F H vs xs->o xs=some z ->
  (∀v' F' H',dO F F'->lT (md ob X) Z F' σ H' env->Rep X.K F' v' z->Q v' H')->r vs H Q
def BV(ob:xV)(X:Cx)(r:List V->Hp->VK->Prop)(o:List PV->Option PV):Prop :=
 ∀(Z:Zn) (F:Hp) (σ:L2.St) (H:Hp) (env:En) (vs:List V) (xs:List PV) (z:PV) (Q:VK),lT (md ob X) Z F σ H env->D1 (md ob X) F H vs xs->o xs=some z ->
  (∀v' H',(∀xs,z≠.set xs)->lT (md ob X) Z F (σ++[some v']) H' (env++[some ⟨1,z⟩])->Q v' H')->r vs H Q
theorem pq{t:TA}(hq:Aj ob X r o)(k:∀(Z:Zn) (F:Hp) (σ:L2.St) (H:Hp) (env:En) (P:List PV->En->Prop) (Q:List V->Hp->Prop),lT (md ob X) Z F σ H env->fa env P->(∀xs bY vs F' H',P xs bY->dO F F'->lT (md ob X) Z F' σ H' bY->D1 (md ob X) F' H' vs xs->Q vs H')->t σ H Q):
  ∀(Z:Zn) (F:Hp) (σ:L2.St) (H:Hp) (env:En) (P:PV->En->Prop) (Q:VK),lT (md ob X) Z F σ H env->zi o fa env P->(∀x bY v F' H',P x bY->dO F F'->lT (md ob X) Z F' σ H' bY->Rep X.K F' v x->Q v H')->Ji r t σ H Q:=by
 intro Z F σ H env P Q K hf kk
 refine k Z F σ H env _ _ K hf λxs e1 vs F1 H1 p s1 K1 r1=>?_
 obtain⟨z,hz,p⟩:=p
 exact hq Z F1 σ H1 e1 vs xs z Q K1 r1 hz λv' F' H' s2 K2 r2=>kk z e1 v' F' H' p (ai s1 s2) K2 r2
theorem sX{t:TA}(hq:BV ob X r o)(k:∀(Z:Zn) (F:Hp) (σ:L2.St) (H:Hp) (env:En) (P:List PV->En->Prop) (Q:List V->Hp->Prop),lT (md ob X) Z F σ H env->fa env P->(∀xs bY vs F' H',P xs bY->dO F F'->lT (md ob X) Z F' σ H' bY->D1 (md ob X) F' H' vs xs->Q vs H')->t σ H Q):
  ∀(Z:Zn) (F:Hp) (σ:L2.St) (H:Hp) (env:En) (P:PV->En->Prop) (Q:VK),lT (md ob X) Z F σ H env->zi o fa env P->(∀x bY v F' H',P x bY->dO F F'->(∀xs,x≠.set xs)->lT (md ob X) Z F' (σ++[some v]) H' (bY++[some ⟨1,x⟩])->Q v H')->Ji r t σ H Q:=by
 intro Z F σ H env P Q K hf kk
 refine k Z F σ H env _ _ K hf λxs e1 vs F1 H1 p s1 K1 r1=>?_
 obtain⟨z,hz,p⟩:=p
 exact hq Z F1 σ H1 e1 vs xs z Q K1 r1 hz λv' H' hx K2=>kk z e1 v' F1 H' p s1 hx K2
theorem cM(hc:wX X (.builtin Gz) r)(hq:Aj ob X r o)(hg:Gl X x)(hm:X.mg x=none)(hv:aco x=some (.builtin Gz))(ha:BU ob X (e::es) fa)(hn:x ≠ "__name__" :=by decide)(zR:(x==("__debug__" : Str))=false:=by decide)
  (he:aam (e::es) X.env=(false,eval e X.env)::aam es X.env:=by rfl) (yt:(backTo pos (aam es X.env)).any (·.1)=false:=by rfl):xu ob X (.Call (.Name x p) (e::es) [] pos) (zi o fa):=by
 obtain⟨t,ht,k⟩:=ha.ex
 exact⟨_,bF hc hg hm hv ht hn zR he yt,pq hq k⟩
theorem ce(hc:wX X (.type T) r)(hq:Aj ob X r o)(hg:Gl X x)(hm:X.mg x=none)(hv:aco x=some (.type T))(ha:BU ob X (e::es) fa)(hn:x ≠ "__name__" :=by decide)(zR:(x==("__debug__" : Str))=false:=by decide)
  (he:aam (e::es) X.env=(false,eval e X.env)::aam es X.env:=by rfl) (yt:(backTo pos (aam es X.env)).any (·.1)=false:=by rfl):xu ob X (.Call (.Name x p) (e::es) [] pos) (zi o fa):=by
 obtain⟨t,ht,k⟩:=ha.ex
 exact⟨_,fK hc hg hm hv ht hn zR he yt,pq hq k⟩
theorem mh(hc:wX X (.type T) r)(hq:BV ob X r o)(hg:Gl X x)(hm:X.mg x=none)(hv:aco x=some (.type T))(ha:BU ob X (e::es) fa)(hn:x ≠ "__name__" :=by decide)(zR:(x==("__debug__" : Str))=false:=by decide)
  (he:aam (e::es) X.env=(false,eval e X.env)::aam es X.env:=by rfl) (yt:(backTo pos (aam es X.env)).any (·.1)=false:=by rfl):C8 ob X (.Call (.Name x p) (e::es) [] pos) (zi o fa):=by
 obtain⟨t,ht,k⟩:=ha.ex
 exact⟨_,fK hc hg hm hv ht hn zR he yt,sX hq k⟩
variable{ns:List Int}
theorem Vw.y6(h:Vw M F H v (.y6 ns))(s:dO F H):∃a,v=.ref a/\yf M.K H a (ns.map V.int):=by
 rcases h with h|⟨a,rfl,h⟩
 .cases h with
  |y6 h=>exact⟨_,rfl,cO s h.sq⟩
 .exact h.elim
def zo:List PV->Option PV
 |[.lst xs]=>some (.int xs.length)
 |[.tup xs]=>some (.int xs.length)
 |[.xv xs]=>some (.int xs.length)
 |[.str s]=>if s.length<=100000 then some (.int s.length)else none
 |[.y6 ns]=>some (.int ns.length)
 |_=>none
def Ju(K:aah):List V->Hp->VK->Prop:=λxs H Q=>(∃p ys,xs=[.ref p]/\(yf K H p ys\/yI K H p ys)/\Q (.int ys.length) H)\/((∃z,xs=[.str z]/\z.length<=sizeLine/\Q (.int z.length) H)\/∃a kvs,xs=[V.ref a]/\H a=some (.dK kvs)/\Q (.int kvs.length) H)
theorem eI:wX X (.builtin "len") (Ju X.K):=wX.or fW (wX.or mC qG)
theorem eJ:Aj ob X (Ju X.K) zo:=by
 intro Z F σ H env vs xs z Q K rv hz k
 unfold zo at hz
 split at hz
 .cases hz
  obtain⟨v,rfl,r⟩:=rv.one
  obtain⟨p,vs,rfl,h1,h2⟩:=r.lst K.sF
  exact .inl ⟨p,vs,rfl,.inl (.inl (.inl h1)),k _ F H aj K (by rw[h2.len];exact .int _)⟩
 .cases hz
  obtain⟨v,rfl,r⟩:=rv.one
  obtain⟨p,vs,rfl,h1,h2⟩:=r.tup K.sF
  exact .inl ⟨p,vs,rfl,.inr h1,k _ F H aj K (by rw[h2.len];exact .int _)⟩
 .cases hz
  obtain⟨v,rfl,r⟩:=rv.one
  obtain⟨p,vs,rfl,h1,h2⟩:=r.xv K.sF
  exact .inr (.inr ⟨p,vs,rfl,h1,k _ F H aj K (by rw[h2.len];exact .int _)⟩)
 .split at hz
  .cases hz
   obtain⟨v,rfl,r⟩:=rv.one
   rw[r.str]
   exact .inr (.inl ⟨_,rfl,by rw[aaA];omega,k _ F H aj K (.int _)⟩)
  .cases hz
 .cases hz
  obtain⟨v,rfl,r⟩:=rv.one
  obtain⟨p,rfl,h1⟩:=r.y6 K.sF
  exact .inl ⟨p,_,rfl,.inl h1,k _ F H aj K (by rw[aad];exact .int _)⟩
 .cases hz
def aY:List PV->Option PV
 |[.lst xs]=>some (.tup xs)
 |[.tup xs]=>some (.tup xs)
 |_=>none
def EC(K:aah):List V->Hp->VK->Prop:=λxs H Q=>∃p ys,xs=[.ref p]/\((yf K H p ys/\∀l,H l=none->Q (.ref l) (upd H l (.tup ys)))\/(yI K H p ys/\Q (.ref p) H))
theorem ba:wX X (.type "tuple") (EC X.K):=kR
theorem bb:Aj ob X (EC X.K) aY:=by
 intro Z F σ H env vs xs z Q K rv hz k
 unfold aY at hz
 split at hz
 .cases hz
  obtain⟨v,rfl,r⟩:=rv.one
  obtain⟨p,vs,rfl,h1,h2⟩:=r.lst K.sF
  refine⟨p,vs,rfl,.inl ⟨.inl (.inl h1),λl hl=>?_⟩⟩
  have hF:F l=none:=dO.none_of K.sF hl
  exact k _ _ _ (ay hF) (K.lay hl) (.tup (.inl (.inl ag)) (h2.mono (ay hF)))
 .cases hz
  obtain⟨v,rfl,r⟩:=rv.one
  have r':=r.CH
  obtain⟨p,vs,rfl,h1,h2⟩:=r.tup K.sF
  exact⟨p,vs,rfl,.inr ⟨h1,k _ F H aj K r'⟩⟩
 .cases hz
def CS:List PV->Option PV
 |[.lst xs]=>some (.lst xs)
 |[.tup xs]=>some (.lst xs)
 |[.y6 ns]=>some (.lst (ns.map .int))
 |_=>none
def Gp(K:aah):List V->Hp->VK->Prop:=λxs H Q=>∃p ys,xs=[.ref p]/\(yf K H p ys\/yI K H p ys)/\∀l,H l=none->Q (.ref l) (upd H l (.lst ys))
theorem uC:wX X (.type "list") (Gp X.K):=mB
theorem cB:∀(ns:List Int),iF K F (ns.map V.int) (ns.map PV.int)
 |[]=>.nil
 |n::ns=>.cons (.int n) (cB ns)
theorem uD:BV ob X (Gp X.K) CS:=by
 intro Z F σ H env vs xs z Q K rv hz k
 unfold CS at hz
 split at hz
 .cases hz
  obtain⟨v,rfl,r⟩:=rv.one
  obtain⟨p,vs,rfl,h1,h2⟩:=r.lst K.sF
  exact⟨p,vs,rfl,.inl (.inl (.inl h1)),λl hl=>k _ _ (λ_=>by simp) (K.own hl ⟨vs,ag,h2⟩)⟩
 .cases hz
  obtain⟨v,rfl,r⟩:=rv.one
  obtain⟨p,vs,rfl,h1,h2⟩:=r.tup K.sF
  exact⟨p,vs,rfl,.inr h1,λl hl=>k _ _ (λ_=>by simp) (K.own hl ⟨vs,ag,h2⟩)⟩
 .cases hz
  obtain⟨v,rfl,r⟩:=rv.one
  obtain⟨p,rfl,h1⟩:=r.y6 K.sF
  exact⟨p,_,rfl,.inl h1,λl hl=>k _ _ (λ_=>by simp) (K.own hl ⟨_,ag,cB _⟩)⟩
 .cases hz
def E4:List PV->Option PV
 |[.int i]=>some (.int (if i<0 then -i else i))
 |_=>none
theorem wq:Aj ob X (λxs H Q=>∃i,xs=[.int i]/\Q (.int (if i<0 then -i else i)) H) E4:=by
 intro Z F σ H env vs xs z Q K rv hz k
 unfold E4 at hz
 split at hz
 .cases hz
  obtain⟨v,rfl,r⟩:=rv.one
  rw[r.int]
  exact⟨_,rfl,k _ F H aj K (.int _)⟩
 .cases hz
def Dp:List PV->Option PV
 |[.int i,.int j]=>some (.int (if j > i then j else i))
 |[.str s,.str t]=>some (.str (DM s t))
 |_=>none
theorem wj(hc:X.calm=true):wX X (.builtin "max") (λxs H Q=>(∃i j,xs=[.int i,.int j]/\Q (.int (if j > i then j else i)) H)\/∃x y,xs=[.str x,.str y]/\Q (.str (DM x y)) H):=wX.or (qF hc) (oZ hc)
theorem wo:Aj ob X (λxs H Q=>(∃i j,xs=[.int i,.int j]/\Q (.int (if j > i then j else i)) H)\/∃x y,xs=[.str x,.str y]/\Q (.str (DM x y)) H) Dp:=by
 intro Z F σ H env vs xs z Q K rv hz k
 unfold Dp at hz
 split at hz
 .cases hz
  obtain⟨v,u,rfl,r1,r2⟩:=rv.two
  rw[r1.int,r2.int]
  exact .inl ⟨_,_,rfl,k _ F H aj K (.int _)⟩
 .cases hz
  obtain⟨v,u,rfl,r1,r2⟩:=rv.two
  rw[r1.str,r2.str]
  exact .inr ⟨_,_,rfl,k _ F H aj K (.str _)⟩
 .cases hz
def x6:PV->Option Int
 |.int i=>some i
 |_=>none
def Bq:PV->Option Str
 |.str i=>some i
 |_=>none
theorem cX{g:PV->Option α}{w:α->V}(hg:∀x a,g x=some a->∀v,Rep K F v x->v=w a):∀{xs:List PV} {as:List α} {vs:List V},xs.mapM g=some as->iF K F vs xs->vs=as.map w
 |[],as,vs,h,r=>by simp at h;subst h;cases r;rfl
 |x::xs,as,vs,h,r=>by
  rw[abq]at h
  cases ea:g x with
  |none=>rw[ea]at h;cases h
  |some a=>
   rw[ea]at h
   cases el:xs.mapM g with
   |none=>rw[el]at h;cases h
   |some bs=>
    rw[el]at h
    have h:some (a::bs)=some as:=h
    cases h
    cases r with
    |cons r1 r2=>rw[aas,hg x a ea _ r1,cX hg el r2]
def De:List PV->Option PV
 |[.lst xs]=>(xs.mapM x6).map λns=>.int ns.sum
 |_=>none
theorem ue(x:PV)(a:Int)(h:x6 x=some a)(v:V)(r:Rep K F v x):v=.int a:=by cases x<;>cases h;cases r;rfl
theorem jl(x:PV)(a:Str)(h:Bq x=some a)(v:V)(r:Rep K F v x):v=.str a:=by cases x<;>cases h;cases r;rfl
theorem wm:Aj ob X (λxs H Q=>∃(p:Addr) (ns:List Int),xs=[.ref p]/\yf X.K H p (ns.map V.int)/\Q (.int ns.sum) H) De:=by
 intro Z F σ H env vs xs z Q K rv hz k
 unfold De at hz
 split at hz
 .rw[aax]at hz
  obtain⟨ns,hn,rfl⟩:=hz
  obtain⟨v,rfl,r⟩:=rv.one
  obtain⟨p,vs,rfl,h1,h2⟩:=r.lst K.sF
  have:=cX ue hn h2
  subst this
  exact⟨p,ns,rfl,.inl (.inl h1),k _ F H aj K (.int _)⟩
 .cases hz
abbrev WO:=En->(Option Int->En->Prop)->Prop
structure LO(ob:xV)(X:Cx)(e:Option Expr)(f:WO):Prop where
 ex:∃t:TO,PO X e t/\∀(Z:Zn) (F:Hp) (σ:L2.St) (H:Hp) (env:En) (P:Option Int->En->Prop) (Q:Option Int->Hp->Prop),lT (md ob X) Z F σ H env->f env P ->
  (∀i bY F' H',P i bY->dO F F'->lT (md ob X) Z F' σ H' bY->Q i H')->t σ H Q
def AR:WO:=λenv P=>P none env
def AQ(a:WE):WO:=λenv P=>a env λx e=>opt (x6 x) λi=>P (some i) e
theorem gj:LO ob X none AR:=⟨_,jB,λZ F σ H env P Q K hf k=>k none env F H hf aj K⟩
theorem gi(h:Bd ob X e f):LO ob X (some e) (AQ f):=by
 obtain⟨t,ht,k⟩:=h.ex
 refine⟨_,jA ht,λZ F σ H env P Q K hf kk=>k Z F σ H env _ _ K hf λx e1 v F1 H1 p s1 K1 r1=>?_⟩
 obtain⟨z,hz,p⟩:=p
 cases x<;>cases hz
 rw[r1.int]
 exact⟨_,rfl,kk _ e1 F1 H1 p s1 K1⟩
def A7(xs:List α)(lo hi:Option Int):List α:=(xs.drop (HT.xM xs.length 0 lo)).take (HT.xM xs.length xs.length hi - HT.xM xs.length 0 lo)
def Fq:PV->Option Int->Option Int->Option PV
 |.lst xs,lo,hi=>some (.lst (A7 xs lo hi))
 |.tup xs,lo,hi=>some (.tup (A7 xs lo hi))
 |.y6 ns,lo,hi=>some (.lst ((A7 ns lo hi).map .int))
 |_,_,_=>none
def Ih(a:WE)(lo hi:WO):WE:=λenv P=>a env λx e1=>lo e1 λl e2=>hi e2 λu e3=>opt (Fq x l u) λz=>P z e3
theorem mr{vs:List V}{xs:List PV}{lo hi:Option Int}(r:iF K F vs xs):iF K F (zW vs lo hi) (A7 xs lo hi):=by
 unfold zW A7
 rw[r.len]
 exact(r.drop _).take _
theorem uA{lo hi:Option Int}:zW (ns.map V.int) lo hi=(A7 ns lo hi).map V.int:=by
 unfold zW A7
 rw[aad,aez,List.map_drop]
theorem kX{l u:Option Expr}{lo hi:WO}{p2:Pos}(ha:xu ob X a f)(hl:LO ob X l lo)(hu:LO ob X u hi):xu ob X (.Subscript a (.Slice l u none p2) pos) (Ih f lo hi):=by
 obtain⟨t,ht,k⟩:=ha.ex
 obtain⟨t1,EM,k1⟩:=hl.ex
 obtain⟨t2,EL,k2⟩:=hu.ex
 refine⟨_,hZ (FY.or jn sV) ht EM EL,λZ F σ H env P Q K hf kk=>k Z F σ H env _ _ K hf λx e1 v F1 H1 p s1 K1 r1=>?_⟩
 refine k1 Z F1 σ H1 e1 _ _ K1 p λi e2 F2 H2 p2 s2 K2=>k2 Z F2 σ H2 e2 _ _ K2 p2 λj e3 F3 H3 p3 s3 K3=>?_
 obtain⟨z,hz,p3⟩:=p3
 have r3:=(r1.mono s2).mono s3
 have s4:=ai s1 (ai s2 s3)
 have Mq:Vw (md ob X) F3 H3 v x:=.inl r3
 cases x<;>simp only[Fq]at hz<;>cases hz
 .obtain⟨q,vs,rfl,h1,h2⟩:=Mq.tup K3.sF
  refine .inr ⟨q,vs,rfl,h1,λhw=>kk _ e3 _ F3 H3 p3 s4 K3 ?_,λl hl=>?_⟩
  .have:A7 (α:=PV) ‹_› i j=‹List PV›:=by
    unfold A7
    rw[<- h2.len,hw.1,hw.2]
    simp[h2.len]
   rw[this];exact r3
  .have hF:F3 l=none:=dO.none_of K3.sF hl
   exact kk _ e3 _ _ _ p3 (ai s4 (ay hF)) (K3.lay hl) (.tup (.inl (.inl ag)) ((mr h2).mono (ay hF)))
 .obtain⟨q,vs,rfl,h1,h2⟩:=Mq.lst K3.sF
  refine .inl ⟨q,vs,rfl,.inl (.inl h1),λl hl=>?_⟩
  have hF:F3 l=none:=dO.none_of K3.sF hl
  exact kk _ e3 _ _ _ p3 (ai s4 (ay hF)) (K3.lay hl) (.lst ag ((mr h2).mono (ay hF)))
 .obtain⟨q,rfl,h1⟩:=Mq.y6 K3.sF
  refine .inl ⟨q,_,rfl,h1,λl hl=>?_⟩
  have hF:F3 l=none:=dO.none_of K3.sF hl
  exact kk _ e3 _ _ _ p3 (ai s4 (ay hF)) (K3.lay hl) (.lst (by rw[ag,uA]) (cB _))
structure KI(M:Md)(Z:Zn)(F:Hp)(P:Wd)(D:Ends):Prop where
 nx:∀env σ F' H,P.nx env->dO F F'->lT M Z F' σ H env->D.nx σ H
 rt:∀x env v σ F' H,P.rt x env->dO F F'->lT M Z F' σ H env->Rep M.K F' v x->D.rt v H
 bk:∀env σ F' H,P.bk env->dO F F'->lT M Z F' σ H env->D.bk σ H
 ct:∀env σ F' H,P.ct env->dO F F'->lT M Z F' σ H env->D.ct σ H
 rf:∀x env v σ F' H,P.rf x env->dO F F'->(∀xs,x≠.set xs)->lT M Z F' (σ++[some v]) H (env++[some ⟨1,x⟩])->D.rt v H
 ro:∀x i env v σ F' H,P.ro x i env->dO F F'->lT M Z F' σ H env->env[i]?=some (some ⟨4,x⟩)->σ[i]?=some (some v)->D.rt v H
variable{Z:Zn}{P:Wd}
theorem KI.mono{F1:Hp}{D:Ends}(h:KI M Z F P D)(s:dO F F1):KI M Z F1 P D :=
 ⟨λe σ F' H p q=>h.nx e σ F' H p (ai s q),λx e v σ F' H p q=>h.rt x e v σ F' H p (ai s q),λe σ F' H p q=>h.bk e σ F' H p (ai s q),λe σ F' H p q=>h.ct e σ F' H p (ai s q),λx e v σ F' H p q=>h.rf x e v σ F' H p (ai s q),λx i e v σ F' H p q=>h.ro x i e v σ F' H p (ai s q)⟩
structure AE(ob:xV)(X:Cx)(st:Stmt)(f:WS):Prop where
 ex:∃t:TS,PS X st t/\∀(Z:Zn) (F:Hp) (σ:L2.St) (H:Hp) (env:En) (P:Wd) (D:Ends),lT (md ob X) Z F σ H env->f P env->KI (md ob X) Z F P D->t D σ H
structure zX(ob:xV)(X:Cx)(st:List Stmt)(f:WS):Prop where
 ex:∃t:TS,C3 X st t/\∀(Z:Zn) (F:Hp) (σ:L2.St) (H:Hp) (env:En) (P:Wd) (D:Ends),lT (md ob X) Z F σ H env->f P env->KI (md ob X) Z F P D->t D σ H
abbrev WG:=PV->En->(En->Prop)->Prop
structure KO(ob:xV)(X:Cx)(tg:Expr)(f:WG):Prop where
 ex:∃t:TG,PG X tg t/\∀(Z:Zn) (F:Hp) (σ:L2.St) (H:Hp) (env:En) (v:V) (x:PV) (P:En->Prop) (Q:L2.St->Hp->Prop),lT (md ob X) Z F σ H env->Rep X.K F v x->f x env P ->
  (∀bY σ' F' H',P bY->dO F F'->lT (md ob X) Z F' σ' H' bY->Q σ' H')->t v σ H Q
abbrev GU:=List PV->En->(En->Prop)->Prop
structure Gb(ob:xV)(X:Cx)(PQ:List Expr)(f:GU):Prop where
 ex:∃t:Ed,KC X PQ t/\∀(Z:Zn) (F:Hp) (σ:L2.St) (H:Hp) (env:En) (vs:List V) (xs:List PV) (P:En->Prop) (Q:L2.St->Hp->Prop),lT (md ob X) Z F σ H env->iF X.K F vs xs->f xs env P ->
  (∀bY σ' F' H',P bY->dO F F'->lT (md ob X) Z F' σ' H' bY->Q σ' H')->t vs σ H Q
def wM(a b:WS):WS:=λP env=>a {P with nx:=b P} env
def yX:WS:=λP env=>P.nx env
def xF(a:WE):WS:=λP env=>a env P.rt
def zm(a:WE):WS:=λP env=>a env λ_ e=>P.nx e
def Az(c:WT)(a b:WS):WS:=λP env=>c env λk e=>if k=true then a P e else b P e
def xp(i:Nat)(a:WE):WS:=λP env=>a env λx e=>P.nx (e.set i (some ⟨0,x⟩))
def ym(i:Nat)(a:WE):WS:=λP env=>a env λx e=>P.nx (e.set i (some ⟨1,x⟩))
def gN(i:Nat):WG:=λx env P=>P (env.set i (some ⟨0,x⟩))
def Af:GU:=λxs env P=>xs=[]/\P env
def xR(g:WG)(r:GU):GU:=λxs env P=>match xs with
 |[]=>False
 |x::xs=>g x env λe=>r xs e P
def gT(r:GU):WG:=λx env P=>match x with
 |.tup xs=>r xs env P
 |_=>False
def Ez(a:WE)(g:WG):WS:=λP env=>a env λx e=>g x e P.nx
def Hf(i j:Nat)(a:WA):WS:=λP env=>a env λxs e=>match xs with
 |[x,y]=>P.nx ((e.set i (some ⟨0,x⟩)).set j (some ⟨0,y⟩))
 |_=>False
variable{tg:Expr}{st:Stmt}{IB:List Stmt}{u v:WS}
theorem aQ:zX ob X [] yX:=⟨_,m6,λZ F σ H env P D K hf L=>L.nx env σ F H hf aj K⟩
theorem am(h1:AE ob X st u)(h2:zX ob X IB v):zX ob X (st::IB) (wM u v):=by
 obtain⟨t1,EM,k1⟩:=h1.ex
 obtain⟨t2,EL,k2⟩:=h2.ex
 refine⟨_,bE EM EL,λZ F σ H env P D K hf L=>k1 Z F σ H env _ _ K hf ⟨λe σ' F' H' p s K'=>?_,L.rt,L.bk,L.ct,L.rf,L.ro⟩⟩
 exact k2 Z F' σ' H' e P D K' p (L.mono s)
theorem au(h1:AE ob X st u):zX ob X [st] u:=by
 obtain⟨t1,EM,k1⟩:=h1.ex
 exact⟨t1,cR EM,k1⟩
theorem aF(h:xu ob X e f):AE ob X (.Return (some e) pos) (xF f):=by
 obtain⟨t,ht,k⟩:=h.ex
 exact⟨_,cZ ht,λZ F σ H env P D K hf L=>k Z F σ H env _ _ K hf λx e1 v F1 H1 p s1 K1 r1=>L.rt x e1 v σ F1 H1 p s1 K1 r1⟩
theorem bV(h:Bd ob X e f)(hs:ab1 e none pos.line X.env=pure false:=by rfl):AE ob X (.Expr e pos) (zm f):=by
 obtain⟨t,ht,k⟩:=h.ex
 exact⟨_,ga ht hs,λZ F σ H env P D K hf L=>k Z F σ H env _ _ K hf λx e1 v F1 H1 p s1 K1 r1=>L.nx e1 σ F1 H1 p s1 K1⟩
theorem bn{s1 s2:List Stmt}(hc:C7 ob X c t)(ha:zX ob X s1 u)(hb:zX ob X s2 v):AE ob X (.If c s1 s2 pos) (Az t u v):=by
 obtain⟨w,hw,k⟩:=hc.ex
 obtain⟨ta,ha,ka⟩:=ha.ex
 obtain⟨tb,hb,kb⟩:=hb.ex
 refine⟨_,sx hw ha hb,λZ F σ H env P D K hf L=>k Z F σ H env _ _ K hf λx e1 F1 H1 p s1 K1=>?_⟩
 cases x with
 |true=>exact AV (ka Z F1 σ H1 e1 P D K1 p (L.mono s1))
 |false=>exact Ar (kb Z F1 σ H1 e1 P D K1 p (L.mono s1))
theorem aD(i:Nat){pos':Pos}(hN:X.N.Nodup)(hi:X.N[i]?=some x)(hx:Loc X.env.scope x)(he:xu ob X e f)(hs:ab1 e (some (.Name x pos')) pos.line X.env=pure false:=by rfl)(hf:X.fn x=true\/X.env.scope.names.lookup x=some .local:=by first|exact .inl rfl|exact .inr rfl|assumption):
  AE ob X (.Assign [.Name x pos'] e pos) (xp i f):=by
 obtain⟨t,ht,k⟩:=he.ex
 exact⟨_,cY hN hi hx ht hs hf,λZ F σ H env P D K hf L=>k Z F σ H env _ _ K hf λx e1 v F1 H1 p s1 K1 r1=>L.nx _ _ F1 H1 p s1 (K1.put r1)⟩
theorem bB(i:Nat){pos':Pos}(hN:X.N.Nodup)(hi:X.N[i]?=some x)(hx:Loc X.env.scope x)(he:C8 ob X e f)(hs:ab1 e (some (.Name x pos')) pos.line X.env=pure false:=by rfl)(hf:X.fn x=true\/X.env.scope.names.lookup x=some .local:=by first|exact .inl rfl|exact .inr rfl|assumption):
  AE ob X (.Assign [.Name x pos'] e pos) (ym i f):=by
 obtain⟨t,ht,k⟩:=he.ex
 exact⟨_,cY hN hi hx ht hs hf,λZ F σ H env P D K hf L=>k Z F σ H env _ _ K hf λx e1 v F1 H1 p s1 _ K1=>L.nx _ _ F1 H1 p s1 K1.take⟩
theorem aH(i:Nat)(hN:X.N.Nodup)(hi:X.N[i]?=some x)(hx:Loc X.env.scope x)(hf:X.fn x=true\/X.env.scope.names.lookup x=some .local:=by first|exact .inl rfl|exact .inr rfl|assumption):KO ob X (.Name x pos) (gN i) :=
 ⟨_,aI hN hi hx hf,λZ F σ H env v x P Q K r hf k=>k _ _ F H hf aj (K.put r)⟩
theorem eF:Gb ob X [] Af:=⟨_,na,λZ F σ H env vs xs P Q K r hf k=>by obtain⟨rfl,hf⟩:=hf;cases r;exact⟨rfl,k env σ F H hf aj K⟩⟩
theorem aU{g:WG}{r:GU}(h1:KO ob X e g)(h2:Gb ob X es r)(hs:(aci (e::es) X.env).map (·.2)=assign e X.env::(aci es X.env).map (·.2):=by rfl):Gb ob X (e::es) (xR g r):=by
 obtain⟨t1,EM,k1⟩:=h1.ex
 obtain⟨t2,EL,k2⟩:=h2.ex
 refine⟨_,hV EM EL hs,λZ F σ H env vs xs P Q K r hf k=>?_⟩
 cases r with
 |nil=>exact hf.elim
 |cons r1 r2=>
  refine⟨_,_,rfl,k1 Z F σ H env _ _ _ _ K r1 hf λe1 σ1 F1 H1 p s1 K1=>?_⟩
  exact k2 Z F1 σ1 H1 e1 _ _ P Q K1 (r2.mono s1) p λe2 σ2 F2 H2 p2 s2 K2=>k e2 σ2 F2 H2 p2 (ai s1 s2) K2
variable{n:Nat}
theorem fV{r:GU}{k:Nat}(hc:X.calm=true)(h:Gb ob X es r)(hl:∀xs env P,r xs env P->xs.length=n)(hn:(aci es X.env).length=n:=by rfl)(Bv:(aci es X.env).findIdx? (·.1)=none:=by rfl):KO ob X (.Tuple es k pos) (gT r):=by
 obtain⟨t,ht,kk⟩:=h.ex
 refine⟨_,pI hc ht hn Bv,λZ F σ H env v x P Q K r hf k=>?_⟩
 unfold gT at hf
 split at hf
 .have hl:=hl _ _ _ hf
  cases r with
  |tup h1 h2=>exact⟨_,_,rfl,aw K.sF h1,by rw[h2.len];exact hl,kk Z F σ H env _ _ P Q K h2 hf k⟩
 .exact hf.elim
theorem fS:∀xs env P,Af xs env P->xs.length=0:=λxs env P h=>by obtain⟨rfl,_⟩:=h;rfl
variable{i:Nat}
theorem bf{r:GU}(h:∀xs env P,r xs env P->xs.length=n):∀xs env P,xR (gN i) r xs env P->xs.length=n+1:=λxs env P q=>by
 cases xs with
 |nil=>exact q.elim
 |cons x xs=>exact congrArg (·+1) (h _ _ _ q)
theorem me{g:WG}(he:xu ob X e f)(hg:KO ob X tg g)(hs:adM [tg] e pos.line X.env=pure false:=by rfl)(hw:adN [tg] e X.env=pure none:=by rfl)
  (h1:(aci [tg] X.env).map (·.2)=[assign tg X.env]:=by rfl):AE ob X (.Assign [tg] e pos) (Ez f g):=by
 obtain⟨t,ht,k⟩:=he.ex
 obtain⟨t1,EM,k1⟩:=hg.ex
 refine⟨_,iO ht EM hs hw h1,λZ F σ H env P D K hf L=>k Z F σ H env _ _ K hf λx e1 v F1 H1 p s1 K1 r1=>?_⟩
 exact k1 Z F1 σ H1 e1 v x _ _ K1 r1 p λe2 σ2 F2 H2 p2 s2 K2=>L.nx e2 σ2 F2 H2 p2 (ai s1 s2) K2
variable{px py:Pos}
theorem vP(i j:Nat){y:Str}{pt:Pos}{kt k2 pt2}(hc:X.calm=true)(hN:X.N.Nodup)(hi:X.N[i]?=some x)(hj:X.N[j]?=some y)(Ae:i≠j)
  (hx:X.env.scope.names.lookup x=some .local) (hy:X.env.scope.names.lookup y=some .local) (ha:CC ob X [a,b] fa)
  (hw:adN [.Tuple [.Name x px,.Name y py] kt pt] (.Tuple [a,b] k2 pt2) X.env=pure (some [x,y]))
  (hs:adM [.Tuple [.Name x px,.Name y py] kt pt] (.Tuple [a,b] k2 pt2) pos.line X.env=pure false:=by rfl) :
  AE ob X (.Assign [.Tuple [.Name x px,.Name y py] kt pt] (.Tuple [a,b] k2 pt2) pos) (Hf i j fa):=by
 obtain⟨t,ht,k⟩:=ha.ex
 refine⟨_,uV hc hN hi hj Ae hx hy ht hw hs,λZ F σ H env P D K hf L=>k Z F σ H env _ _ K hf λxs e1 vs F1 H1 p hl s1 K1 r1=>?_⟩
 cases r1 with
 |nil=>cases hl
 |cons r1 r2=>cases r2 with
  |nil=>cases hl
  |cons r2 r3=>cases r3 with
   |nil=>exact⟨_,_,rfl,L.nx _ _ F1 H1 p s1 ((K1.put r1).put r2)⟩
   |cons=>simp at hl
def CG(c:WT)(b:WS)(P:Wd):Nat->En->Prop
 |0,_=>False
 |n+1,env=>c env λk e=>if k=true then b {P with nx:=CG c b P n,ct:=CG c b P n,bk:=P.nx} e else P.nx e
def zN(c:WT)(b:WS):WS:=λP env=>∃n,CG c b P n env
theorem ma(hp:PassesOwn (model X.prog X.w) X.A X.env X.xe)(hc:C7 ob X c t)(hb:zX ob X IB u):AE ob X (.While c IB [] pos) (zN t u):=by
 obtain⟨w,hw,k⟩:=hc.ex
 obtain⟨tb,hb,kb⟩:=hb.ex
 refine⟨_,lw hp hw hb,λZ F σ H env P D K hf L=>?_⟩
 obtain⟨n,hf⟩:=hf
 refine⟨λm σ' H'=>∃F' bY,dO F F'/\lT (md ob X) Z F' σ' H' bY/\CG t u P m bY,⟨n,F,env,aj,K,hf⟩,?_⟩
 rintro m σ' H' ⟨F',bY,s,K',hg⟩
 cases m with
 |zero=>exact hg.elim
 |succ m=>
  refine k Z F' σ' H' bY _ _ K' hg λx e1 F1 H1 p s1 K1=>?_
  cases x with
  |true=>
   refine AV ⟨λσ2 H2=>∃F2 e2,dO F F2/\lT (md ob X) Z F2 σ2 H2 e2/\CG t u P m e2,λσ2 H2 q=>⟨m,abw m,q⟩,?_⟩
   have sF:=ai s s1
   exact kb Z F1 σ' H1 e1 _ _ K1 p ⟨λe2 σ2 F2 H2 q s2 K2=>⟨F2,e2,ai sF s2,K2,q⟩,(L.mono sF).rt,(L.mono sF).nx,λe2 σ2 F2 H2 q s2 K2=>⟨F2,e2,ai sF s2,K2,q⟩,(L.mono sF).rf,(L.mono sF).ro⟩
  |false=>exact Ar (L.nx e1 σ' F1 H1 p (ai s s1) K1)
structure C4(M:Md)(J:It)(F:Hp)(xs:List PV):Prop where
 go:∀(Z:Zn) (i:Nat) (σ:L2.St) (env:En) (F' H:Hp) (x:PV),dO F F'->lT M Z F' σ H env->xs[i]?=some x->J.go i H/\∀v H',J.yld i H v H'->∃LN,dO F' LN/\lT M Z LN σ H' env/\Rep M.K LN v x/\dO H H'/\∀a,LN a≠none->F' a≠none\/H a=none
 stop:∀(Z:Zn) (i:Nat) (σ:L2.St) (env:En) (F' H:Hp),dO F F'->lT M Z F' σ H env->xs.length<=i->J.stop i H
structure Ga(ob:xV)(X:Cx)(tg it:Expr)(f:WA):Prop where
 ex:∃wi:TI,PI X tg it wi/\∀(Z:Zn) (F:Hp) (σ:L2.St) (H:Hp) (env:En) (P:List PV->En->Prop) (R:It->Hp->Prop),lT (md ob X) Z F σ H env->f env P ->
  (∀xs bY J F' H',P xs bY->dO F F'->lT (md ob X) Z F' σ H' bY->C4 (md ob X) J F' xs->R J H')->wi σ H R
theorem vI{a:Addr}{vs:List V}{xs:List PV}(h:F a=some (.lst vs))(r:iF M.K F vs xs):C4 M (Fm M.K a) F xs:=by
 refine⟨λZ i σ env F' H x s K e=>?_,λZ i σ env F' H s K hl=>⟨vs,.inl (.inl (K.sF _ _ (s _ _ h))),by rw[r.len];exact hl⟩⟩
 obtain⟨v,hv,rv⟩:=r.get e
 have hH:yf M.K H a vs:=.inl (.inl (K.sF _ _ (s _ _ h)))
 refine⟨⟨vs,v,hH,hv⟩,λv' H' y=>?_⟩
 obtain⟨rfl,y⟩:=y
 have:=y vs hH
 rw[hv]at this;cases this
 exact⟨F',aj,K,rv.mono s,aj,λ_ h=>.inl h⟩
theorem vG{a:Addr}{vs:List V}{xs:List PV}(h:yI M.K F a vs)(r:iF M.K F vs xs):C4 M (N1 M.K a) F xs:=by
 refine⟨λZ i σ env F' H x s K e=>?_,λZ i σ env F' H s K hl=>⟨vs,aw K.sF (aw s h),by rw[r.len];exact hl⟩⟩
 obtain⟨v,hv,rv⟩:=r.get e
 have hH:yI M.K H a vs:=aw K.sF (aw s h)
 refine⟨⟨vs,v,hH,hv⟩,λv' H' y=>?_⟩
 obtain⟨rfl,y⟩:=y
 have:=y vs hH
 rw[hv]at this;cases this
 exact⟨F',aj,K,rv.mono s,aj,λ_ h=>.inl h⟩
def MN(K:aah)(tl:TE):TI:=λσ H R=>tl σ H λx H1=>∃a,x=.ref a/\(((∃xs,yf K H1 a xs)/\R (Fm K a) H1)\/((∃xs,yI K H1 a xs)/\R (N1 K a) H1))
theorem uW{l:Expr}{tl:TE}(hl:PE X l tl):PI X tg l (MN X.K tl):=by
 intro pins s σ H R I h
 refine xH (hl pins s σ H _ I h) λv s1 ⟨x,H1,I1,r1,q1⟩=>?_
 obtain⟨a,e,q⟩:=q1
 subst e
 cases r1
 rcases q with ⟨⟨xs,hq⟩,q⟩|⟨⟨xs,hq⟩,q⟩
 .obtain⟨gE,rv,p,hz⟩:=I1.list hq
  refine acU p.isList ?_
  refine⟨s1.heap.objs.size,[s1.heap.objs.size],_,_,H1,rfl,I1.kept (t':=s1.toks) λb o e=>aac _ e,j4 a _,⟨_,aal _ rfl,rfl,rfl⟩,λb hb=>?_,q⟩
  have e:b=s1.heap.objs.size:=by simpa using hb
  subst e
  exact I1.DW (aak _) (I1.wU.fresh (aak _))
 .obtain⟨gE,rv,p,hz⟩:=I1.tuple hq
  refine wpAny_pyIter_tuple (show s1.heap.IsTuple a gE.toArray from p) ?_
  refine⟨s1.heap.objs.size,[s1.heap.objs.size],_,_,H1,rfl,I1.kept (t':=s1.toks) λb o e=>aac _ e,n5 a _,⟨_,aal _ rfl,rfl,rfl⟩,λb hb=>?_,q⟩
  have e:b=s1.heap.objs.size:=by simpa using hb
  subst e
  exact I1.DW (aak _) (I1.wU.fresh (aak _))
def iS(a:WE):WA:=λenv P=>a env λx e=>match x with
 |.lst xs=>P xs e
 |.tup xs=>P xs e
 |_=>False
theorem aK(h:xu ob X e f):Ga ob X tg e (iS f):=by
 obtain⟨t,ht,k⟩:=h.ex
 refine⟨_,uW ht,λZ F σ H env P R K hf kk=>k Z F σ H env _ _ K hf λx e1 v F1 H1 p s1 K1 r1=>?_⟩
 cases r1 with
 |tup h1 h2=>exact⟨_,rfl,.inr ⟨⟨_,aw K1.sF h1⟩,kk _ e1 _ F1 H1 p s1 K1 (vG h1 h2)⟩⟩
 |lst h1 h2=>exact⟨_,rfl,.inl ⟨⟨_,.inl (.inl (K1.sF _ _ h1))⟩,kk _ e1 _ F1 H1 p s1 K1 (vI h1 h2)⟩⟩
 |_=>exact p.elim
def AL(lo:Int)(n:Nat):List PV:=(aaR n).map λ(k:Nat)=>.int (lo+(k:Int))
theorem vH{lo:Int}:C4 M (LI lo n) F (AL lo n):=by
 refine⟨λZ i σ env F' H x s K e=>?_,λZ i σ env F' H s K hl=>show n<=i by simpa[AL]using hl⟩
 have hi:i<n:=by
  rcases aaO i n with h|h
  .exact h
  .rw[aan (by simpa[AL]using h)]at e;cases e
 have ex:x=.int (lo+i):=by
  unfold AL at e
  rw[aai,abT hi]at e
  exact(aao e).symm
 subst ex
 refine⟨hi,λv' H' y=>?_⟩
 obtain⟨rfl,rfl⟩:=y
 exact⟨F',aj,K,.int _,aj,λ_ h=>.inl h⟩
def IE(a:WA):WA:=λenv P=>a env λxs e=>match xs with
 |[.int j]=> -1000000<=j/\j<=1000000/\P (AL 0 j.toNat) e
 |_=>False
def Qp(a:WA):WA:=λenv P=>a env λxs e=>match xs with
 |[.int i,.int j]=>(-1000000<=i/\i<=1000000 /\ -1000000<=j/\j<=1000000)/\P (AL i (j - i).toNat) e
 |_=>False
theorem fU(hg:Gl X "range")(hm:X.mg "range" = none)(ha:CC ob X [a] fa)(hs:aam [a] X.env=[(false,eval a X.env)]:=by rfl):Ga ob X tg (.Call (.Name "range" p) [a] [] pos) (IE fa):=by
 obtain⟨t,ht,k⟩:=ha.ex
 refine⟨_,pH hg hm ht hs,λZ F σ H env P R K hf kk=>k Z F σ H env _ _ K hf λxs e1 vs F1 H1 p _ s1 K1 r1=>?_⟩
 split at p
 .cases r1 with
  |cons r1 r2=>
   cases r1
   cases r2
   exact⟨_,rfl,by omega,by omega,kk _ e1 _ F1 H1 p.2.2 s1 K1 vH⟩
 .exact p.elim
def IX(xs ys:List PV):List PV:=(xs.zip ys).map λp=>.tup [p.1,p.2]
def Ha(s:Str):List PV:=s.cps.toList.map λc=>.str ⟨#[c]⟩
def JW(a:WE):WA:=λenv P=>a env λx e=>match x with
 |.str s=>P (Ha s) e
 |_=>False
def yS(g:WG)(b:WS)(P:Wd):List PV->En->Prop
 |[],env=>P.nx env
 |x::xs,env=>g x env λe=>b {P with nx:=yS g b P xs,ct:=yS g b P xs,bk:=P.nx} e
def zt(it:WA)(g:WG)(b:WS):WS:=λP env=>it env λxs e=>yS g b P xs e
theorem bx{it:Expr}{g:WG}(hp:PassesOwn (model X.prog X.w) X.A X.env X.xe)(hc:X.calm=true)(hi:Ga ob X tg it fa)(hg:KO ob X tg g)(hb:zX ob X IB u)
  (hs:∀x,aa4 it X.env x=pure x:=by intro _;rfl):AE ob X (.For tg it IB [] pos) (zt fa g u):=by
 obtain⟨wi,FA,k⟩:=hi.ex
 obtain⟨Iz,Qw,kg⟩:=hg.ex
 obtain⟨tb,JZ,kb⟩:=hb.ex
 refine⟨_,pD hp hc FA Qw JZ hs,λZ F σ H env P D K hf L=>k Z F σ H env _ _ K hf λxs e1 J F1 H1 p s1 K1 I1=>?_⟩
 have L1:=L.mono s1
 refine⟨λi m σ' H'=>m=xs.length - i/\∃F' bY,dO F1 F'/\lT (md ob X) Z F' σ' H' bY/\yS g u P (xs.drop i) bY,⟨_,rfl,F1,e1,aj,K1,p⟩,?_⟩
 rintro i m σ' H' ⟨rfl,F',bY,s,K',IJ⟩
 by_cases xA:i<xs.length
 .rw[acB xA]at IJ
  obtain⟨h1,h2⟩:=I1.go Z i σ' bY F' H' xs[i] s K' (by simp[xA])
  refine .inr ⟨h1,λσ2 H2=>∃F2 e2,dO F1 F2/\lT (md ob X) Z F2 σ2 H2 e2/\yS g u P (xs.drop (i+1)) e2,λσ2 H2 q=>⟨xs.length - (i+1),by omega,rfl,q⟩,λv H2 y=>?_⟩
  obtain⟨F2,s2,K2,r2,_,_⟩:=h2 v H2 y
  refine kg Z F2 σ' H2 bY v xs[i] _ _ K2 r2 IJ λe3 σ3 F3 H3 p3 s3 K3=>?_
  have sF:=ai s (ai s2 s3)
  exact kb Z F3 σ3 H3 e3 _ _ K3 p3 ⟨λe4 σ4 F4 H4 q s4 K4=>⟨F4,e4,ai sF s4,K4,q⟩,(L1.mono sF).rt,(L1.mono sF).nx,λe4 σ4 F4 H4 q s4 K4=>⟨F4,e4,ai sF s4,K4,q⟩,(L1.mono sF).rf,(L1.mono sF).ro⟩
 .rw[acR (by omega)]at IJ
  exact .inl ⟨I1.stop Z i σ' bY F' H' s K' (by omega),L1.nx bY σ' F' H' IJ s K'⟩
def lend(s:Sl):Sl:=if s.k=1 then ⟨3,s.v⟩else s
def Bn(js:List (Option Nat))(env:En):En:=js.map λo=>o.bind λj=>((env[j]?).getD none).map lend
def zp(s s':Sl):Option Sl:=if s'.k=3 then (if s.k=1\/s.k=3 then some ⟨s.k,s'.v⟩else none)else if s'.k=2 then (if s.k=2 then some s' else none)else some s'
def xC(js:List (Option Nat))(env benv:En):En:=env.mapIdx λj o=>match js.findIdx? (λq=>q==some j)with
 |none=>o
 |some i=>match o,benv[i]? with
  |some s,some (some s')=>zp s s'
  |_,_=>none
def BH(js:List (Option Nat)):Bool:=decide (js.filterMap id).Nodup
theorem ik:∀{js:List (Option Nat)},(js.filterMap id).Nodup->∀(i i':Nat) (j:Nat),js[i]?=some (some j)->js[i']?=some (some j)->i=i'
 |[],_,i,i',j,h,_=>by simp at h
 |none::js,hn,i,i',j,h,h'=>by
  cases i with
  |zero=>simp at h
  |succ i=>
   cases i' with
   |zero=>simp at h'
   |succ i'=>
    simp at h h' hn
    exact congrArg (·+1) (ik (js:=js) (by simpa using hn) i i' j h h')
 |some k::js,hn,i,i',j,h,h'=>by
  simp only[abU,id]at hn
  obtain⟨hk,hn⟩:=List.nodup_cons.mp hn
  have mem:∀m,js[m]?=some (some k)->False:=λm hm=>hk (List.mem_filterMap.mpr ⟨some k,aaI hm,rfl⟩)
  cases i with
  |zero=>
   simp at h;subst h
   cases i' with
   |zero=>rfl
   |succ i'=>exact(mem i' (by simpa using h')).elim
  |succ i=>
   cases i' with
   |zero=>simp at h';subst h';exact(mem i (by simpa using h)).elim
   |succ i'=>exact congrArg (·+1) (ik hn i i' j (by simpa using h) (by simpa using h'))
variable{F' H':Hp}{env:En}
theorem Bb.wr{v:V}{s:Sl}{fp:List Addr}(h:Bb M Z F H v s fp):∀c∈fp,c∈Z.S\/Z.H₀ c=none:=by
 rcases h with ⟨_,rfl,_⟩|⟨_,a,_,rfl,h0,_⟩|⟨_,a,_,h,_⟩|⟨_,a,_,rfl,h0,_⟩
 .intro c hc;simp at hc
 .intro c hc;simp at hc;subst hc;exact .inr h0
 .exact h
 .intro c hc;simp at hc;subst hc;exact .inl h0
def zF(js:List (Option Nat))(env:En)(fp:Nat->List Addr)(i:Nat):List Addr:=match js[i]? with
 |some (some j)=>match env[j]? with
  |some (some _)=>fp j
  |_=>[]
 |_=>[]
def Co(js:List (Option Nat))(env:En)(fp:Nat->List Addr)(H:Hp):List Addr:=((aaR js.length).flatMap (zF js env fp)).filter λb=>(H b).isSome
variable{js:List (Option Nat)}{fp:Nat->List Addr}
theorem pV{a:Addr}(h:a∈zF js env fp i)(hH:H a≠none):a∈Co js env fp H:=by
 refine List.mem_filter.mpr ⟨List.mem_flatMap.mpr ⟨i,List.mem_range.mpr ?_,h⟩,by obtain⟨o,ho⟩:=b8 hH;rw[ho];rfl⟩
 rcases aaO i js.length with q|q
 .exact q
 .unfold zF at h;rw[aan q]at h;simp at h
theorem bS{a:Addr}(h:a∈Co js env fp H):∃(i j:Nat) (s:Sl),js[i]?=some (some j)/\env[j]?=some (some s)/\a∈fp j:=by
 obtain⟨i,_,h⟩:=List.mem_flatMap.mp (List.mem_filter.mp h).1
 unfold zF at h
 split at h
 .rename_i j ej
  split at h
  .rename_i s es
   exact⟨i,j,s,ej,es,h⟩
  .simp at h
 .simp at h
theorem sm{s':Sl}(h:(Bn js env)[i]?=some (some s')):∃j s,js[i]?=some (some j)/\env[j]?=some (some s)/\s'=lend s:=by
 unfold Bn at h
 rw[aai]at h
 cases ej:js[i]? with
 |none=>rw[ej]at h;cases h
 |some o=>
  cases o with
  |none=>rw[ej]at h;cases h
  |some j=>
   rw[ej]at h
   have h:((env[j]?).getD none).map lend=some s':=aao h
   cases es:env[j]? with
   |none=>rw[es]at h;cases h
   |some o=>
    cases o with
    |none=>rw[es]at h;cases h
    |some s=>rw[es]at h;exact⟨j,s,rfl,es,(aao h).symm⟩
theorem my{j:Nat}{v:V}(h:js[i]?=some (some j))(hv:σ[j]?=some (some v)):(xm js σ)[i]?=some (some v):=by
 unfold xm
 rw[aai,h]
 show some ((σ[j]?).getD none)=_
 rw[hv];rfl
def Zb(js:List (Option Nat))(env:En)(fp:Nat->List Addr)(F H:Hp):Zn:={H₀:=H,F₀:=F,S:=Co js env fp H,sS:=λb hb e=>by have:=(List.mem_filter.mp hb).2;rw[e]at this;cases this}
theorem iu(hj:BH js=true)(K:lT M Z F σ H env)(L:Slots M Z F σ H env fp):lT M (Zb js env fp F H) F (xm js σ) H (Bn js env):=by
 have hn:(js.filterMap id).Nodup:=of_decide_eq_true hj
 refine⟨K.sF,λb o h _=>h,λb h=>h,aj,λa h=>.inl h,by simp[Bn,xm],zF js env fp,λi s' h=>?_,λi a h=>?_,λi i' a Q3 h h'=>?_,λi a s e=>by cases e⟩
 .obtain⟨j,s,ej,es,rfl⟩:=sm h
  obtain⟨v,hv,ok⟩:=L.at' j s es
  have ef:zF js env fp i=fp j:=by unfold zF;rw[ej];dsimp only;rw[es]
  refine⟨v,my ej hv,?_⟩
  have E9:∀c∈fp j,c∈(Zb js env fp F H).S:=λc hc=>pV (i:=i) (by rw[ef];exact hc) (L.al j c hc).1
  rw[ef]
  rcases ok with ⟨k,e,r⟩|⟨k,a,e,e2,h0,r⟩|⟨k,a,e,h0,r⟩|⟨k,a,e,e2,h0,r⟩
  .have:lend s=s:=by unfold lend;rw[if_neg (by rw[k];decide)]
   rw[this];exact .inl ⟨k,e,r⟩
  .have:lend s=⟨3,s.v⟩:=by unfold lend;rw[if_pos k]
   rw[this];exact .inr (.inr (.inr ⟨rfl,a,e,e2,E9 a (by rw[e2];simp),r⟩))
  .have:lend s=s:=by unfold lend;rw[if_neg (by rcases k with k|k<;>(rw[k];decide))]
   rw[this];exact .inr (.inr (.inl ⟨k,a,e,λc hc=>.inl (E9 c hc),r⟩))
  .have:lend s=s:=by unfold lend;rw[if_neg (by rw[k];decide)]
   rw[this];exact .inr (.inr (.inr ⟨k,a,e,e2,E9 a (by rw[e2];simp),r⟩))
 .unfold zF at h
  split at h
  .split at h
   .exact L.al _ a h
   .simp at h
  .simp at h
 .unfold zF at h h'
  split at h
  .rename_i j ej
   split at h'
   .rename_i j' RK
    split at h
    .split at h'
     .have:j≠j':=λe=>by subst e;exact Q3 (ik hn i i' j ej RK)
      exact L.dj j j' a this h h'
     .simp at h'
    .simp at h
   .simp at h'
  .simp at h
theorem fY{σb:L2.St}{benv:En}(hj:BH js=true)(K:lT M Z F σ H env)(L:Slots M Z F σ H env fp)(Kb:lT M (Zb js env fp F H) F' σb H' benv)
  (hσ:∀(k j:Nat),js[k]?=some (some j)->σb[k]?=(xm js σ)[k]?) :
  ∃CB,Slots M Z F' σ H' (xC js env benv) CB/\lT M Z F' σ H' (xC js env benv)/\∀i a,a∈CB i->(∃i',a∈fp i')\/H a=none:=by
 have hn:(js.filterMap id).Nodup:=of_decide_eq_true hj
 obtain⟨fb,Lb⟩:=Kb.sl
 have E9:∀c∈Co js env fp H,(c∈Z.S\/Z.H₀ c=none)/\∃i',c∈fp i':=λc hc=>by
  obtain⟨i,j,s,e1,e2,e3⟩:=bS hc
  obtain⟨v,_,ok⟩:=L.at' j s e2
  exact⟨ok.wr c e3,j,e3⟩
 have Ia:∀j i,js.findIdx? (λq=>q==some j)=some i->js[i]?=some (some j):=λj i h=>by
  rw[List.findIdx?_eq_some_iff_getElem]at h
  obtain⟨hi,he,_⟩:=h
  rw[aaa hi,eq_of_beq he]
 have Kw:∀j,(xC js env benv)[j]?=(env[j]?).map λo=>(match js.findIdx? (λq=>q==some j)with
   |none=>o
   |some i=>match o,benv[i]? with
    |some s,some (some s')=>zp s s'
    |_,_=>none):=λj=>by
  unfold xC
  rw[List.getElem?_mapIdx]
 have Ph:∀i s',benv[i]?=some (some s')->∀c∈fb i,(c∈Z.S\/Z.H₀ c=none)/\((∃i',c∈fp i')\/H c=none):=λi s' e c hc=>by
  obtain⟨v,_,ok⟩:=Lb.at' i s' e
  rcases ok.wr c hc with h|h
  .exact⟨(E9 c h).1,.inl (E9 c h).2⟩
  .exact⟨.inr (K.h0 h),.inr h⟩
 let CB:Nat->List Addr:=λj=>match js.findIdx? (λq=>q==some j)with
  |none=>fp j
  |some i=>match env[j]?,benv[i]? with
   |some (some s),some (some s')=>if (zp s s').isSome=true then fb i else []
   |_,_=>[]
 have keep:∀c o,H c=some o->c∉Co js env fp H->H' c=some o:=λc o h1 h2=>Kb.sG c o h1 h2
 have S:Slots M Z F' σ H' (xC js env benv) CB:=by
  refine⟨λj t e=>?_,λj a h=>?_,λj j2 a II h h2=>?_,λj a t e1 e e3=>?_⟩
  case refine_4=>
   rw[Kw]at e
   cases ej:env[j]? with
   |none=>rw[ej]at e;cases e
   |some o=>
    rw[ej]at e
    have e:=aao e
    cases ei:js.findIdx? (λq=>q==some j)with
    |none=>
     rw[ei]at e
     dsimp only at e
     subst e
     exact L.oa j a t e1 ej e3
    |some i=>
     rw[ei]at e
     dsimp only at e
     cases o with
     |none=>cases e
     |some s=>
      cases eb:benv[i]? with
      |none=>rw[eb]at e;cases e
      |some w=>
       cases w with
       |none=>rw[eb]at e;cases e
       |some s'=>
        rw[eb]at e
        dsimp only at e
        unfold zp at e
        split at e
        .split at e
         .rename_i h1 h2
          cases e
          rcases h2 with q|q
          .rw[q]at e3;cases e3
          .rw[q]at e3;cases e3
         .cases e
        .split at e
         .split at e
          .rename_i h1
           exact L.oa j a s e1 ej h1
          .cases e
         .rename_i h1
          cases e
          exact absurd e3 h1
  .rw[Kw]at e
   cases ej:env[j]? with
   |none=>rw[ej]at e;cases e
   |some o=>
    rw[ej]at e
    have e:=aao e
    show ∃v,σ[j]?=some (some v)/\Bb M Z F' H' v t (match js.findIdx? (λq=>q==some j)with
     |none=>fp j
     |some i=>match env[j]?,benv[i]? with
      |some (some s),some (some s')=>if (zp s s').isSome=true then fb i else []
      |_,_=>[])
    cases ei:js.findIdx? (λq=>q==some j)with
    |none=>
     rw[ei]at e
     dsimp only at e
     subst e
     obtain⟨v,hv,ok⟩:=L.at' j t ej
     refine⟨v,hv,ok.mono Kb.gr λc hc=>?_⟩
     have Fh:=L.al j c hc
     obtain⟨o,ho⟩:=b8 Fh.1
     rw[ho]
     refine keep c o ho λhS=>?_
     obtain⟨i,j',s,e1,e2,e3⟩:=bS hS
     have:j≠j':=λz=>by
      subst z
      rw[afu]at ei
      have:=ei (some j) (aaI e1)
      simp at this
     exact L.dj j j' c this hc e3
    |some i=>
     rw[ei]at e
     dsimp only at e ⊢
     have Pd:=Ia j i ei
     cases o with
     |none=>cases e
     |some s=>
      rw[ej]
      cases eb:benv[i]? with
      |none=>rw[eb]at e;cases e
      |some w=>
       cases w with
       |none=>rw[eb]at e;cases e
       |some s'=>
        rw[eb]at e
        dsimp only at e ⊢
        rw[e,if_pos (aey)]
        obtain⟨v0,AB,Mt⟩:=L.at' j s ej
        obtain⟨v,hv,ok⟩:=Lb.at' i s' eb
        rw[hσ i j Pd,my Pd AB]at hv
        cases hv
        refine⟨v0,AB,?_⟩
        unfold zp at e
        rcases ok with ⟨k,e1,r⟩|⟨k,a,e1,e2,h0,r⟩|⟨k,a,e1,h0,r⟩|⟨k,a,e1,e2,h0,r⟩
        .rw[if_neg (by rw[k];decide),if_neg (by rw[k];decide)]at e
         cases e
         exact .inl ⟨k,e1,r⟩
        .rw[if_neg (by rw[k];decide),if_neg (by rw[k];decide)]at e
         cases e
         exact .inr (.inl ⟨k,a,e1,e2,K.h0 h0,r⟩)
        .rw[if_neg (by rcases k with k|k<;>(rw[k];decide))]at e
         have e:s'=t:=by
          split at e
          .split at e
           .exact aao e
           .cases e
          .exact aao e
         subst e
         refine .inr (.inr (.inl ⟨k,a,e1,λc hc=>(Ph i _ eb c hc).1,r⟩))
        .rw[if_pos k]at e
         split at e
         .rename_i hk
          cases e
          rcases Mt with ⟨k0,_⟩|⟨k0,a0,f1,f2,f3,_⟩|⟨k0,_⟩|⟨k0,a0,f1,f2,f3,_⟩
          .rw[k0]at hk;rcases hk with z|z<;>cases z
          .rw[e1]at f1;cases f1
           exact .inr (.inl ⟨k0,a,e1,e2,f3,r⟩)
          .rcases k0 with k0|k0<;>(rw[k0]at hk;rcases hk with z|z<;>cases z)
          .rw[e1]at f1;cases f1
           exact .inr (.inr (.inr ⟨k0,a,e1,e2,f3,r⟩))
         .cases e
  .have h:a∈(match js.findIdx? (λq=>q==some j)with
     |none=>fp j
     |some i=>match env[j]?,benv[i]? with
      |some (some s),some (some s')=>if (zp s s').isSome=true then fb i else []
      |_,_=>[]):=h
   split at h
   .rename_i ei
    have h0:=L.al j a h
    obtain⟨o,ho⟩:=b8 h0.1
    constructor
    .intro z
     have:=Kb.pr a (by show H a≠none;exact h0.1)
     exact this z
    .cases ef:F' a with
     |none=>rfl
     |some o=>
      rcases Kb.nw a (by rw[ef];simp)with q|q
      .exact absurd h0.2 q
      .exact absurd q h0.1
   .split at h
    .split at h
     .exact Lb.al _ a h
     .simp at h
    .simp at h
  .have h:a∈(match js.findIdx? (λq=>q==some j)with
     |none=>fp j
     |some i=>match env[j]?,benv[i]? with
      |some (some s),some (some s')=>if (zp s s').isSome=true then fb i else []
      |_,_=>[]):=h
   have h2:a∈(match js.findIdx? (λq=>q==some j2)with
     |none=>fp j2
     |some i=>match env[j2]?,benv[i]? with
      |some (some s),some (some s')=>if (zp s s').isSome=true then fb i else []
      |_,_=>[]):=h2
   have JK:∀{j1 i:Nat} {s':Sl},js.findIdx? (λq=>q==some j1)=none->benv[i]?=some (some s')->a∈fp j1->a∈fb i->False:=λ{j1 i s'} e1 e2 m1 m2=>by
    obtain⟨v,_,ok⟩:=Lb.at' i s' e2
    rcases ok.wr a m2 with q|q
    .obtain⟨i',j',s,q1,q2,q3⟩:=bS q
     have:j1≠j':=λz=>by
      subst z
      rw[afu]at e1
      have:=e1 (some j1) (aaI q1)
      simp at this
     exact L.dj j1 j' a this m1 q3
    .exact(L.al j1 a m1).1 q
   split at h
   .rename_i ei
    split at h2
    .exact L.dj j j2 a II h h2
    .split at h2
     .rename_i eb
      split at h2
      .exact JK ei eb h h2
      .simp at h2
     .simp at h2
   .rename_i i ei
    split at h
    .rename_i eb
     split at h
     .split at h2
      .rename_i NQ
       exact JK NQ eb h2 h
      .rename_i i2 NQ
       split at h2
       .split at h2
        .have:i≠i2:=λz=>by
          subst z
          have q1:=Ia j i ei
          have q2:=Ia j2 i NQ
          rw[q1]at q2
          cases q2
          exact II rfl
         exact Lb.dj i i2 a this h h2
        .simp at h2
       .simp at h2
     .simp at h
    .simp at h
 refine⟨CB,S,⟨Kb.sF,λb o h1 h2=>keep b o (K.sG b o h1 h2) λhS=>?_,λb h=>Kb.pr b (K.pr b h),ai K.gr Kb.gr,λa h=>?_,by unfold xC;rw[List.length_mapIdx];exact K.len,CB,S⟩,λj a h=>?_⟩
 .rcases(E9 b hS).1 with q|q
  .exact h2 q
  .rw[q]at h1;cases h1
 .rcases Kb.nw a h with q|q
  .exact K.nw a q
  .exact .inr (K.h0 q)
 .have h:a∈(match js.findIdx? (λq=>q==some j)with
    |none=>fp j
    |some i=>match env[j]?,benv[i]? with
     |some (some s),some (some s')=>if (zp s s').isSome=true then fb i else []
     |_,_=>[]):=h
  split at h
  .exact .inl ⟨j,h⟩
  .split at h
   .rename_i eb
    split at h
    .exact(Ph _ _ eb a h).2
    .simp at h
   .simp at h
def EB(M:Md)(f:WE):TE:=λσ H Q=>∃(Z:Zn) (F:Hp) (env:En) (P:PV->En->Prop),lT M Z F σ H env/\f env P/\∀x bY v F' H',P x bY->dO F F'->lT M Z F' σ H' bY->Rep M.K F' v x->Q v H'
def Gj(M:Md)(f:WT):TT:=λσ H Q=>∃(Z:Zn) (F:Hp) (env:En) (P:Bool->En->Prop),lT M Z F σ H env/\f env P/\∀b bY F' H',P b bY->dO F F'->lT M Z F' σ H' bY->Q b H'
theorem xu.pe(h:xu ob X e f):PE X e (EB (md ob X) f):=by
 obtain⟨t,ht,k⟩:=h.ex
 rintro pins s σ H Q I ⟨Z,F,env,P,K,hf,kk⟩
 exact ht pins s σ H Q I (k Z F σ H env P Q K hf kk)
structure IV(ob:xV)(X:Cx)(ifs:List Expr)(f:WT):Prop where
 ex:PF X ifs (Gj (md ob X) f)
def Bh:WT:=λenv P=>P true env
theorem bp:IV ob X [] Bh:=⟨by
 rintro pins s σ H Q I ⟨Z,F,env,P,K,hf,kk⟩
 exact pK pins s σ H Q I (kk true env F H hf aj K)⟩
theorem mi(h:C7 ob X c t):IV ob X [c] t:=⟨by
 obtain⟨w,hw,k⟩:=h.ex
 rintro pins s σ H Q I ⟨Z,F,env,P,K,hf,kk⟩
 exact pJ hw pins s σ H Q I (k Z F σ H env P Q K hf kk)⟩
inductive Ec where
 |nm (i:Nat)|tp (l:List Nat)
def Am:List Nat->Ed
 |[]=>HX
 |i::l=>Cj (yL i) (Am l)
def BC(K:aah):Ec->TG
 |.nm i=>yL i
 |.tp l=>HV K l.length (Am l)
def CI:List Nat->List PV->En->En
 |i::l,x::xs,env=>CI l xs (env.set i (some ⟨0,x⟩))
 |_,_,env=>env
def Ax:Ec->WG
 |.nm i=>λx env P=>P (env.set i (some ⟨0,x⟩))
 |.tp l=>λx env P=>match x with
  |.tup xs=>xs.length=l.length/\P (CI l xs env)
  |_=>False
def za(js:List (Option Nat)):Ec->Bool
 |.nm i=>decide (js[i]?=some none)
 |.tp l=>l.all λi=>decide (js[i]?=some none)
theorem qj:∀{l:List Nat},(l.all λi=>decide (js[i]?=some none))=true->KN js (Am l)
 |[],_=>vM
 |i::l,h=>by
  rw[List.all_cons,aaT]at h
  refine uf (gg (of_decide_eq_true h.1)) (qj h.2) er ?_
  have mono:∀(l:List Nat),∀x σ H (Q Q':L2.St->Hp->Prop),(∀a b,Q a b->Q' a b)->Am l x σ H Q->Am l x σ H Q':=by
   intro l
   induction l with
   |nil=>exact λx σ H Q Q' h q=>⟨q.1,h _ _ q.2⟩
   |cons i l ih=>exact gh er ih
  exact mono l
theorem bT{T:Ec}(h:za js T=true):zI js (BC K T):=by
 cases T with
 |nm i=>exact gg (of_decide_eq_true h)
 |tp l=>exact vL (qj h)
theorem sO{l:List Nat}:∀{σ:L2.St} {env:En} {vs:List V} {xs:List PV} {Q:L2.St->Hp->Prop},lT M Z F σ H env->iF M.K F vs xs->xs.length=l.length->(∀σ',lT M Z F σ' H (CI l xs env)->Q σ' H)->Am l vs σ H Q:=by
 induction l with
 |nil=>
  intro σ env vs xs Q K r hl k
  cases r with
  |nil=>exact⟨rfl,k σ K⟩
  |cons _ _=>simp at hl
 |cons i l ih=>
  intro σ env vs xs Q K r hl k
  cases r with
  |nil=>simp at hl
  |cons r1 r2=>exact⟨_,_,rfl,ih (K.put r1) r2 (by simpa using hl) k⟩
theorem lg{T:Ec}{v:V}{x:PV}{P:En->Prop}{Q:L2.St->Hp->Prop}(K:lT M Z F σ H env)(r:Rep M.K F v x)(hf:Ax T x env P)(k:∀bY σ',P bY->lT M Z F σ' H bY->Q σ' H):BC M.K T v σ H Q:=by
 cases T with
 |nm i=>exact k _ _ hf (K.put r)
 |tp l=>
  cases r with
  |tup h1 h2=>
   have hf:_/\_:=hf
   exact⟨_,_,rfl,aw K.sF h1,by rw[h2.len];exact hf.1,sO K h2 hf.1 λσ' K'=>k _ σ' hf.2 K'⟩
  |_=>exact(show False from hf).elim
def xX(g:WG)(c:WT)(f:WE)(js:List (Option Nat))(P:PV->En->Prop):List PV->En->List PV->Prop
 |[],env,acc=>P (.lst acc) env
 |x::xs,env,acc=>g x (Bn js env) λb1=>c b1 λok b2=>if ok=true then f b2 λy b3=>acc.length<=100000/\xX g c f js P xs (xC js env b3) (acc++[y])else xX g c f js P xs (xC js env b2) acc
def DX(fi:WA)(T:Ec)(c:WT)(f:WE)(js:List (Option Nat)):WE:=λenv P=>fi env λxs e=>xX (Ax T) c f js P xs e []
variable{elt iter kx vx:Expr}{ifs:List Expr}{scope:Scope}{fi:WA}{T:Ec}{c:WT}{fk:WE}{N:List Str}
theorem lT.yQ{l:Addr}{o:HO}(K:lT M Z F σ H env)(L:Slots M Z F σ H env fp)(hF:F l=none)(h0:Z.H₀ l=none)(hl:∀i,l∉fp i):lT M Z F σ (upd H l o) env/\Slots M Z F σ (upd H l o) env fp:=by
 have S:Slots M Z F σ (upd H l o) env fp:=by
  refine⟨λi s e=>?_,λi a h=>?_,L.dj,L.oa⟩
  .obtain⟨v,h1,h2⟩:=L.at' i s e
   exact⟨v,h1,h2.mono aj λc hc=>af λz:c=l=>hl i (by rw[<- z];exact hc)⟩
  .have:=L.al i a h
   refine⟨?_,this.2⟩
   rw[af (λz:a=l=>hl i (by rw[<- z];exact h))];exact this.1
 refine⟨⟨λa u e=>?_,λb u h1 h2=>?_,λb h=>?_,K.gr,K.nw,K.len,fp,S⟩,S⟩
 .rw[af (aq e hF)];exact K.sF a u e
 .rw[af (aq h1 h0)];exact K.sG b u h1 h2
 .by_cases q:b=l
  .subst q;rw[ag];simp
  .rw[af q];exact K.pr b h
theorem t6{P:PV->En->Prop}{Q:VK}{xs:List PV}{J:It}(hj:BH js=true)(hT:za js T=true)(K:lT (md ob X) Z F σ H env)(I1:C4 (md ob X) J F xs)(hf:xX (Ax T) c f js P xs env [])
  (kk:∀x bY v F' H',P x bY->dO F F'->(∀xs,x≠.set xs)->lT (md ob X) Z F' (σ++[some v]) H' (bY++[some ⟨1,x⟩])->Q v H') (l:Addr) (hl:H l=none) :
  ∃W:Nat->Nat->List V->Hp->Prop,(∃m,W 0 m [] (upd H l (.lst [])))/\∀i m ys H2,W i m ys H2 ->
  (J.stop i H2/\Q (.ref l) H2)\/(J.go i H2/\∀x H3,J.yld i H2 x H3->BC X.K T x (xm js σ) H3 λσ4 H4=>Gj (md ob X) c σ4 H4 λb H5=>
   if b=true then EB (md ob X) f σ4 H5 λy H6=>H6 l=some (.lst ys)/\ys.length<sizeLine/\∃m',m'<m/\W (i+1) m' (ys++[y]) (upd H6 l (.lst (ys++[y])))else ∃m',m'<m/\W (i+1) m' ys H5):=by
 refine⟨λi m ys H'=>m=xs.length - i/\H' l=some (.lst ys)/\∃F' bY y4 fp,dO F F'/\lT (md ob X) Z F' σ H' bY/\Slots (md ob X) Z F' σ H' bY fp/\F' l=none/\(∀i,l∉fp i)/\iF X.K F' ys y4/\xX (Ax T) c f js P (xs.drop i) bY y4,?_,?_⟩
 .obtain⟨fp,L⟩:=K.sl
  have hF:F l=none:=dO.none_of K.sF hl
  have hn:∀i,l∉fp i:=λi h=>(L.al i l h).1 hl
  obtain⟨K1,L1⟩:=K.yQ (o:=.lst []) L hF (K.h0 hl) hn
  exact⟨_,rfl,ag,F,env,[],fp,aj,K1,L1,hF,hn,.nil,hf⟩
 rintro i m ys H2 ⟨rfl,BJ,F',bY,y4,fp,s,K',L',GI,hn,ry,hg⟩
 have h0:Z.H₀ l=none:=K.h0 hl
 by_cases xA:i<xs.length
 .rw[acB xA]at hg
  obtain⟨h1,h2⟩:=I1.go Z i σ bY F' H2 xs[i] s K' (by simp[xA])
  refine .inr ⟨h1,λv H3 y=>?_⟩
  obtain⟨F2,s2,K2,r2,sH,nw⟩:=h2 v H3 y
  have Fl:Slots (md ob X) Z F2 σ H3 bY fp:=L'.move s2 (λ_ c o _ e=>sH c o e) nw
  have Kn:F2 l=none:=by
   cases e:F2 l with
   |none=>rfl
   |some o=>
    rcases nw l (by rw[e];simp)with q|q
    .exact absurd GI q
    .rw[BJ]at q;cases q
  have DS:H3 l=some (.lst ys):=sH _ _ BJ
  have Kb:=iu hj K2 Fl
  have hσ4:∀{σ4:L2.St},(∀(k j:Nat),js[k]?=some (some j)->σ4[k]?=(xm js σ)[k]?)->True:=λ_=>trivial
  have Iz:=bT (K:=X.K) hT v (xm js σ) H3 _ (lg (M:=md ob X) (Q:=λσ4 H4=>H4=H3/\∃b1,lT (md ob X) (Zb js bY fp F2 H3) F2 σ4 H3 b1/\c b1 λok b2=>if ok=true then f b2 λy b3=>y4.length<=100000/\xX (Ax T) c f js P (xs.drop (i+1)) (xC js bY b3) (y4++[y])else xX (Ax T) c f js P (xs.drop (i+1)) (xC js bY b2) y4) Kb r2 hg λe4 σ4 p4 K4=>⟨rfl,e4,K4,p4⟩)
  have mono:∀(Q1 Q2:L2.St->Hp->Prop),(∀a b,Q1 a b->Q2 a b)->BC X.K T v (xm js σ) H3 Q1->BC X.K T v (xm js σ) H3 Q2:=by
   have B9:∀(l:List Nat),∀x σ H (Q Q':L2.St->Hp->Prop),(∀a b,Q a b->Q' a b)->Am l x σ H Q->Am l x σ H Q':=by
    intro l
    induction l with
    |nil=>exact λx σ H Q Q' h q=>⟨q.1,h _ _ q.2⟩
    |cons i l ih=>exact gh er ih
   intro Q1 Q2 hq q
   cases T with
   |nm i=>exact hq _ _ q
   |tp l=>
    obtain⟨a,xs,e1,e2,e3,e4⟩:=q
    exact⟨a,xs,e1,e2,e3,B9 l _ _ _ _ _ hq e4⟩
  refine mono _ _ ?_ Iz
  rintro σ4 H4 ⟨⟨rfl,b1,K4,p4⟩,hlen,xO⟩
  refine⟨_,F2,b1,_,K4,p4,λb b2 F5 H5 p5 s5 K5=>?_⟩
  have again:∀{F6 H6:Hp} {b3:En} {ys':List V} {AF:List PV},dO F2 F6->lT (md ob X) (Zb js bY fp F2 H4) F6 σ4 H6 b3->xX (Ax T) c f js P (xs.drop (i+1)) (xC js bY b3) AF->iF X.K F6 ys' AF ->
    H6 l=some (.lst ys)/\(∃m',m'<xs.length - i/\m'=xs.length - (i+1)/\(upd H6 l (.lst ys')) l=some (.lst ys')/\∃F' bY y4 fp,dO F F'/\lT (md ob X) Z F' σ (upd H6 l (.lst ys')) bY/\Slots (md ob X) Z F' σ (upd H6 l (.lst ys')) bY fp/\F' l=none/\(∀i,l∉fp i)/\iF X.K F' ys' y4/\xX (Ax T) c f js P (xs.drop (i+1)) bY y4):=λ{F6 H6 b3 ys' AF} s6 K6 p6 r6=>by
   obtain⟨CB,L6,KJ,zD⟩:=fY hj K2 Fl K6 xO
   have Eb:H6 l=some (.lst ys):=K6.sG l _ DS λz=>by
    obtain⟨_,j,_,_,_,hm⟩:=bS z
    exact hn j hm
   have GH:F6 l=none:=by
    cases e:F6 l with
    |none=>rfl
    |some o=>
     rcases K6.nw l (by rw[e];simp)with q|q
     .exact absurd Kn q
     .exact absurd q (by show H4 l≠none;rw[DS];simp)
   have Ea:∀i,l∉CB i:=λi h=>by
    rcases zD i l h with ⟨i',q⟩|q
    .exact hn i' q
    .rw[DS]at q;cases q
   obtain⟨K7,L7⟩:=KJ.yQ (o:=.lst ys') L6 GH h0 Ea
   exact⟨Eb,_,by omega,rfl,ag,F6,_,_,CB,ai s (ai s2 s6),K7,L7,GH,Ea,r6,p6⟩
  cases b with
  |false=>
   refine Ar ?_
   obtain⟨Ka,m',h1,h2,h3,F',bY,y4,fp,q1,q2,q3,q4⟩:=again (ys':=ys) s5 K5 p5 ((ry.mono s2).mono s5)
   have e:upd H5 l (.lst ys)=H5:=by
    funext a
    by_cases z:a=l
    .subst z;rw[ag,Ka]
    .rw[af z]
   rw[e]at h3 q2 q3
   exact⟨m',h1,h2,h3,F',bY,y4,fp,q1,q2,q3,q4⟩
  |true=>
   refine AV ⟨_,F5,b2,_,K5,p5,λy b3 v6 F6 H6 p6 s6 K6 r6=>?_⟩
   obtain⟨Eb,q⟩:=again (ys':=ys++[v6]) (ai s5 s6) K6 p6.2 ((((ry.mono s2).mono s5).mono s6).app (.cons r6 .nil))
   refine⟨Eb,?_,q⟩
   have:=p6.1
   rw[ry.len,aaA];omega
 .rw[acR (by omega)]at hg
  refine .inl ⟨I1.stop Z i σ bY F' H2 s K' (by omega),kk _ bY _ F' H2 hg s (λ_=>by simp) ?_⟩
  refine K'.slots (by simp[K'.len]) (L'.push (l:=[l]) (by simp) K'.len (.inr (.inl ⟨rfl,l,rfl,rfl,h0,ys,BJ,ry⟩)) (λa ha=>?_) λj a ha=>?_)
  .simp at ha;subst ha
   exact⟨by rw[BJ];simp,GI⟩
  .simp at ha;subst ha
   exact hn j
theorem cb(hi:Ga ob X tg iter fi)(hg:∀C s₀ H₀ ex pn,PG (rW X scope N C s₀ H₀ ex pn) tg (BC X.K T))(ht:∀C s₀ H₀ ex pn,IV ob (rW X scope N C s₀ H₀ ex pn) ifs c)(he:∀C s₀ H₀ ex pn,xu ob (rW X scope N C s₀ H₀ ex pn) elt f)
  (hj:BH js=true:=by rfl) (hT:za js T=true:=by rfl)
  (hc:X.calm=true:=by rfl) (hx:X.xe=(λ_ _=>False):=by rfl) (Ad:Ao X.env scope=true:=by rfl) (xO:yO X.N scope N js=true:=by rfl) (xk:scope.kind=.function:=by rfl) (hs:∀x,aa4 iter X.env x=pure x:=by intro _;rfl) :
  C8 ob X (.ListComp elt [⟨tg,iter,ifs,0⟩] scope pos) (DX fi T c f js):=by
 obtain⟨wi,FA,k⟩:=hi.ex
 refine⟨_,oj (wi:=wi) (g:=BC X.K T) (tc:=Gj (md ob X) c) (te:=EB (md ob X) f) (js:=js) FA hg (λC s₀ H₀ ex pn=>(ht C s₀ H₀ ex pn).ex) (λC s₀ H₀ ex pn=>(he C s₀ H₀ ex pn).pe) (bT hT) hc hx Ad xO xk hs,λZ F σ H env P Q K hf kk=>?_⟩
 refine k Z F σ H env _ _ K hf λxs e1 J F1 H1 p s1 K1 I1 l hl=>?_
 exact t6 hj hT K1 I1 p (λx e2 v F2 H2 p2 s2 Fb K2=>kk x e2 v F2 H2 p2 (ai s1 s2) Fb K2) l hl
def zV(g:WG)(c:WT)(fk f:WE)(js:List (Option Nat))(P:PV->En->Prop):List PV->En->List (Key×PV)->Prop
 |[],env,acc=>P (.xv acc) env
 |x::xs,env,acc=>g x (Bn js env) λb1=>c b1 λok b2=>if ok=true then fk b2 λkk b3=>f b3 λy b4=>acc.length<=100000/\opt (zC kk) λkey=>zV g c fk f js P xs (xC js env b4) (zO acc key y)else zV g c fk f js P xs (xC js env b2) acc
def FV(fi:WA)(T:Ec)(c:WT)(fk f:WE)(js:List (Option Nat)):WE:=λenv P=>fi env λxs e=>zV (Ax T) c fk f js P xs e []
theorem nS{P:PV->En->Prop}{Q:VK}{xs:List PV}{J:It}(hj:BH js=true)(hT:za js T=true)(K:lT (md ob X) Z F σ H env)(I1:C4 (md ob X) J F xs)(hf:zV (Ax T) c fk f js P xs env [])
  (kk:∀x bY v F' H',P x bY->dO F F'->(∀xs,x≠.set xs)->lT (md ob X) Z F' (σ++[some v]) H' (bY++[some ⟨1,x⟩])->Q v H') (l:Addr) (hl:H l=none) :
  ∃W:Nat->Nat->List (Key×V)->Hp->Prop,(∃m,W 0 m [] (upd H l (.dK [])))/\∀i m ys H2,W i m ys H2 ->
  (J.stop i H2/\Q (.ref l) H2)\/(J.go i H2/\∀x H3,J.yld i H2 x H3->BC X.K T x (xm js σ) H3 λσ4 H4=>Gj (md ob X) c σ4 H4 λb H5=>
   if b=true then EB (md ob X) fk σ4 H5 λkk H6=>EB (md ob X) f σ4 H6 λy H7=>∃key,kk=kV key/\H7 l=some (.dK ys)/\ys.length<sizeLine/\∃m',m'<m/\W (i+1) m' (putK ys key y) (upd H7 l (.dK (putK ys key y)))else ∃m',m'<m/\W (i+1) m' ys H5):=by
 refine⟨λi m ys H'=>m=xs.length - i/\H' l=some (.dK ys)/\∃F' bY y4 fp,dO F F'/\lT (md ob X) Z F' σ H' bY/\Slots (md ob X) Z F' σ H' bY fp/\F' l=none/\(∀i,l∉fp i)/\lE X.K F' ys y4/\zV (Ax T) c fk f js P (xs.drop i) bY y4,?_,?_⟩
 .obtain⟨fp,L⟩:=K.sl
  have hF:F l=none:=dO.none_of K.sF hl
  have hn:∀i,l∉fp i:=λi h=>(L.al i l h).1 hl
  obtain⟨K1,L1⟩:=K.yQ (o:=.dK []) L hF (K.h0 hl) hn
  exact⟨_,rfl,ag,F,env,[],fp,aj,K1,L1,hF,hn,.nil,hf⟩
 rintro i m ys H2 ⟨rfl,BJ,F',bY,y4,fp,s,K',L',GI,hn,ry,hg⟩
 have h0:Z.H₀ l=none:=K.h0 hl
 by_cases xA:i<xs.length
 .rw[acB xA]at hg
  obtain⟨h1,h2⟩:=I1.go Z i σ bY F' H2 xs[i] s K' (by simp[xA])
  refine .inr ⟨h1,λv H3 y=>?_⟩
  obtain⟨F2,s2,K2,r2,sH,nw⟩:=h2 v H3 y
  have Fl:Slots (md ob X) Z F2 σ H3 bY fp:=L'.move s2 (λ_ c o _ e=>sH c o e) nw
  have Kn:F2 l=none:=by
   cases e:F2 l with
   |none=>rfl
   |some o=>
    rcases nw l (by rw[e];simp)with q|q
    .exact absurd GI q
    .rw[BJ]at q;cases q
  have DS:H3 l=some (.dK ys):=sH _ _ BJ
  have Kb:=iu hj K2 Fl
  have hσ4:∀{σ4:L2.St},(∀(k j:Nat),js[k]?=some (some j)->σ4[k]?=(xm js σ)[k]?)->True:=λ_=>trivial
  have Iz:=bT (K:=X.K) hT v (xm js σ) H3 _ (lg (M:=md ob X) (Q:=λσ4 H4=>H4=H3/\∃b1,lT (md ob X) (Zb js bY fp F2 H3) F2 σ4 H3 b1/\c b1 λok b2=>if ok=true then fk b2 λkk b3=>f b3 λy b4=>y4.length<=100000/\opt (zC kk) λkey=>zV (Ax T) c fk f js P (xs.drop (i+1)) (xC js bY b4) (zO y4 key y)else zV (Ax T) c fk f js P (xs.drop (i+1)) (xC js bY b2) y4) Kb r2 hg λe4 σ4 p4 K4=>⟨rfl,e4,K4,p4⟩)
  have mono:∀(Q1 Q2:L2.St->Hp->Prop),(∀a b,Q1 a b->Q2 a b)->BC X.K T v (xm js σ) H3 Q1->BC X.K T v (xm js σ) H3 Q2:=by
   have B9:∀(l:List Nat),∀x σ H (Q Q':L2.St->Hp->Prop),(∀a b,Q a b->Q' a b)->Am l x σ H Q->Am l x σ H Q':=by
    intro l
    induction l with
    |nil=>exact λx σ H Q Q' h q=>⟨q.1,h _ _ q.2⟩
    |cons i l ih=>exact gh er ih
   intro Q1 Q2 hq q
   cases T with
   |nm i=>exact hq _ _ q
   |tp l=>
    obtain⟨a,xs,e1,e2,e3,e4⟩:=q
    exact⟨a,xs,e1,e2,e3,B9 l _ _ _ _ _ hq e4⟩
  refine mono _ _ ?_ Iz
  rintro σ4 H4 ⟨⟨rfl,b1,K4,p4⟩,hlen,xO⟩
  refine⟨_,F2,b1,_,K4,p4,λb b2 F5 H5 p5 s5 K5=>?_⟩
  have again:∀{F6 H6:Hp} {b3:En} {ys':List (Key×V)} {AF:List (Key×PV)},dO F2 F6->lT (md ob X) (Zb js bY fp F2 H4) F6 σ4 H6 b3->zV (Ax T) c fk f js P (xs.drop (i+1)) (xC js bY b3) AF->lE X.K F6 ys' AF ->
    H6 l=some (.dK ys)/\(∃m',m'<xs.length - i/\m'=xs.length - (i+1)/\(upd H6 l (.dK ys')) l=some (.dK ys')/\∃F' bY y4 fp,dO F F'/\lT (md ob X) Z F' σ (upd H6 l (.dK ys')) bY/\Slots (md ob X) Z F' σ (upd H6 l (.dK ys')) bY fp/\F' l=none/\(∀i,l∉fp i)/\lE X.K F' ys' y4/\zV (Ax T) c fk f js P (xs.drop (i+1)) bY y4):=λ{F6 H6 b3 ys' AF} s6 K6 p6 r6=>by
   obtain⟨CB,L6,KJ,zD⟩:=fY hj K2 Fl K6 xO
   have Eb:H6 l=some (.dK ys):=K6.sG l _ DS λz=>by
    obtain⟨_,j,_,_,_,hm⟩:=bS z
    exact hn j hm
   have GH:F6 l=none:=by
    cases e:F6 l with
    |none=>rfl
    |some o=>
     rcases K6.nw l (by rw[e];simp)with q|q
     .exact absurd Kn q
     .exact absurd q (by show H4 l≠none;rw[DS];simp)
   have Ea:∀i,l∉CB i:=λi h=>by
    rcases zD i l h with ⟨i',q⟩|q
    .exact hn i' q
    .rw[DS]at q;cases q
   obtain⟨K7,L7⟩:=KJ.yQ (o:=.dK ys') L6 GH h0 Ea
   exact⟨Eb,_,by omega,rfl,ag,F6,_,_,CB,ai s (ai s2 s6),K7,L7,GH,Ea,r6,p6⟩
  cases b with
  |false=>
   refine Ar ?_
   obtain⟨Ka,m',h1,h2,h3,F',bY,y4,fp,q1,q2,q3,q4⟩:=again (ys':=ys) s5 K5 p5 ((ry.mono s2).mono s5)
   have e:upd H5 l (.dK ys)=H5:=by
    funext a
    by_cases z:a=l
    .subst z;rw[ag,Ka]
    .rw[af z]
   rw[e]at h3 q2 q3
   exact⟨m',h1,h2,h3,F',bY,y4,fp,q1,q2,q3,q4⟩
  |true=>
   refine AV ⟨_,F5,b2,_,K5,p5,λkx b3 v6 F6 H6 p6 s6 K6 r6=>⟨_,F6,b3,_,K6,p6,λy b4 v7 F7 H7 p7 s7 K7 r7=>?_⟩⟩
   obtain⟨p7,key,Cf,p8⟩:=p7
   have Oi:=ai s5 (ai s6 s7)
   obtain⟨Eb,q⟩:=again (ys':=putK ys key v7) Oi K7 p8 (((ry.mono s2).mono Oi).put r7)
   refine⟨key,eh Cf r6,Eb,?_,q⟩
   rw[ry.len,aaA];omega
 .rw[acR (by omega)]at hg
  refine .inl ⟨I1.stop Z i σ bY F' H2 s K' (by omega),kk _ bY _ F' H2 hg s (λ_=>by simp) ?_⟩
  refine K'.slots (by simp[K'.len]) (L'.push (l:=[l]) (by simp) K'.len (.inr (.inl ⟨rfl,l,rfl,rfl,h0,ys,BJ,ry⟩)) (λa ha=>?_) λj a ha=>?_)
  .simp at ha;subst ha
   exact⟨by rw[BJ];simp,GI⟩
  .simp at ha;subst ha
   exact hn j
theorem sE(hi:Ga ob X tg iter fi)(hg:∀C s₀ H₀ ex pn,PG (rW X scope N C s₀ H₀ ex pn) tg (BC X.K T))(ht:∀C s₀ H₀ ex pn,IV ob (rW X scope N C s₀ H₀ ex pn) ifs c)(hk:∀C s₀ H₀ ex pn,xu ob (rW X scope N C s₀ H₀ ex pn) kx fk)(he:∀C s₀ H₀ ex pn,xu ob (rW X scope N C s₀ H₀ ex pn) vx f)
  (hj:BH js=true:=by rfl) (hT:za js T=true:=by rfl)
  (hc:X.calm=true:=by rfl) (hx:X.xe=(λ_ _=>False):=by rfl) (Ad:Ao X.env scope=true:=by rfl) (xO:yO X.N scope N js=true:=by rfl) (xk:scope.kind=.function:=by rfl) (hs:∀x,aa4 iter X.env x=pure x:=by intro _;rfl) :
  C8 ob X (.DictComp kx vx [⟨tg,iter,ifs,0⟩] scope pos) (FV fi T c fk f js):=by
 obtain⟨wi,FA,k⟩:=hi.ex
 refine⟨_,wB (wi:=wi) (g:=BC X.K T) (tc:=Gj (md ob X) c) (tk:=EB (md ob X) fk) (te:=EB (md ob X) f) (js:=js) FA hg (λC s₀ H₀ ex pn=>(ht C s₀ H₀ ex pn).ex) (λC s₀ H₀ ex pn=>(hk C s₀ H₀ ex pn).pe) (λC s₀ H₀ ex pn=>(he C s₀ H₀ ex pn).pe) (bT hT) hc hx Ad xO xk hs,λZ F σ H env P Q K hf kk=>?_⟩
 refine k Z F σ H env _ _ K hf λxs e1 J F1 H1 p s1 K1 I1 l hl=>?_
 exact nS hj hT K1 I1 p (λx e2 v F2 H2 p2 s2 Fb K2=>kk x e2 v F2 H2 p2 (ai s1 s2) Fb K2) l hl
variable{x5:Pos}
theorem sD(i:Nat){y:Str}(hN:X.N.Nodup)(hy:X.N[i]?=some y)(hl:X.env.scope.names.lookup y=some .local)(hi:Ga ob X tg iter fi)(hg:∀C s₀ H₀ ex pn,PG (rW X scope N C s₀ H₀ ex pn) tg (BC X.K T))(ht:∀C s₀ H₀ ex pn,IV ob (rW X scope N C s₀ H₀ ex pn) ifs c)(hk:∀C s₀ H₀ ex pn,xu ob (rW X scope N C s₀ H₀ ex pn) kx fk)(he:∀C s₀ H₀ ex pn,xu ob (rW X scope N C s₀ H₀ ex pn) vx f)
  (hj:BH js=true:=by rfl) (hT:za js T=true:=by rfl)
  (HF:ab1 (.DictComp kx vx [⟨tg,iter,ifs,0⟩] scope pos) (some (.Name y py)) x5.line X.env=pure true:=by rfl)
  (hc:X.calm=true:=by rfl) (hx:X.xe=(λ_ _=>False):=by rfl) (Ad:Ao X.env scope=true:=by rfl) (xO:yO X.N scope N js=true:=by rfl) (xk:scope.kind=.function:=by rfl) (hs:∀x,aa4 iter X.env x=pure x:=by intro _;rfl) :
  AE ob X (.Assign [.Name y py] (.DictComp kx vx [⟨tg,iter,ifs,0⟩] scope pos) x5) (ym i (FV fi T c fk f js)):=by
 obtain⟨wi,FA,k⟩:=hi.ex
 refine⟨_,sy (i:=i) (wi:=wi) (g:=BC X.K T) (tc:=Gj (md ob X) c) (tk:=EB (md ob X) fk) (te:=EB (md ob X) f) (js:=js) hN hy hl FA hg (λC s₀ H₀ ex pn=>(ht C s₀ H₀ ex pn).ex) (λC s₀ H₀ ex pn=>(hk C s₀ H₀ ex pn).pe) (λC s₀ H₀ ex pn=>(he C s₀ H₀ ex pn).pe) (bT hT) HF hc hx Ad xO xk hs,λZ F σ H env P D K hf L=>?_⟩
 refine k Z F σ H env _ _ K hf λxs e1 J F1 H1 p s1 K1 I1 l hl=>?_
 exact nS (P:=λx e=>P.nx (e.set i (some ⟨1,x⟩))) (Q:=λv H'=>D.nx (σ.set i (some v)) H') hj hT K1 I1 p (λx e2 v F2 H2 p2 s2 Fb K2=>L.nx _ _ F2 H2 p2 (ai s1 s2) K2.take) l hl
abbrev LM:=List PV->List PV->Option (PV×List PV)
def Dy(m:LM)(i:Nat)(fa:WA):WE:=λenv P=>(match env[i]? with|some (some ⟨1,.lst _⟩)=>True|some (some ⟨3,.lst _⟩)=>True|_=>False)/\fa env λxs e=>match e[i]? with
 |some (some ⟨1,.lst ys⟩)=>opt (m ys xs) λr=>P r.1 (e.set i (some ⟨1,.lst r.2⟩))
 |some (some ⟨3,.lst ys⟩)=>opt (m ys xs) λr=>P r.1 (e.set i (some ⟨3,.lst r.2⟩))
 |_=>False
def IU(K:aah)(r:V->List V->Hp->VK->Prop)(m:LM):Prop :=
 ∀(F H:Hp) (l:Addr) (ys vs:List V) (ps xs:List PV) (z:PV) (w8:List PV) (Q:VK),dO F H->H l=some (.lst ys)->iF K F ys ps->iF K F vs xs->m ps xs=some (z,w8) ->
  (∀v ys',Rep K F v z->iF K F ys' w8->Q v (upd H l (.lst ys')))->r (.ref l) vs H Q
variable{c:Expr}{apos xg:Pos}{name:Str}{r:V->List V->Hp->VK->Prop}{m:LM}
theorem pW{t:TA}(hq:IU X.K r m)(k:∀(Z:Zn) (F:Hp) (σ:L2.St) (H:Hp) (env:En) (P:List PV->En->Prop) (Q:List V->Hp->Prop),lT (md ob X) Z F σ H env->fa env P->(∀xs bY vs F' H',P xs bY->xs.length=es.length->dO F F'->lT (md ob X) Z F' σ H' bY->iF X.K F' vs xs->Q vs H')->t σ H Q):
  ∀(Z:Zn) (F:Hp) (σ:L2.St) (H:Hp) (env:En) (P:PV->En->Prop) (Q:VK),lT (md ob X) Z F σ H env->Dy m i fa env P->(∀x bY v F' H',P x bY->dO F F'->lT (md ob X) Z F' σ H' bY->Rep X.K F' v x->Q v H')->Ob X.K "list" r (xx i) t σ H Q:=by
 intro Z F σ H env P Q K hf kk
 obtain⟨h0,hf⟩:=hf
 obtain⟨a,hσ,Iy,ha⟩:∃a,σ[i]?=some (some (.ref a))/\∃vs,H a=some (.lst vs):=by
  split at h0
  .rename_i e
   obtain⟨a,h1,vs,h2,_⟩:=K.ownAt (.inl rfl) e
   exact⟨a,h1,vs,h2⟩
  .rename_i e
   obtain⟨a,h1,vs,h2,_⟩:=K.ownAt (.inr rfl) e
   exact⟨a,h1,vs,h2⟩
  .exact h0.elim
 refine⟨_,hσ,.inl ⟨rfl,Iy,.inl (.inl ha)⟩,?_⟩
 refine k Z F σ H env _ _ K hf λxs e1 vs F1 H1 p _ s1 K1 r1=>?_
 have fin:∀(kd:Nat) (ys:List PV),kd=1\/kd=3->e1[i]?=some (some ⟨kd,.lst ys⟩)->opt (m ys xs) (λr=>P r.1 (e1.set i (some ⟨kd,.lst r.2⟩)))->r (.ref a) vs H1 Q:=λkd ys hk ei ⟨⟨z,ys'⟩,hm,p⟩=>by
  obtain⟨a',h1,ws,h2,h3⟩:=K1.ownAt hk ei
  rw[hσ]at h1;cases h1
  refine hq F1 H1 a ws vs ys xs z ys' Q K1.sF h2 h3 r1 hm λv us rv ru=>?_
  exact kk z _ v F1 _ p s1 (K1.write (o:=.lst us) hk ei hσ ⟨us,ag,ru⟩) rv
 split at p
 .rename_i ei;exact fin _ _ (.inl rfl) ei p
 .rename_i ei;exact fin _ _ (.inr rfl) ei p
 .exact p.elim
theorem cL(i:Nat)(slot:Slot "list" name Gz)(HE:typeOf (.builtin Gz)=pure (.type "method_descriptor"))(hm:LH X Gz r)(hq:IU X.K r m)(ho:PE X (.Name x p) (xx i))(ha:CC ob X (e::es) fa)
  (x3:abW (.Name x p) name X.env (eval (.Name x p) X.env)=eval (.Name x p) X.env:=by rfl)
  (AX:((backTo xg (aam (e::es) X.env)).all (λx=>!x.1) && (aeh xg (acV [] X.env)).all (λx=>x.1.isSome)
   && decide ((e::es).length+([]:List ac9).length+(if ([]:List ac9).isEmpty then 0 else 1)<30))=true:=by rfl)
  (xY:(apos.endLine==xg.line)=true:=by rfl) (hs:aam (e::es) X.env=(false,eval e X.env)::aam es X.env:=by rfl) (yp:(backTo xg (aam es X.env)).any (·.1)=false:=by rfl) :
  xu ob X (.Call (.Attribute (.Name x p) name apos) (e::es) [] xg) (Dy m i fa):=by
 obtain⟨t,ht,k⟩:=ha.ex
 exact⟨_,oq acL slot HE hm ho ht x3 AX xY hs yp,pW hq k⟩
theorem vV(i:Nat)(slot:Slot "list" name Gz)(HE:typeOf (.builtin Gz)=pure (.type "method_descriptor"))(hm:LH X Gz r)(hq:IU X.K r m)(ho:PE X (.Name x p) (xx i))
  (x3:abW (.Name x p) name X.env (eval (.Name x p) X.env)=eval (.Name x p) X.env:=by rfl) (xY:(apos.endLine==xg.line)=true:=by rfl):xu ob X (.Call (.Attribute (.Name x p) name apos) [] [] xg) (Dy m i iD):=by
 refine⟨_,u7 acL slot HE hm ho x3 xY,λZ F σ H env P Q K hf kk=>?_⟩
 obtain⟨v,h1,h2,h3⟩:=pW (es:=[]) (i:=i) (t:=DI) hq (λZ F σ H env P Q K hf k=>k [] env [] F H hf rfl aj K .nil) Z F σ H env P Q K hf kk
 exact⟨v,h1,h2,h3⟩
def be:LM:=λys xs=>match xs with
 |[x]=>if ys.length<=100000 then some (.nE,ys++[x])else none
 |_=>none
theorem bq:IU X.K m5 be:=by
 intro F H l ys vs ps xs z w8 Q sF hl ry rx hm k
 unfold be at hm
 split at hm
 .split at hm
  .cases hm
   cases rx with
   |cons r1 r2=>
    cases r2
    refine⟨l,ys,_,rfl,rfl,hl,?_,k _ _ .nE (ry.app (.cons r1 .nil))⟩
    rw[ry.len,aaA];omega
  .cases hm
 .cases hm
def Fy:LM:=λys xs=>match xs with
 |[]=>(ys[ys.length - 1]?).map λy=>(y,ys.dropLast)
 |_=>none
theorem iF.dl{vs:List V}{xs:List PV}(h:iF K F vs xs):iF K F vs.dropLast xs.dropLast:=by
 rw[List.dropLast_eq_take,List.dropLast_eq_take,h.len]
 exact h.take _
theorem vp:IU X.K Js Fy:=by
 intro F H l ys vs ps xs z w8 Q sF hl ry rx hm k
 unfold Fy at hm
 split at hm
 .rw[aax]at hm
  obtain⟨y,hy,e⟩:=hm
  cases e
  cases rx
  obtain⟨v,hv,rv⟩:=ry.get hy
  exact⟨l,ys,v,rfl,rfl,hl,by rw[ry.len];exact hv,k _ _ rv ry.dl⟩
 .cases hm
def AS:LM:=λys xs=>match xs with
 |[.int i]=>if -1000000<=i/\i<=1000000 then (ae9 i ys.length).bind λk=>(ys[k]?).map λy=>(y,ys.eraseIdx k)else none
 |_=>none
theorem rM:IU X.K ED AS:=by
 intro F H l ys vs ps xs z w8 Q sF hl ry rx hm k
 unfold AS at hm
 split at hm
 .split at hm
  .rw[adQ]at hm
   obtain⟨j,hj,hm⟩:=hm
   rw[aax]at hm
   obtain⟨y,hy,e⟩:=hm
   cases e
   cases rx with
   |cons r1 r2=>
    cases r2
    cases r1
    obtain⟨v,hv,rv⟩:=ry.get hy
    exact⟨l,ys,_,j,v,rfl,rfl,hl,by omega,by omega,by rw[ry.len];exact hj,hv,k _ _ rv (ry.erase j)⟩
  .cases hm
 .cases hm
def Br:PV->PV->PV->Option PV
 |.lst xs,.int i,v=>(D9 xs.length i).map λj=>.lst (xs.set j v)
 |.xv kvs,y,v=>if kvs.length<=100000 then (zC y).map λk=>.xv (zO kvs k v)else none
 |_,_,_=>none
def He(i:Nat)(fv fk:WE):WS:=λP env=>fv env λv e1=>(e1[i]?).join.isSome=true/\fk e1 λy e2=>match e2[i]? with
 |some (some ⟨1,x⟩)=>opt (Br x y v) λz=>P.nx (e2.set i (some ⟨1,z⟩))
 |some (some ⟨3,x⟩)=>opt (Br x y v) λz=>P.nx (e2.set i (some ⟨3,z⟩))
 |_=>False
variable{ke:Expr}
def Gk:E6:=λo i v H Q=>∃a H',o=.ref a/\Iu H a i v H'/\Q H'
theorem qS(hu:X.A.units+1<cLine):Cr X Gk:=by
 intro pins s σ H o i v ov iv u Q I ro ri rv h
 obtain⟨a,H',rfl,g,q⟩:=h
 cases ro
 exact qC hu I g ri rv λs4 I4=>⟨H',I4,q⟩
theorem Cr.or{t u:E6}(h:Cr X t)(h':Cr X u):Cr X (λo i v H Q=>t o i v H Q\/u o i v H Q):=by
 intro pins s σ H o i v ov iv w Q I ro ri rv q
 rcases q with q|q
 .exact h pins s σ H o i v ov iv w Q I ro ri rv q
 .exact h' pins s σ H o i v ov iv w Q I ro ri rv q
theorem vO(i:Nat)(hu:X.A.units+1<cLine)(hv:xu ob X e f)(ho:PE X (.Name x p) (xx i))(hk:xu ob X ke fk)
  (hs:adM [.Subscript (.Name x p) ke pos] e x5.line X.env=pure false:=by rfl) (hw:adN [.Subscript (.Name x p) ke pos] e X.env=pure none:=by rfl)
  (h1:(aci [.Subscript (.Name x p) ke pos] X.env).map (·.2)=[assign (.Subscript (.Name x p) ke pos) X.env]:=by rfl)
  (ha:∀v,assign (.Subscript (.Name x p) ke pos) X.env v=(do
   let ov <- adg [v] (eval (.Name x p) X.env)
   let iv <- adg [v,ov] (eval ke X.env)
   standAt pos
   adg [v,ov,iv] (setItem ov iv v)
   release [v,ov,iv] []):=by intro _;rfl):AE ob X (.Assign [.Subscript (.Name x p) ke pos] e x5) (He i f fk):=by
 obtain⟨t,ht,k⟩:=hv.ex
 obtain⟨t2,EL,k2⟩:=hk.ex
 refine⟨_,iO ht (lC ho EL (Cr.or g6 (qS hu)) ha) hs hw h1,λZ F σ H env P D K hf L=>k Z F σ H env _ _ K hf λv e1 v' F1 H1 p s1 K1 r1=>?_⟩
 obtain⟨h0,p⟩:=p
 obtain⟨w,hw⟩:∃v,σ[i]?=some (some v):=by
  cases e:e1[i]? with
  |none=>rw[e]at h0;cases h0
  |some w=>
   cases w with
   |none=>rw[e]at h0;cases h0
   |some s=>
    obtain⟨fp,L⟩:=K1.sl
    obtain⟨v,hv,_⟩:=L.at' i s e
    exact⟨v,hv⟩
 refine⟨w,hw,k2 Z F1 σ H1 e1 _ _ K1 p λy e2 y' F2 H2 p2 s2 K2 r2=>?_⟩
 have fin:∀(kd:Nat) (x:PV),kd=1\/kd=3->e2[i]?=some (some ⟨kd,x⟩)->opt (Br x y v) (λz=>P.nx (e2.set i (some ⟨kd,z⟩)))->(Dj w y' v' H2 λH3=>D.nx σ H3)\/Gk w y' v' H2 λH3=>D.nx σ H3:=λkd x hk ei ⟨z,hz,p⟩=>by
  obtain⟨a,h1,hx⟩:=K2.ownAt hk ei
  rw[hw]at h1;cases h1
  have Om:=r1.mono s2
  unfold Br at hz
  split at hz
  .rw[aax]at hz
   obtain⟨j,hj,rfl⟩:=hz
   obtain⟨vs,h2,h3⟩:=hx
   cases r2
   exact .inl ⟨a,vs,_,j,rfl,rfl,h2,by rw[h3.len];exact hj,L.nx _ _ F2 _ p (ai s1 s2) (K2.write (o:=.lst (vs.set j v')) hk ei hw ⟨_,ag,h3.Mi j Om⟩)⟩
  .split at hz
   .rw[aax]at hz
    obtain⟨j,hj,rfl⟩:=hz
    obtain⟨vs,h2,h3⟩:=hx
    have hy:=eh hj r2
    subst hy
    exact .inr ⟨a,_,rfl,Qm h2 (by rw[h3.len,aaA];omega),L.nx _ _ F2 _ p (ai s1 s2) (K2.write (o:=.dK (putK vs j v')) hk ei hw ⟨_,ag,h3.put Om⟩)⟩
   .cases hz
  .cases hz
 split at p2
 .rename_i ei;exact fin _ _ (.inl rfl) ei p2
 .rename_i ei;exact fin _ _ (.inr rfl) ei p2
 .exact p2.elim
abbrev Fd:=List PV->(PV->Prop)->Prop
def G8(M:Md)(n:Nat)(D:Fd):Sp:=λvs H Q _=>∃(F:Hp) (xs:List PV) (P:PV->Prop),dO F H/\iF M.K F vs xs/\xs.length=n/\D xs P /\
 ∀r v F' H',P r->dO H H'->dO F F'->dO F' H'->(∀a,F' a≠none->F a≠none\/H a=none)->Rep M.K F' v r->Q v H'
def xD(n:Nat)(xs:List PV):En:=xs.map (λx=>some ⟨0,x⟩)++aaG (n - xs.length) none
def Ig(P:PV->Prop):Wd:={nx:=λ_=>P .nE,rt:=λx _=>P x}
def run(n:Nat)(u:WS):Fd:=λxs P=>u (Ig P) (xD n xs)
abbrev Ai:=PV->List PV->(PV->PV->Prop)->Prop
def E8(M:Md)(n:Nat)(D:Ai):Sp:=λvs H Q _=>∃(F:Hp) (a:Addr) (l:List Addr) (c:PV) (ws:List V) (xs:List PV) (P:PV->PV->Prop),vs=.ref a::ws/\dO F H/\iF M.K F ws xs/\xs.length+1=n /\
 M.ob.P F H a l c/\(∀b∈l,H b≠none/\F b=none)/\D c xs P /\
 ∀r c' v F' H' l',P r c'->(∀b o,H b=some o->b∉l->H' b=some o)->(∀b,H b≠none->H' b≠none)->dO F F'->dO F' H'->(∀a,F' a≠none->F a≠none\/H a=none)->M.ob.P F' H' a l' c'->(∀b∈l',H' b≠none/\F' b=none)->(∀b∈l',b∈l\/H b=none)->Rep M.K F' v r->Q v H'
def Gu(P:PV->Prop)(e:En):Prop:=match e[(0:Nat)]? with
 |some (some ⟨2,c⟩)=>P c
 |_=>False
def FT(P:PV->PV->Prop):Wd:={nx:=λe=>Gu (P .nE) e,rt:=λx e=>Gu (P x) e}
def EA(n:Nat)(u:WS):Ai:=λc xs P=>u (FT P) (some ⟨2,c⟩::xD (n - 1) xs)
theorem fD{vs:List V}(h:vs.length<=N.length):(start N vs).length=N.length:=by
 unfold L2.start
 rw[aaF,aad,ab0];omega
theorem e7{xs:List PV}(h:xs.length<=n):(xD n xs).length=n:=by
 unfold xD
 rw[aaF,aad,ab0];omega
theorem e8{xs:List PV}{s:Sl}(h:(xD n xs)[i]?=some (some s)):∃x,xs[i]?=some x/\s=⟨0,x⟩:=by
 unfold xD at h
 rcases aaO i xs.length with q|q
 .rw[aav (by simpa using q),aai,aaa q]at h
  exact⟨xs[i],by simp[q],(aao (aao h)).symm⟩
 .rw[acx (by simpa using q),List.getElem?_replicate]at h
  split at h<;>cases h
theorem cA{vs:List V}{v:V}(h:vs[i]?=some v):(start N vs)[i]?=some (some v):=by
 unfold L2.start
 have q:i<vs.length:=by
  rcases aaO i vs.length with q|q
  .exact q
  .rw[aan q]at h;cases h
 rw[aav (by simpa using q),aai,h];rfl
theorem j6{vs:List V}{xs:List PV}(sF:dO F H)(r:iF M.K F vs xs)(hl:xs.length<=N.length):lT M ⟨H,F,[],λ_=>none,λ_ h=>by simp at h⟩ F (start N vs) H (xD N.length xs):=by
 have Ce:vs.length<=N.length:=by rw[r.len];exact hl
 refine⟨sF,λb o h _=>h,λb h=>h,aj,λa h=>.inl h,by rw[e7 hl,fD Ce],λ_=>[],λi s h=>?_,λi a h=>by simp at h,λi j a _ h=>by simp at h,λi a s h=>by cases h⟩
 obtain⟨x,hx,rfl⟩:=e8 h
 obtain⟨v,hv,rv⟩:=r.get hx
 exact⟨v,cA hv,.inl ⟨rfl,rfl,rv⟩⟩
variable{l:List Addr}
theorem iH{xs:List PV}{a:Addr}{c:PV}(sF:dO F H)(r:iF M.K F ws xs)(hl:xs.length+1<=N.length)(ho:M.ob.P F H a l c)(hb:∀b∈l,H b≠none/\F b=none):
  lT M ⟨H,F,l,λi=>if i=0 then some a else none,λb h=>(hb b h).1⟩ F (start N (.ref a::ws)) H (some ⟨2,c⟩::xD (N.length - 1) xs):=by
 have Ce:ws.length+1<=N.length:=by rw[r.len];exact hl
 refine⟨sF,λb o h _=>h,λb h=>h,aj,λa h=>.inl h,?_,λi=>if i=0 then l else [],λi s h=>?_,λi b h=>?_,λi j b Ae h z=>?_,λi b s h _ _=>?_⟩
 .rw[aa3,e7 (by omega),fD (by simpa using Ce)];omega
 .cases i with
  |zero=>
   have h:s=⟨2,c⟩:=by simpa using h.symm
   subst h
   exact⟨.ref a,cA rfl,.inr (.inr (.inl ⟨.inl rfl,a,rfl,λc hc=>.inl hc,ho⟩))⟩
  |succ i=>
   have h:(xD (N.length - 1) xs)[i]?=some (some s):=by simpa using h
   obtain⟨x,hx,rfl⟩:=e8 h
   obtain⟨v,hv,rv⟩:=r.get hx
   exact⟨v,cA (by simpa using hv),.inl ⟨rfl,rfl,rv⟩⟩
 .split at h
  .exact hb b h
  .simp at h
 .split at h
  .split at z
   .rename_i h1 h2;exact Ae (h1.trans h2.symm)
   .simp at z
  .simp at h
 .dsimp only at h
  split at h
  .rename_i e;subst e;cases h;exact cA rfl
  .cases h
variable{P:aaB}{w:World}{mg:Str->Option Value}{base:Heap}
variable{qual:Str}{fd:abA}{ps:List Str}
theorem bK{f:Addr}{k:Nat}(F:C6 K x qual st f fd)(S:az N ps (ap st))(hn:ps.length<=N.length)
  (hb:∀(xn:Value) (A:Around) (outer:List Env) (s:Shared) (H:Hp) (E:XK),xw k (A.deeper (envOfC qual (ap st) s.heap.objs.size f xn))->zX ob (Aw ye P w K mg base N qual (ap st) f xn A outer s H E).EH (aZ st) u) :
  w4 P w K mg base ye (k+1) f fd ps (G8 ⟨P,w,K,ob⟩ ps.length (run N.length u)):=by
 refine F.ok S (λvs H Q E h=>?_) (λxn A outer s H vs Q E hr h=>?_)
 .obtain⟨F,xs,P,_,r,hl,_⟩:=h
  rw[r.len];exact hl
 .obtain⟨F,xs,P',sF,r,hl,hD,kk⟩:=h
  obtain⟨t,ht,kt⟩:=(hb xn A outer s H E hr).ex
  refine⟨t,ht,kt ⟨H,F,[],λ_=>none,λ_ h=>by simp at h⟩ F (start N vs) H (xD N.length xs) (Ig P') _ (j6 (M:=⟨P,w,K,ob⟩) sF r (by omega)) hD ⟨λenv σ F' H' p s1 K1=>?_,λx env v σ F' H' p s1 K1 rv=>?_,λ_ _ _ _ p=>p.elim,λ_ _ _ _ p=>p.elim,λ_ _ _ _ _ _ p=>p.elim,λ_ _ _ _ _ _ _ p=>p.elim⟩⟩
  .exact kk .nE .nE F' H' p (λb o h=>K1.sG b o h (by simp)) s1 K1.sF K1.nw .nE
  .exact kk x v F' H' p (λb o h=>K1.sG b o h (by simp)) s1 K1.sF K1.nw rv
theorem lY{f:Addr}{k:Nat}(F:C6 K x qual st f fd)(S:az N ps (ap st))(hn:ps.length<=N.length)
  (hb:∀(xn:Value) (A:Around) (outer:List Env) (s:Shared) (H:Hp) (E:XK),xw k (A.deeper (envOfC qual (ap st) s.heap.objs.size f xn))->zX ob (Aw ye P w K mg base N qual (ap st) f xn A outer s H E).EH (aZ st) u) :
  w4 P w K mg base ye (k+1) f fd ps (E8 ⟨P,w,K,ob⟩ ps.length (EA N.length u)):=by
 refine F.ok S (λvs H Q E h=>?_) (λxn A outer s H vs Q E hr h=>?_)
 .obtain⟨F,a,l,c,ws,xs,P,rfl,_,r,hl,_⟩:=h
  rw[aa3,r.len];exact hl
 .obtain⟨F,a,l,c,ws,xs,P',rfl,sF,r,hl,ho,Cy,hD,kk⟩:=h
  obtain⟨t,ht,kt⟩:=(hb xn A outer s H E hr).ex
  have fin:∀(x:PV) (env:En) (v:V) (σ:L2.St) (F' H':Hp),Gu (P' x) env->dO F F'->lT ⟨P,w,K,ob⟩ ⟨H,F,l,λi=>if i=0 then some a else none,λb h=>(Cy b h).1⟩ F' σ H' env->Rep K F' v x->Q v H':=λx env v σ F' H' p s1 K1 rv=>by
   unfold Gu at p
   split at p
   .rename_i c' e
    obtain⟨fp,L⟩:=K1.sl
    obtain⟨v0,AB,ok⟩:=L.at' 0 _ e
    have hσ:=L.oa 0 a _ rfl e rfl
    rw[hσ]at AB;cases AB
    rcases ok with ⟨k0,_⟩|⟨k0,_⟩|⟨_,a',e',h1,h2⟩|⟨k0,_⟩
    .cases k0
    .cases k0
    .cases e'
     exact kk x _ v F' H' (fp 0) p (λb o h1 h2=>K1.sG b o h1 h2) (λb h=>K1.pr b h) s1 K1.sF K1.nw h2 (λb hb=>L.al 0 b hb) (λb hb=>h1 b hb) rv
    .cases k0
   .exact p.elim
  refine⟨t,ht,kt ⟨H,F,l,λi=>if i=0 then some a else none,λb h=>(Cy b h).1⟩ F (start N (.ref a::ws)) H (some ⟨2,c⟩::xD (N.length - 1) xs) (FT P') _ (iH (M:=⟨P,w,K,ob⟩) sF r (by omega) ho Cy) hD ⟨λenv σ F' H' p s1 K1=>?_,λx env v σ F' H' p s1 K1 rv=>?_,λ_ _ _ _ p=>p.elim,λ_ _ _ _ p=>p.elim,λ_ _ _ _ _ _ p=>p.elim,λ_ _ _ _ _ _ _ p=>p.elim⟩⟩
  .exact fin .nE env .nE σ F' H' p s1 K1 .nE
  .exact fin x env v σ F' H' p s1 K1 rv
def xi(D:Fd)(fa:WA):WE:=λenv P=>fa env λxs e=>D xs λr=>P r e
def wR(D:Ai)(i:Nat)(fa:WA):WE:=λenv P=>(env[i]?).join.isSome=true/\fa env λxs e=>match e[i]? with
 |some (some ⟨2,c⟩)=>D c xs λr c'=>P r (e.set i (some ⟨2,c'⟩))
 |some (some ⟨4,c⟩)=>D c xs λr c'=>P r (e.set i (some ⟨4,c'⟩))
 |_=>False
variable{k:Nat}{yT:Addr}{D:Fd}{DO:Ai}{p1:Pos}
theorem ur(F:w4 X.prog X.w X.K X.mg X.base ye k yT fd ps (G8 (md ob X) n D))(hr:xw k X.A)(hm:X.mg x=some (.ref yT))(hk:abH X.K (.ref yT)=true)(hb:Binds X.K fd ps [])(ha:CC ob X (e::es) fa)(hn:es.length+1=n:=by rfl)(hg:Gl X x:=by rfl)
  (zR:(x==("__debug__" : Str))=false:=by decide) (he:aam (e::es) X.env=(false,eval e X.env)::aam es X.env:=by rfl) (yt:(backTo pos (aam es X.env)).any (·.1)=false:=by rfl) :
  xu ob X (.Call (.Name x p) (e::es) [] pos) (xi D fa):=by
 obtain⟨t,ht,kt⟩:=ha.ex
 refine⟨_,dX (E:=E0) F hr hg hm hk hb .nil B7 ht zR he yt,λZ F σ H env P Q K hf kk=>kt Z F σ H env _ _ K hf λxs e1 vs F1 H1 p hl s1 K1 r1=>?_⟩
 rw[abh]
 refine⟨F1,xs,λr=>P r e1,K1.sF,r1,by rw[hl];exact hn,p,λr v F' H' pr sH sF Fv nw rv=>?_⟩
 exact kk r e1 v F' H' pr (ai s1 sF) (K1.move sF Fv sH nw) rv
theorem lT.EG{kd:Nat}{a:Addr}{c c':PV}{l':List Addr}(hk:kd=2\/kd=4)(K:lT M Z F σ H env)(L:Slots M Z F σ H env fp)(hi:env[i]?=some (some ⟨kd,c⟩))(hv:σ[i]?=some (some (.ref a)))
  (kp:∀b o,H b=some o->b∉fp i->H' b=some o) (pr:∀b,H b≠none->H' b≠none) (sF:dO F F') (Fv:dO F' H') (nw:∀a,F' a≠none->F a≠none\/H a=none) (ho:M.ob.P F' H' a l' c') (hl:∀b∈l',H' b≠none/\F' b=none) (hn:∀b∈l',b∈fp i\/H b=none) :
  lT M Z F' σ H' (env.set i (some ⟨kd,c'⟩))/\Slots M Z F' σ H' (env.set i (some ⟨kd,c'⟩)) (λj=>if j=i then l' else fp j):=by
 obtain⟨v0,AB,Mt⟩:=L.at' i _ hi
 have wr:=Mt.wr
 have Px:∀b∈l',b∈Z.S\/Z.H₀ b=none:=λb hb=>by
  rcases hn b hb with q|q
  .exact wr b q
  .exact .inr (K.h0 q)
 have xA:i<env.length:=by
  rcases aaO i env.length with q|q
  .exact q
  .rw[aan q]at hi;cases hi
 suffices S:Slots M Z F' σ H' (env.set i (some ⟨kd,c'⟩)) (λj=>if j=i then l' else fp j)from ⟨⟨Fv,λb o h1 h2=>kp b o (K.sG b o h1 h2) λz=>(wr b z).elim h2 λq=>(by rw[q]at h1;cases h1),λb h=>pr b (K.pr b h),ai K.gr sF,λa h=>(nw a h).elim (K.nw a) λq=>.inr (K.h0 q),by simp[K.len],_,S⟩,S⟩
 refine⟨λj s e=>?_,λj b h=>?_,λj j2 b II h z=>?_,λj b s e1 e2 e3=>?_⟩
 .by_cases q:j=i
  .subst q
   rw[aa8]at e
   simp only[if_true,xA]at e
   cases e
   exact⟨_,hv,by rw[if_pos rfl];exact .inr (.inr (.inl ⟨hk,a,rfl,Px,ho⟩))⟩
  .rw[aau (abv q)]at e
   obtain⟨v,h1,h2⟩:=L.at' j s e
   have h3:=h2.mono (H':=H') sF λc hc=>by
    obtain⟨o,ho⟩:=b8 (L.al j c hc).1
    rw[ho]
    exact kp c o ho (L.dj j i c q hc)
   exact⟨v,h1,by rw[if_neg q];exact h3⟩
 .by_cases q:j=i
  .rw[if_pos q]at h;exact hl b h
  .rw[if_neg q]at h
   have:=L.al j b h
   refine⟨pr b this.1,?_⟩
   cases e:F' b with
   |none=>rfl
   |some o=>
    rcases nw b (by rw[e];simp)with y|y
    .exact absurd this.2 y
    .exact absurd y this.1
 .have JK:∀j,j≠i->b∈l'->b∈fp j->False:=λj hj m1 m2=>by
   rcases hn b m1 with y|y
   .exact L.dj j i b hj m2 y
   .exact(L.al j b m2).1 y
  by_cases q:j=i
  .rw[if_pos q]at h
   rw[if_neg (λy=>II (q.trans y.symm))]at z
   exact JK j2 (λy=>II (q.trans y.symm)) h z
  .rw[if_neg q]at h
   by_cases q2:j2=i
   .rw[if_pos q2]at z;exact JK j q z h
   .rw[if_neg q2]at z;exact L.dj j j2 b II h z
 .by_cases q:j=i
  .subst q
   rw[aa8]at e2
   simp only[if_true,xA]at e2
   cases e2
   exact L.oa j b _ e1 hi e3
  .rw[aau (abv q)]at e2
   exact L.oa j b s e1 e2 e3
theorem sg(i:Nat){y:Str}(F:w4 X.prog X.w X.K X.mg X.base ye k yT fd ps (E8 (md ob X) n DO))(hr:xw k X.A)(hm:X.mg x=some (.ref yT))(hk:abH X.K (.ref yT)=true)(hb:Binds X.K fd ps [])(ho:PE X (.Name y p1) (xx i))(ha:CC ob X es fa)(hn:es.length+1=n:=by rfl)(hg:Gl X x:=by rfl)
  (zR:(x==("__debug__" : Str))=false:=by decide) (he:aam (.Name y p1::es) X.env=(false,eval (.Name y p1) X.env)::aam es X.env:=by rfl) (yt:(backTo pos (aam es X.env)).any (·.1)=false:=by rfl) :
  xu ob X (.Call (.Name x p) (.Name y p1::es) [] pos) (wR DO i fa):=by
 obtain⟨t,ht,kt⟩:=ha.ex
 refine⟨_,dX (E:=E0) F hr hg hm hk hb .nil B7 (aP ho ht he) zR he yt,λZ F σ H env P Q K hf kk=>?_⟩
 obtain⟨h0,hf⟩:=hf
 obtain⟨w,hw⟩:∃v,σ[i]?=some (some v):=by
  cases e:env[i]? with
  |none=>rw[e]at h0;cases h0
  |some w=>
   cases w with
   |none=>rw[e]at h0;cases h0
   |some s=>
    obtain⟨fp,L⟩:=K.sl
    obtain⟨v,hv,_⟩:=L.at' i s e
    exact⟨v,hv⟩
 refine⟨w,hw,kt Z F σ H env _ _ K hf λxs e1 vs F1 H1 p hl s1 K1 r1=>?_⟩
 show E8 (md ob X) n DO ((w::vs)++[]) H1 Q E0
 rw[abh]
 have fin:∀(kd:Nat) (c:PV),kd=2\/kd=4->e1[i]?=some (some ⟨kd,c⟩)->DO c xs (λr c'=>P r (e1.set i (some ⟨kd,c'⟩)))->E8 (md ob X) n DO (w::vs) H1 Q E0:=λkd c Du ei p=>by
  obtain⟨fp,L⟩:=K1.sl
  obtain⟨v0,AB,ok⟩:=L.at' i _ ei
  rw[hw]at AB;cases AB
  rcases ok with ⟨k0,_⟩|⟨k0,_⟩|⟨_,a,rfl,_,ho⟩|⟨k0,_⟩
  .rcases Du with rfl|rfl<;>cases k0
  .rcases Du with rfl|rfl<;>cases k0
  .refine⟨F1,a,fp i,c,vs,xs,_,rfl,K1.sF,r1,by rw[hl];exact hn,ho,λb hb=>L.al i b hb,p,λr c' v F' H' l' pr kp pre sF Fv nw BW Ce ER rv=>?_⟩
   exact kk r _ v F' H' pr (ai s1 sF) (K1.EG Du L ei hw kp pre sF Fv nw BW Ce ER).1 rv
  .rcases Du with rfl|rfl<;>cases k0
 split at p
 .rename_i ei;exact fin _ _ (.inl rfl) ei p
 .rename_i ei;exact fin _ _ (.inr rfl) ei p
 .exact p.elim
theorem bj{D':Fd}(F:w4 P w K mg base ye k yT fd ps (G8 ⟨P,w,K,ob⟩ n D))(h:∀xs P,D' xs P->D xs P):w4 P w K mg base ye k yT fd ps (G8 ⟨P,w,K,ob⟩ n D') :=
 F.imp λvs H Q E ⟨F,xs,P,a,b,c,d,e⟩=>⟨F,xs,P,a,b,c,h _ _ d,e⟩
variable{D':Ai}
theorem jP{D:Ai}(F:w4 P w K mg base ye k yT fd ps (E8 ⟨P,w,K,ob⟩ n D))(h:∀c xs P,D' c xs P->D c xs P):w4 P w K mg base ye k yT fd ps (E8 ⟨P,w,K,ob⟩ n D') :=
 F.imp λvs H Q E q=>by
  obtain⟨F,a,l,c,ws,xs,P,a1,a2,a3,a4,a5,a6,a7,a8⟩:=q
  exact⟨F,a,l,c,ws,xs,P,a1,a2,a3,a4,a5,a6,h _ _ _ a7,a8⟩
theorem HD(r:xw k A):A.units+1<cLine:=by have:=r.un;omega
theorem yF(r:xw k A):A.units<cLine:=by have:=r.un;omega
theorem Au(r:xw k A):A.units+60<cLine:=by have:=r.un;omega
theorem DP(r:xw k A):A.units+62<cLine:=by have:=r.un;omega
def Ja:PV->Option String
 |.nE=>some "NoneType"
 |.bl _=>some "bool"
 |.int _=>some "int"
 |.str _=>some "str"
 |.tup _=>some "tuple"
 |.lst _=>some "list"
 |.xv _=>some "dict"
 |_=>none
def JT(T c:String):Bool:=T==c || (T == "bool" && c == "int")
def Gx(c:String)(x:PV):Option PV:=(Ja x).map λT=>.bl (JT T c)
def NS(c:String)(a:WE):WE:=LB (Gx c) a
def Ii(o o':PV->PV->Option PV)(fa fb fc:WE):WE:=λenv P=>fa env λx e1=>fb e1 λy e2=>opt (o x y) λz=>opt (D0 z) λk=>if k=true then fc e2 λw e3=>opt (o' y w) λz'=>P z' e3 else P (.bl false) e2
variable{c:WT}
def Eu(a:WE):WS:=λP env=>a env P.rf
def Et(i:Nat):WS:=λP env=>match env[i]? with
 |some (some ⟨1,x⟩)=>Dm x=true/\P.rf x (env.set i none)
 |_=>False
variable{c:Expr}
theorem uk(h:C8 ob X e f):AE ob X (.Return (some e) pos) (Eu f):=by
 obtain⟨t,ht,k⟩:=h.ex
 exact⟨_,cZ ht,λZ F σ H env P D K hf L=>k Z F σ H env _ _ K hf λx e1 v F1 H1 p s1 hx K1=>L.rf x e1 v σ F1 H1 p s1 hx K1⟩
theorem lT.give{x:PV}(K:lT M Z F σ H env)(hi:env[i]?=some (some ⟨1,x⟩)):∃v,σ[i]?=some (some v)/\lT M Z F (σ++[some v]) H (env.set i none++[some ⟨1,x⟩]):=by
 obtain⟨fp,L⟩:=K.sl
 obtain⟨v,hv,ok⟩:=L.at' i _ hi
 have L1:Slots M Z F σ H (env.set i none) (λj=>if j=i then []else fp j):=by
  refine⟨λj s e=>?_,λj a e=>?_,λj k a AW e z=>?_,λj a s e1 e2 e3=>?_⟩
  .by_cases q:j=i
   .subst q
    rw[aa8]at e
    simp only[if_true]at e
    split at e<;>cases e
   .rw[aau (abv q)]at e
    rw[if_neg q]
    exact L.at' j s e
  .split at e
   .simp at e
   .exact L.al j a e
  .split at e
   .simp at e
   .split at z
    .simp at z
    .exact L.dj j k a AW e z
  .by_cases q:j=i
   .subst q
    rw[aa8]at e2
    simp only[if_true]at e2
    split at e2<;>cases e2
   .rw[aau (abv q)]at e2
    exact L.oa j a s e1 e2 e3
 refine⟨v,hv,K.slots (by simp[K.len]) (L1.push (l:=fp i) (by simp) (by simp[K.len]) ok (λa=>L.al i a) λj a h z=>?_)⟩
 split at z
 .simp at z
 .rename_i q;exact L.dj i j a (abv q) h z
theorem uj(i:Nat)(ho:PE X (.Name x p) (xx i)):AE ob X (.Return (some (.Name x p)) pos) (Et i):=by
 refine⟨_,cZ ho,λZ F σ H env P D K hf L=>?_⟩
 unfold Et at hf
 split at hf
 .rename_i y ei
  obtain⟨v,hv,K'⟩:=K.give ei
  exact⟨v,hv,L.rf _ _ v σ F H hf.2 aj (ic hf.1) K'⟩
 .exact hf.elim
def Bi(M:Md)(n:Nat)(D:Ai):Sp:=λvs H Q _=>∃(F:Hp) (a:Addr) (l:List Addr) (c:PV) (ws:List V) (xs:List PV) (P:PV->PV->Prop),vs=.ref a::ws/\dO F H/\iF M.K F ws xs/\xs.length+1=n /\
 M.ob.P F H a l c/\(∀b∈l,H b≠none/\F b=none)/\D c xs P /\
 ∀r c' q F' H' l',P r c'->(∀b o,H b=some o->b∉l->H' b=some o)->(∀b,H b≠none->H' b≠none)->dO F F'->dO F' H'->(∀a,F' a≠none->F a≠none\/H a=none)->M.ob.P F' H' a l' c'->(∀b∈l',H' b≠none/\F' b=none)->(∀b∈l',b∈l\/H b=none) ->
  (∀xs,r≠.set xs)->yD M F' H' q r->F' q=none->H q=none->q∉l'->Q (.ref q) H'
def GJ(P:PV->PV->Prop):Wd:={nx:=λ_=>False,rt:=λ_ _=>False,rf:=λx e=>Gu (P x) e}
def B4(n:Nat)(u:WS):Ai:=λc xs P=>u (GJ P) (some ⟨2,c⟩::xD (n - 1) xs)
theorem rP{v:V}{x:PV}(K:lT M Z F (σ++[some v]) H (env++[some ⟨1,x⟩])):∃a fp,v=.ref a/\yD M F H a x/\F a=none/\Z.H₀ a=none/\Slots M Z F σ H env fp/\∀i,i<env.length->a∉fp i:=by
 have hn:env.length=σ.length:=by have:=K.len;simpa using this
 obtain⟨fp,L⟩:=K.sl
 rcases L.last hn with ⟨e,_⟩|⟨_,a,rfl,hf,h0,hw⟩|⟨e,_⟩|⟨e,_⟩
 .cases e
 .have ha:=L.al env.length a (by rw[hf];simp)
  exact⟨a,fp,rfl,hw,ha.2,h0,L.drop hn,λi hi z=>L.dj env.length i a (by omega) (by rw[hf];simp) z⟩
 .rcases e with e|e<;>cases e
 .cases e
theorem nI{f:Addr}(F:C6 K x qual st f fd)(S:az N ps (ap st))(hn:ps.length<=N.length)
  (hb:∀(xn:Value) (A:Around) (outer:List Env) (s:Shared) (H:Hp) (E:XK),xw k (A.deeper (envOfC qual (ap st) s.heap.objs.size f xn))->zX ob (Aw ye P w K mg base N qual (ap st) f xn A outer s H E).EH (aZ st) u) :
  w4 P w K mg base ye (k+1) f fd ps (Bi ⟨P,w,K,ob⟩ ps.length (B4 N.length u)):=by
 refine F.ok S (λvs H Q E h=>?_) (λxn A outer s H vs Q E hr h=>?_)
 .obtain⟨F,a,l,c,ws,xs,P,rfl,_,r,hl,_⟩:=h
  rw[aa3,r.len];exact hl
 .obtain⟨F,a,l,c,ws,xs,P',rfl,sF,r,hl,ho,Cy,hD,kk⟩:=h
  obtain⟨t,ht,kt⟩:=(hb xn A outer s H E hr).ex
  refine⟨t,ht,kt ⟨H,F,l,λi=>if i=0 then some a else none,λb h=>(Cy b h).1⟩ F (start N (.ref a::ws)) H (some ⟨2,c⟩::xD (N.length - 1) xs) (GJ P') _ (iH (M:=⟨P,w,K,ob⟩) sF r (by omega) ho Cy) hD ⟨λ_ _ _ _ p=>p.elim,λ_ _ _ _ _ _ p=>p.elim,λ_ _ _ _ p=>p.elim,λ_ _ _ _ p=>p.elim,λx env v σ F' H' p s1 hx K1=>?_,λ_ _ _ _ _ _ _ p=>p.elim⟩⟩
  obtain⟨q,fp,rfl,h1,h2,h3,L,h4⟩:=rP K1
  have p:Gu (P' x) env:=p
  unfold Gu at p
  split at p
  .rename_i c' e
   obtain⟨v0,AB,ok⟩:=L.at' 0 _ e
   have hσ:=L.oa 0 a _ rfl e rfl
   rw[hσ]at AB;cases AB
   rcases ok with ⟨k0,_⟩|⟨k0,_⟩|⟨_,a',e',g1,g2⟩|⟨k0,_⟩
   .cases k0
   .cases k0
   .cases e'
    have xA:0<env.length:=by
     rcases aaO 0 env.length with y|y
     .exact y
     .rw[aan y]at e;cases e
    exact kk x _ q F' H' (fp 0) p (λb o h1 h2=>K1.sG b o h1 h2) (λb h=>K1.pr b h) s1 K1.sF K1.nw g2 (λb hb=>L.al 0 b hb) (λb hb=>g1 b hb) hx h1 h2 h3 (h4 0 xA)
   .cases k0
  .exact p.elim
theorem dB(i:Nat){y:Str}(F:w4 X.prog X.w X.K X.mg X.base ye k yT fd ps (Bi (md ob X) n DO))(hr:xw k X.A)(hm:X.mg x=some (.ref yT))(hk:abH X.K (.ref yT)=true)(hb:Binds X.K fd ps [])(ho:PE X (.Name y p1) (xx i))(ha:CC ob X es fa)(hn:es.length+1=n:=by rfl)(hg:Gl X x:=by rfl)
  (zR:(x==("__debug__" : Str))=false:=by decide) (he:aam (.Name y p1::es) X.env=(false,eval (.Name y p1) X.env)::aam es X.env:=by rfl) (yt:(backTo pos (aam es X.env)).any (·.1)=false:=by rfl) :
  C8 ob X (.Call (.Name x p) (.Name y p1::es) [] pos) (wR DO i fa):=by
 obtain⟨t,ht,kt⟩:=ha.ex
 refine⟨_,dX (E:=E0) F hr hg hm hk hb .nil B7 (aP ho ht he) zR he yt,λZ F σ H env P Q K hf kk=>?_⟩
 obtain⟨h0,hf⟩:=hf
 obtain⟨w,hw⟩:∃v,σ[i]?=some (some v):=by
  cases e:env[i]? with
  |none=>rw[e]at h0;cases h0
  |some w=>
   cases w with
   |none=>rw[e]at h0;cases h0
   |some s=>
    obtain⟨fp,L⟩:=K.sl
    obtain⟨v,hv,_⟩:=L.at' i s e
    exact⟨v,hv⟩
 refine⟨w,hw,kt Z F σ H env _ _ K hf λxs e1 vs F1 H1 p hl s1 K1 r1=>?_⟩
 show Bi (md ob X) n DO ((w::vs)++[]) H1 Q E0
 rw[abh]
 have fin:∀(kd:Nat) (c:PV),kd=2\/kd=4->e1[i]?=some (some ⟨kd,c⟩)->DO c xs (λr c'=>P r (e1.set i (some ⟨kd,c'⟩)))->Bi (md ob X) n DO (w::vs) H1 Q E0:=λkd c Du ei p=>by
  obtain⟨fp,L⟩:=K1.sl
  obtain⟨v0,AB,ok⟩:=L.at' i _ ei
  rw[hw]at AB;cases AB
  rcases ok with ⟨k0,_⟩|⟨k0,_⟩|⟨_,a,rfl,_,ho⟩|⟨k0,_⟩
  .rcases Du with rfl|rfl<;>cases k0
  .rcases Du with rfl|rfl<;>cases k0
  .refine⟨F1,a,fp i,c,vs,xs,_,rfl,K1.sF,r1,by rw[hl];exact hn,ho,λb hb=>L.al i b hb,p,λr c' q F' H' l' pr kp pre sF Fv nw BW Ce ER hx hq hF OF QE=>?_⟩
   obtain⟨K2,L2⟩:=K1.EG Du L ei hw kp pre sF Fv nw BW Ce ER
   refine kk r _ _ F' H' pr (ai s1 sF) hx ?_
   refine K2.slots (by simp[K1.len]) (L2.push (l:=[q]) (by simp) (by simp[K1.len]) (.inr (.inl ⟨rfl,q,rfl,rfl,K1.h0 OF,hq⟩)) (λb hb=>?_) λj b hb hj=>?_)
   .simp at hb;subst hb
    refine⟨?_,hF⟩
    cases r<;>try exact hq.elim
    .obtain⟨vs,h,_⟩:=hq;rw[h];simp
    .obtain⟨vs,h,_⟩:=hq;rw[h];simp
    .rw[show H' _=_ from hq];simp
   .simp at hb;subst hb
    split at hj
    .exact QE hj
    .exact(L.al j b hj).1 OF
  .rcases Du with rfl|rfl<;>cases k0
 split at p
 .rename_i ei;exact fin _ _ (.inl rfl) ei p
 .rename_i ei;exact fin _ _ (.inr rfl) ei p
 .exact p.elim
end Q
namespace L2
open PySem PySem.Spec PyProof.Rows PySem.W
def yw(P:Addr)(ps:Array Value):HO:=.ext λh=>h.get? P=some (tabObj ps)
def yB(c:Addr)(lq:Str):HO:=.ext λh=>h.CodeRec (.ref c) lq
variable{P:aaB}{w:World}{H:Hp}{h:Heap}{a:Addr}
theorem lh{ps:Array Value}(e:h.get? a=some (tabObj ps)):xa P w H h a (yw a ps):=⟨e,⟨_,e⟩,λh1 h2 x k=>k _ x⟩
end L2
namespace Pre
open PySem L2
structure BS(H:Hp)(a b:Addr):Prop where
 st:∃(ns:List Int) (z:Int),H a=some (.lst [.ref b,.int z])/\H b=some (.lst (ns.map V.int))/\(∀n∈ns,0<=n)/\0<=z/\z<2305843009213693951
def Cu(a b:Addr)(H H':Hp):Prop:=∀c o,H c=some o->c≠a->c≠b->H' c=some o
theorem Cu.refl(a b:Addr)(H:Hp):Cu a b H H:=λ_ _ h _ _=>h
variable{H:Hp}{a b:Addr}
theorem BS.ne(s:BS H a b):a≠b:=by
 obtain⟨ns,z,h1,h2,_⟩:=s.st
 refine oE h1 h2 λe=>?_
 injection e with e
 cases ns with
 |nil=>cases e
 |cons n r=>injection e with e _;cases e
variable{o:HO}
theorem BS.grow{p:Addr}(s:BS H a b)(hp:H p=none):BS (upd H p o) a b:=by
 obtain⟨ns,z,h1,h2,h3⟩:=s.st
 exact⟨ns,z,by rw[af (aq h1 hp)];exact h1,by rw[af (aq h2 hp)];exact h2,h3⟩
variable{H':Hp}
theorem Cu.grow{p:Addr}(x:Cu a b H H')(hp:H' p=none):Cu a b H (upd H' p o):=λc u h h1 h2=>by
 have q:=x c u h h1 h2
 rw[af (aq q hp)];exact q
theorem Cu.Hb(x:Cu a b H H'):Cu a b H (upd H' a o):=λc u h h1 h2=>by rw[af h1];exact x c u h h1 h2
theorem Cu.Ft(x:Cu a b H H'):Cu a b H (upd H' b o):=λc u h h1 h2=>by rw[af h2];exact x c u h h1 h2
theorem BS.Ft{ns:List Int}(s:BS H a b)(hn:∀n∈ns,0<=n):BS (upd H b (.lst (ns.map V.int))) a b:=by
 have yq:=s.ne
 obtain⟨_,z,h1,h2,_,h3⟩:=s.st
 exact⟨ns,z,by rw[af yq];exact h1,ag,hn,h3⟩
theorem BS.Hb{z:Int}(s:BS H a b)(h0:0<=z)(h1:z<2305843009213693951):BS (upd H a (.lst [.ref b,.int z])) a b:=by
 have yq:=s.ne
 obtain⟨ns,_,_,h2,h3,_⟩:=s.st
 exact⟨ns,z,ag,by rw[af yq.symm];exact h2,h3,h0,h1⟩
def stK(b:Addr)(left seed many:Int):List (Key×V):=[(.inr (abn "cells"),.ref b),(.inr (abn "left"),.int left),(.inr (abn "seed"),.int seed),(.inr (abn "many"),.int many)]
structure Sk(H:Hp)(a b:Addr)(f:Nat):Prop where
 st:∃(ns:List Int) (left seed many:Int),H a=some (.dK (stK b left seed many))/\H b=some (.lst (ns.map V.int))/\0<=left/\0<=seed/\seed<2305843009213693951/\0<=many/\many+f<=1152921504606846976
def f8(K:aah):Sp:=λvs H Q _=>∃(s:Addr) (ns:List Int),vs=[.ref s]/\yf K H s (ns.map V.int)/\ns.length<=63/\∀(a b:Addr) (H':Hp),H a=none->H b=none->BS H' a b->dO H H'->Q (.ref a) H'
def Ep:Sp:=λvs H Q _=>∃(a b:Addr) (m:Int),vs=[.ref a,.int m]/\BS H a b/\0<m/\m<1073741824/\∀(r:Int) (H':Hp),0<=r->r<m->BS H' a b->Cu a b H H'->Q (.int r) H'
end Pre
namespace Q
open PySem L2 PyProof.Rows
def GV(K:aah)(F H:Hp)(a:Addr)(l:List Addr)(x:PV):Prop:=∃ks:List (Key×Addr×List PV),x=.xv (ks.map λt=>(t.1,.lst t.2.2))/\l=a::ks.map (·.2.1)/\H a=some (.dK (ks.map λt=>(t.1,.ref t.2.1))) /\
 (ks.map (·.2.1)).Nodup/\∀t∈ks,∃vs,H t.2.1=some (.lst vs)/\iF K F vs t.2.2
def yR(lq:Str)(ln co:Nat)(P:Addr):PV:=.tup [.str lq,.int ln,.int co,.int (P:Nat)]
def TabAt(H:Hp)(a:Addr)(l:List Addr)(x:PV):Prop:=∃(lq:Str) (ln co:Nat) (ps:Array Value),x=yR lq ln co a/\H a=some (yw a ps)/\PySem.TriplesOk ps.toList /\
 ((l=[a]/\acg ⟨ln,co,0,0⟩ ps.toList=none)\/∃c',c'≠a/\l=[a,c']/\acg ⟨ln,co,0,0⟩ ps.toList=some (.ref c')/\H c'=some (yB c' lq))
def Iq(H:Hp)(a:Addr)(l:List Addr)(x:PV):Prop:=∃(x1 x2:PV) (T2:Addr) (l1 l2:List Addr),x=.tup [x1,x2]/\l=l1++l2/\TabAt H a l1 x1/\TabAt H T2 l2 x2/\∀b∈l1,b∉l2
variable{H H':Hp}{a:Addr}{l:List Addr}{x:PV}
theorem TabAt.mono(h:TabAt H a l x)(e:∀b∈l,H' b=H b):TabAt H' a l x:=by
 obtain⟨lq,ln,co,ps,rfl,h1,h2,h3⟩:=h
 refine⟨lq,ln,co,ps,rfl,?_,h2,?_⟩
 .rcases h3 with ⟨rfl,_⟩|⟨c',_,rfl,_⟩
  .exact(e a (by simp)).trans h1
  .exact(e a (by simp)).trans h1
 .rcases h3 with ⟨rfl,h4⟩|⟨c',h4,rfl,h5,h6⟩
  .exact .inl ⟨rfl,h4⟩
  .exact .inr ⟨c',h4,rfl,h5,(e c' (by simp)).trans h6⟩
def Ky(H:Hp)(a:Addr)(l:List Addr)(x:PV):Prop:=(x=.nE/\∃b,l=[a,b]/\Pre.BS H a b)\/∃(f:Nat) (b:Addr),x=.int f/\l=[a,b]/\Pre.Sk H a b f
def zA(K:aah):xV where
 P:=λF H a l x=>Ky H a l x\/GV K F H a l x\/TabAt H a l x\/Iq H a l x
 mono:=λF F' H H' a l x h s e=>by
  rcases h with (⟨h0,b,rfl,ns,z,h1,h2,h3⟩|⟨f,b,h0,rfl,ns,q1,q2,q3,h1,h2,h3⟩)|⟨ks,rfl,rfl,h1,h2,h3⟩|ht|⟨x1,x2,T2,l1,l2,rfl,rfl,h1,h2,h3⟩
  .exact .inl (.inl ⟨h0,b,rfl,ns,z,(e a (by simp)).trans h1,(e b (by simp)).trans h2,h3⟩)
  .exact .inl (.inr ⟨f,b,h0,rfl,ns,q1,q2,q3,(e a (by simp)).trans h1,(e b (by simp)).trans h2,h3⟩)
  .refine .inr (.inl ⟨ks,rfl,rfl,(e a (by simp)).trans h1,h2,λt ht=>?_⟩)
   obtain⟨vs,q1,q2⟩:=h3 t ht
   exact⟨vs,(e _ (aar _ (aaZ (f:=λt=>t.2.1) ht))).trans q1,q2.mono s⟩
  .exact .inr (.inr (.inl (ht.mono e)))
  .exact .inr (.inr (.inr ⟨x1,x2,T2,l1,l2,rfl,rfl,h1.mono λb hb=>e b (abE _ hb),h2.mono λb hb=>e b (aaC _ hb),h3⟩))
def aC:Ai:=λc xs P=>c=.nE/\∃m:Int,xs=[.int m]/\0<m/\m<1073741824/\∀r:Int,0<=r->r<m->P (.int r) .nE
theorem mU{b:Addr}(s:Pre.BS H a b):H a≠none/\H b≠none:=by
 obtain⟨ns,z,h1,h2,_⟩:=s.st
 exact⟨by rw[h1];simp,by rw[h2];simp⟩
variable{P:aaB}{w:World}{K:aah}{mg:Str->Option Value}{base:Heap}{k:Nat}{yT:Addr}{fd:abA}{ps:List Str}
theorem rH(F:w4 P w K mg base ye k yT fd ps Pre.Ep):w4 P w K mg base ye k yT fd ps (E8 ⟨P,w,K,zA K⟩ 2 aC):=by
 refine F.imp λvs H Q E h=>?_
 obtain⟨F,a,l,c,ws,xs,P',rfl,sF,r,hl,ho,hb,⟨rfl,m,rfl,m0,m1,hP⟩,kk⟩:=h
 obtain⟨b,rfl,S⟩:∃b,l=[a,b]/\Pre.BS H a b:=by
  rcases ho with (⟨_,h⟩|⟨_,_,h,_⟩)|⟨ks,h,_⟩|⟨_,_,_,_,h,_⟩|⟨_,_,_,_,_,h,_⟩
  .exact h
  .cases h
  .cases h
  .cases h
  .cases h
 cases r with
 |cons r1 r2=>
  cases r2
  cases r1
  refine⟨a,b,m,rfl,S,m0,m1,λr H' r0 r1 S' hB=>?_⟩
  have two:=mU S'
  have keep:∀c o,H c=some o->c∉[a,b]->H' c=some o:=λc o h hn=>by
   simp at hn
   exact hB c o h hn.1 hn.2
  refine kk (.int r) .nE (.int r) F H' [a,b] (hP r r0 r1) keep (λc h=>?_) aj (λc o h=>?_) (λc h=>.inl h) (.inl (.inl ⟨rfl,b,rfl,S'⟩)) (λc hc=>?_) (λc hc=>.inl hc) (.int r)
  .by_cases q:c∈[a,b]
   .simp at q
    rcases q with rfl|rfl
    .exact two.1
    .exact two.2
   .obtain⟨o,ho⟩:=b8 h
    rw[keep c o ho q];simp
  .refine keep c o (sF c o h) λq=>?_
   have:=(hb c q).2
   rw[h]at this;cases this
  .refine⟨?_,(hb c hc).2⟩
   simp at hc
   rcases hc with rfl|rfl
   .exact two.1
   .exact two.2
def yE(i j:Nat):WS:=λP env=>match env[j]? with
 |some (some ⟨0,x⟩)=>(∃ns:List Int,(x=.y6 ns\/x=.lst (ns.map .int))/\ns.length<=63)/\P.nx (env.set i (some ⟨4,.nE⟩))
 |_=>False
variable{F:Hp}{ns:List Int}{vs:List V}
theorem lr(h:iF K F vs (ns.map PV.int)):vs=ns.map V.int:=by
 induction ns generalizing vs with
 |nil=>cases h;rfl
 |cons n ns ih=>cases h with
  |cons a r=>cases a;exact congrArg (List.cons _) (ih r)
variable{X:Cx}{x y:Str}{p p1 pos pos':Pos}
theorem sa(i j:Nat)(hN:X.N.Nodup)(hi:X.N[i]?=some y)(hx:Loc X.env.scope y)(F:w4 X.prog X.w X.K X.mg X.base ye k yT fd ps (Pre.f8 X.K))(hr:xw k X.A)(hm:X.mg "_law_begin" = some (.ref yT))(hk:abH X.K (.ref yT)=true)(hb:Binds X.K fd ps [])(ho:PE X (.Name x p1) (xx j))
  (hg:Gl X "_law_begin" :=by rfl) (he:aam [.Name x p1] X.env=(false,eval (.Name x p1) X.env)::aam [] X.env:=by rfl) (yt:(backTo pos (aam [] X.env)).any (·.1)=false:=by rfl)
  {x5:Pos} (hs:ab1 (.Call (.Name "_law_begin" p) [.Name x p1] [] pos) (some (.Name y pos')) x5.line X.env=pure false:=by rfl) (hf:X.fn y=true\/X.env.scope.names.lookup y=some .local:=by first|exact .inl rfl|exact .inr rfl|assumption) :
  AE (zA X.K) X (.Assign [.Name y pos'] (.Call (.Name "_law_begin" p) [.Name x p1] [] pos) x5) (yE i j):=by
 refine⟨_,cY hN hi hx (dX (E:=E0) F hr hg hm hk hb .nil B7 (aP ho aV he) (by decide) he yt) hs hf,λZ F σ H env P D K hf L=>?_⟩
 unfold yE at hf
 split at hf
 .rename_i v ej
  obtain⟨⟨ns,hv,hn⟩,hp⟩:=hf
  obtain⟨w,hw,r⟩:=K.val ej
  obtain⟨s,rfl,hs⟩:∃s,w=.ref s/\yf X.K H s (ns.map V.int):=by
   rcases hv with rfl|rfl
   .cases r with
    |y6 h=>exact⟨_,rfl,cO K.sF h.sq⟩
   .cases r with
    |lst h1 h2=>
     have:=lr h2
     subst this
     exact⟨_,rfl,.inl (.inl (K.sF _ _ h1))⟩
  refine⟨_,hw,s,ns,rfl,hs,hn,λa b H' ha hb S sH=>?_⟩
  have RA:F a=none:=dO.none_of K.sF ha
  have Rz:F b=none:=dO.none_of K.sF hb
  have K1:lT (md (zA X.K) X) Z F σ H' env:=K.move aj (ai K.sF sH) sH λ_ h=>.inl h
  obtain⟨fp,L0⟩:=K.sl
  have L1:Slots (md (zA X.K) X) Z F σ H' env fp:=L0.move aj (λ_ c o _ e=>sH c o e) λ_ h=>.inl h
  have two:=mU S
  refine L.nx _ _ F H' hp aj ?_
  rcases aaO i env.length with xA|FI
  case inr=>
   rw[abm FI,abm (by have:=K.len;omega)]
   exact K1
  refine K1.slots (by simp[K.len]) (L1.put (l:=[a,b]) (by simp) (by have:=K.len;omega) (.inr (.inr (.inl ⟨.inr rfl,a,rfl,λc hc=>.inr ?_,   .inl (.inl ⟨rfl,b,rfl,S⟩)⟩))) (λc hc=>?_) λj c _ hc hj=>?_)
  .simp at hc
   rcases hc with rfl|rfl
   .exact K.h0 ha
   .exact K.h0 hb
  .simp at hc
   rcases hc with rfl|rfl
   .exact⟨two.1,RA⟩
   .exact⟨two.2,Rz⟩
  .have:=(L0.al j c hj).1
   simp at hc
   rcases hc with rfl|rfl
   .exact this ha
   .exact this hb
 .exact hf.elim
variable{M:Md}{Z:Zn}{σ:L2.St}{env:En}{p:Addr}{o:HO}
theorem uJ:∀b∈Z.S,upd Z.H₀ p o b≠none:=λb hb=>by
 by_cases e:b=p
 .subst e;rw[ag];simp
 .rw[af e];exact Z.sS b hb
def Zn.add(Z:Zn)(p:Addr)(o:HO):Zn:={Z with H₀:=upd Z.H₀ p o,sS:=uJ}
theorem lT.guard(K:lT M Z F σ H env)(hp:H p=none):lT M (Z.add p o) F σ (upd H p o) env:=by
 have hF:F p=none:=dO.none_of K.sF hp
 have h0:Z.H₀ p=none:=K.h0 hp
 have hS:p∉Z.S:=λh=>Z.sS p h h0
 obtain⟨fp,L⟩:=K.sl
 have hn:∀i,p∉fp i:=λi h=>(L.al i p h).1 hp
 obtain⟨K1,L1⟩:=K.yQ (o:=o) L hF h0 hn
 have ne:∀{c:Addr},Z.H₀ c=none->c≠p->(Z.add p o).H₀ c=none:=λ{c} h q=>by show upd Z.H₀ p o c=none;rw[af q];exact h
 refine⟨K1.sF,λb u h1 h2=>?_,λb h=>?_,K1.gr,λa h=>?_,K1.len,fp,λi s e=>?_,L1.al,L1.dj,L1.oa⟩
 .by_cases q:b=p
  .subst q
   have h1:upd Z.H₀ b o b=some u:=h1
   rw[ag]at h1 ⊢;exact h1
  .have h1:upd Z.H₀ p o b=some u:=h1
   rw[af q]at h1
   exact K1.sG b u h1 h2
 .by_cases q:b=p
  .subst q;rw[ag];simp
  .have h:upd Z.H₀ p o b≠none:=h
   rw[af q]at h
   exact K1.pr b h
 .rcases K1.nw a h with q|q
  .exact .inl q
  .refine .inr (ne q λz=>?_)
   subst z;exact h hF
 .obtain⟨v,hv,ok⟩:=L1.at' i s e
  refine⟨v,hv,?_⟩
  rcases ok with k|⟨k,a,e1,e2,h1,h2⟩|⟨k,a,e1,h1,h2⟩|k
  .exact .inl k
  .exact .inr (.inl ⟨k,a,e1,e2,ne h1 λz=>hn i (by rw[e2,z];simp),h2⟩)
  .exact .inr (.inr (.inl ⟨k,a,e1,λc hc=>(h1 c hc).elim .inl λq=>.inr (ne q λz=>hn i (by rw[<- z];exact hc)),h2⟩))
  .exact .inr (.inr (.inr k))
theorem lT.C9(K:lT M (Z.add p o) F σ H env)(h0:Z.H₀ p=none)(IM:Z.F₀ p=none):lT M Z F σ H env/\H p=some o/\F p=none/\∃fp,Slots M Z F σ H env fp/\∀i s,env[i]?=some (some s)->p∉fp i:=by
 have hS:p∉Z.S:=λh=>Z.sS p h h0
 have QL:(Z.add p o).H₀ p=some o:=ag
 have back:∀{c:Addr},(Z.add p o).H₀ c=none->Z.H₀ c=none/\c≠p:=λ{c} h=>by
  have h:upd Z.H₀ p o c=none:=h
  by_cases q:c=p
  .subst q;rw[ag]at h;cases h
  .rw[af q]at h;exact⟨h,q⟩
 have hF:F p=none:=by
  cases e:F p with
  |none=>rfl
  |some u=>
   rcases K.nw p (by rw[e];simp)with q|q
   .exact absurd IM q
   .exact absurd rfl (back q).2
 obtain⟨fp,L⟩:=K.sl
 have S:Slots M Z F σ H env fp:=by
  refine⟨λi s e=>?_,L.al,L.dj,L.oa⟩
  obtain⟨v,hv,ok⟩:=L.at' i s e
  refine⟨v,hv,?_⟩
  rcases ok with k|⟨k,a,e1,e2,h1,h2⟩|⟨k,a,e1,h1,h2⟩|k
  .exact .inl k
  .exact .inr (.inl ⟨k,a,e1,e2,(back h1).1,h2⟩)
  .exact .inr (.inr (.inl ⟨k,a,e1,λc hc=>(h1 c hc).elim .inl λq=>.inr (back q).1,h2⟩))
  .exact .inr (.inr (.inr k))
 have up:∀{b:Addr} {u:HO},Z.H₀ b=some u->(Z.add p o).H₀ b=some u:=λ{b u} h=>by
  show upd Z.H₀ p o b=some u
  rw[af (aq h h0)];exact h
 refine⟨⟨K.sF,λb u h1 h2=>K.sG b u (up h1) h2,λb h=>?_,K.gr,λa h=>?_,K.len,fp,S⟩,K.sG p o QL hS,hF,fp,S,λi s e hi=>?_⟩
 .obtain⟨u,hu⟩:=b8 h
  exact K.pr b (by rw[up hu];simp)
 .rcases K.nw a h with q|q
  .exact .inl q
  .exact .inr (back q).1
 .obtain⟨v,hv,ok⟩:=L.at' i s e
  rcases ok.wr p hi with q|q
  .exact hS q
  .exact(back q).2 rfl
def tidy(env:En)(fp:Nat->List Addr)(i:Nat):List Addr:=match env[i]? with
 |some (some _)=>fp i
 |_=>[]
variable{fp:Nat->List Addr}
theorem Slots.tidy(L:Slots M Z F σ H env fp):Slots M Z F σ H env (Q.tidy env fp):=by
 have sub:∀i a,a∈Q.tidy env fp i->a∈fp i:=λi a h=>by
  unfold Q.tidy at h
  split at h
  .exact h
  .simp at h
 refine⟨λi s e=>?_,λi a h=>L.al i a (sub i a h),λi j a Ae h z=>L.dj i j a Ae (sub i a h) (sub j a z),L.oa⟩
 obtain⟨v,hv,ok⟩:=L.at' i s e
 exact⟨v,hv,by unfold Q.tidy;rw[e];exact ok⟩
theorem lT.Ei{o':HO}{x:PV}(K:lT M (Z.add p o) F σ H env)(h0:Z.H₀ p=none)(IM:Z.F₀ p=none)(hx:yD M F (upd H p o') p x):lT M Z F (σ++[some (.ref p)]) (upd H p o') (env++[some ⟨1,x⟩]):=by
 obtain⟨K1,hp,hF,fp,L,hn⟩:=K.C9 h0 IM
 have L1:=L.tidy
 have Lr:∀i,p∉Q.tidy env fp i:=λi h=>by
  unfold Q.tidy at h
  split at h
  .rename_i s e;exact hn i s e h
  .simp at h
 obtain⟨K2,L2⟩:=K1.yQ (o:=o') L1 hF h0 Lr
 refine K2.slots (by simp[K2.len]) (L2.push (l:=[p]) (by simp) K2.len (.inr (.inl ⟨rfl,p,rfl,rfl,h0,hx⟩)) (λa ha=>?_) λj a ha=>?_)
 .simp at ha;subst ha
  exact⟨by rw[ag];simp,hF⟩
 .simp at ha;subst ha
  exact Lr j
def By:List (Key×PV)->List (Key×PV):=λkvs=>kvs.foldl (λacc kv=>zO acc kv.1 kv.2) []
def NT:List (WE×WE)->List (Key×PV)->WE
 |[],acc=>λenv P=>P (.xv (By acc)) env
 |(fk,fv)::r,acc=>λenv P=>fk env λy e1=>fv e1 λv e2=>opt (zC y) λk=>NT r (acc++[(k,v)]) e2 P
def GL(l:List (WE×WE)):WE:=NT l []
inductive Bp (ob:xV) (X:Cx):List (Option Expr)->List Expr->List (WE×WE)->Prop where
 |nil:Bp ob X [] [] []
 |cons {k v:Expr} {ks:List (Option Expr)} {vs:List Expr} {fk fv:WE} {l:List (WE×WE)}:xu ob X k fk->xu ob X v fv->Bp ob X ks vs l->Bp ob X (some k::ks) (v::vs) ((fk,fv)::l)
theorem kj{more:List (Key×V)}{mx:List (Key×PV)}{acc:List (Key×V)}{ax:List (Key×PV)}(h:lE K F more mx)(h2:lE K F acc ax):lE K F (zu acc more) (mx.foldl (λacc kv=>zO acc kv.1 kv.2) ax):=by
 induction h using lE.ind generalizing acc ax with
 |nil=>exact h2
 |cons a _ ih=>exact ih (h2.put a)
variable{ob:xV}
variable{values:List Expr}
theorem Bp.facts{keys:List (Option Expr)}{l:List (WE×WE)}(h:Bp ob X keys values l):keys.all (·.isSome)=true/\keys.length=values.length:=by
 induction h with
 |nil=>exact⟨rfl,rfl⟩
 |cons _ _ _ ih=>exact⟨by simp[ih.1],by simp[ih.2]⟩
theorem Bp.run{keys:List (Option Expr)}{l:List (WE×WE)}(h:Bp ob X keys values l):∃Dd,KA X pos keys values Dd/\∀(Z:Zn) (F:Hp) (σ:L2.St) (H:Hp) (env:En) (P:PV->En->Prop) (acc:List (Key×PV)) (va:List (Key×V)) (Q:List (V×V)->Hp->Prop),lT (md ob X) Z F σ H env->lE X.K F va acc->NT l acc env P ->
  (∀kvs vs bY F' H',P (.xv (By kvs)) bY->dO F F'->lT (md ob X) Z F' σ H' bY->lE X.K F' (va++vs) kvs->vs.length=keys.length->Q (vs.map λkv=>(kV kv.1,kv.2)) H')->BD Dd σ H Q:=by
 induction h with
 |nil=>exact⟨[],s0,λZ F σ H env P acc va Q K ra hf kk=>kk acc [] env F H hf aj K (by rw[abh];exact ra) rfl⟩
 |cons hk hv _ ih=>
  obtain⟨tk,MV,kk⟩:=hk.ex
  obtain⟨tv,MT,kv⟩:=hv.ex
  obtain⟨Dd,MU,kr⟩:=ih
  refine⟨_,qZ MV MT MU,λZ F σ H env P acc va Q K ra hf fin=>?_⟩
  refine kk Z F σ H env _ _ K hf λy e1 y' F1 H1 p1 s1 K1 r1=>kv Z F1 σ H1 e1 _ _ K1 p1 λv e2 v' F2 H2 p2 s2 K2 r2=>?_
  obtain⟨k,hk,p2⟩:=p2
  have hy:=eh hk (r1.mono s2)
  subst hy
  refine kr Z F2 σ H2 e2 P _ (va++[(k,v')]) _ K2 ((ra.mono (ai s1 s2)).app (.cons r2 .nil)) p2 λkvs vs e3 F3 H3 p3 s3 K3 r3 hl=>?_
  exact fin kvs ((k,v')::vs) e3 F3 H3 p3 (ai s1 (ai s2 s3)) K3 (by simpa using r3) (by simp[hl])
theorem uq{keys:List (Option Expr)}{l:List (WE×WE)}(h:Bp ob X keys values l)(h0:keys≠[]:=by simp)(NH:keys.length<=15:=by decide):C8 ob X (.Dict keys values pos) (GL l):=by
 obtain⟨Dd,MU,kr⟩:=h.run (pos:=pos)
 obtain⟨ha,hl⟩:=h.facts
 refine⟨_,tu MU ha hl h0 NH,λZ F σ H env P Q K hf kk p hp=>?_⟩
 refine kr (Z.add p (.dK [])) F σ _ env P [] [] _ (K.guard hp) .nil hf λkvs vs e1 F1 H1 p1 s1 K1 r1 SJ=>?_
 have h0:Z.H₀ p=none:=K.h0 hp
 have IM:Z.F₀ p=none:=dO.none_of K.gr (dO.none_of K.sF hp)
 have hS:=(K1.C9 h0 IM).2.1
 refine⟨hS,vs,rfl,by omega,kk _ e1 _ F1 _ p1 s1 (λ_=>by simp) (K1.Ei h0 IM ⟨_,ag,kj (by simpa using r1) .nil⟩)⟩
def mY(i:Nat):WS:=λP env=>P.nx (env.set i (some ⟨1,.set []⟩))
def zy(S:List Str)(k:Str):List Str:=if k∈S then S else S++[k]
def mZ(i:Nat)(a:WE):WS:=λP env=>(match env[i]? with|some (some ⟨1,.set _⟩)=>True|_=>False)/\a env λx e=>match e[i]?,x with
 |some (some ⟨1,.set S⟩),.str k=>S.length<=4000/\P.nx (e.set i (some ⟨1,.set (zy S k)⟩))
 |_,_=>False
variable{e:Expr}{f:WE}{p apos xg x5:Pos}
theorem qp(i:Nat)(hN:X.N.Nodup)(hi:X.N[i]?=some x)(hx:Loc X.env.scope x)(hm:X.mg "set" = none)(hg:Gl X "set" :=by rfl)(hs:ab1 (.Call (.Name "set" p) [] [] pos) (some (.Name x pos')) x5.line X.env=pure false:=by rfl)(hf:X.fn x=true\/X.env.scope.names.lookup x=some .local:=by first|exact .inl rfl|exact .inr rfl|assumption):
  AE ob X (.Assign [.Name x pos'] (.Call (.Name "set" p) [] [] pos) x5) (mY i):=by
 refine⟨_,cY hN hi hx (om qE hg hm boot_set) hs hf,λZ F σ H env P D K hf L=>⟨rfl,λq hq=>L.nx _ _ F _ hf aj ?_⟩⟩
 exact(K.own (x:=.set []) hq (by show upd H q _ q=_;rw[ag];simp)).take
theorem qq(i:Nat)(ho:PE X (.Name x p) (xx i))(ha:xu ob X e f)
  (x3:abW (.Name x p) "add" X.env (eval (.Name x p) X.env)=eval (.Name x p) X.env:=by rfl)
  (AX:((backTo xg (aam [e] X.env)).all (λx=>!x.1) && (aeh xg (acV [] X.env)).all (λx=>x.1.isSome)
   && decide ([e].length+([]:List ac9).length+(if ([]:List ac9).isEmpty then 0 else 1)<30))=true:=by rfl)
  (xY:(apos.endLine==xg.line)=true:=by rfl) (Bv:aam [e] X.env=(false,eval e X.env)::aam [] X.env:=by rfl) (yp:(backTo xg (aam [] X.env)).any (·.1)=false:=by rfl)
  (hs:ab1 (.Call (.Attribute (.Name x p) "add" apos) [e] [] xg) none x5.line X.env=pure false:=by rfl) :
  AE ob X (.Expr (.Call (.Attribute (.Name x p) "add" apos) [e] [] xg) x5) (mZ i f):=by
 obtain⟨t,ht,k⟩:=ha.ex
 refine⟨_,ga (pL ho (aP ht aV Bv) x3 AX xY Bv yp) hs,λZ F σ H env P D K hf L=>?_⟩
 obtain⟨h0,hf⟩:=hf
 obtain⟨a,S0,hσ,ha⟩:∃(a:Addr) (S0:List Str),σ[i]?=some (some (.ref a))/\H a=some (AJ X.prog X.w a (λs=>decide (s∈S0)) S0.length):=by
  split at h0
  .rename_i S e
   obtain⟨a,h1,h2⟩:=K.ownAt (.inl rfl) e
   exact⟨a,S,h1,h2⟩
  .exact h0.elim
 refine⟨_,hσ,a,_,_,rfl,ha,k Z F σ H env _ _ K hf λy e1 y' F1 H1 p1 s1 K1 r1=>?_⟩
 split at p1
 .rename_i S kk es
  obtain⟨a',h1,h2⟩:=K1.ownAt (.inl rfl) es
  rw[hσ]at h1;cases h1
  cases r1
  have h2:H1 a=some (AJ X.prog X.w a (λs=>decide (s∈S)) S.length):=h2
  refine⟨kk,_,_,rfl,h2,by have:=p1.1;unfold scanBound;omega,L.nx _ _ F1 _ p1.2 s1 (K1.write (.inl rfl) es hσ ?_)⟩
  show upd H1 a _ a=some _
  rw[ag]
  unfold zy
  by_cases hm:kk∈S
  .rw[if_pos hm]
   have:(λk'=>decide (k'∈S) || decide (k'=kk))=λs=>decide (s∈S):=by
    funext k'
    by_cases q:k'=kk
    .subst q;simp[hm]
    .simp[q]
   simp only[this,hm,decide_true,if_true]
  .rw[if_neg hm]
   have:(λk'=>decide (k'∈S) || decide (k'=kk))=λs=>decide (s∈S++[kk]):=by
    funext k'
    simp[Bool.decide_or]
   simp only[this,hm,decide_false,abl,if_false,aaF,aea]
 .exact p1.elim
def AO(env:En):En:=env.map λo=>match o with
 |some ⟨0,x⟩=>some ⟨0,x⟩
 |_=>none
def BX(F H:Hp):Zn:=⟨H,F,[],λ_=>none,λ_ h=>by simp at h⟩
variable{F':Hp}{bY:En}
theorem lT.pure(K:lT M Z F σ H env):lT M (BX F H) F σ H (AO env):=by
 refine⟨K.sF,λb o h _=>h,λb h=>h,aj,λa h=>.inl h,by simp[AO,K.len],λ_=>[],λi s e=>?_,λi a h=>by simp at h,λi j a _ h=>by simp at h,λi a s h=>by cases h⟩
 unfold AO at e
 rw[aai]at e
 cases ei:env[i]? with
 |none=>rw[ei]at e;cases e
 |some o=>
  rw[ei]at e
  have e:=aao e
  dsimp only at e
  split at e
  .cases e
   obtain⟨v,hv,r⟩:=K.val ei
   exact⟨v,hv,.inl ⟨rfl,rfl,r⟩⟩
  .cases e
theorem lT.Eh(K:lT M Z F σ H env)(K':lT M (BX F H) F' σ H' bY):lT M Z F' σ H' env/\dO H H'/\∀fp,Slots M Z F σ H env fp->Slots M Z F' σ H' env fp:=by
 have sH:dO H H':=λb o h=>K'.sG b o h (by simp[BX])
 have nw:∀a,F' a≠none->F a≠none\/H a=none:=K'.nw
 exact⟨K.move K'.gr K'.sF sH nw,sH,λfp L=>L.move K'.gr (λ_ c o _ e=>sH c o e) nw⟩
def jr(i:Nat)(it:WA):WS:=λP env=>it env λxs e=>∃ks,xs.mapM zC=some ks/\ks.Nodup/\ks.length<=1000/\P.nx (e.set i (some ⟨4,.xv (ks.map λk=>(k,.lst []))⟩))
def Dr(kvs:List (Key×PV))(k:Key):Option (List PV):=match yu kvs k with
 |some (.lst xs)=>some xs
 |_=>none
def Bz(kvs:List (Key×PV))(k:Key)(xs:List PV):List (Key×PV):=kvs.map λkv=>if kv.1=k then (k,.lst xs)else kv
def dU(i:Nat)(fk fv:WE):WS:=λP env=>match env[i]? with
 |some (some ⟨4,.xv kvs⟩)=>(kvs.map (·.1)).Nodup/\fk (AO env) λy _=>opt (zC y) λk=>opt (Dr kvs k) λxs=>fv (AO env) λv _=>xs.length<=100000/\P.nx (env.set i (some ⟨4,.xv (Bz kvs k (xs++[v]))⟩))
 |_=>False
def jq(i:Nat):WS:=λP env=>match env[i]? with
 |some (some ⟨4,x⟩)=>P.ro x i env
 |_=>False
variable{α:Type}
theorem lO{β:Type}{f:α->Option β}{l:List α}{m:List β}(h:l.mapM f=some m)(i:Nat)(b:β)(hb:m[i]?=some b):∃a,l[i]?=some a/\f a=some b:=by
 obtain⟨hl,h2⟩:=bh h
 have hi:i<l.length:=by
  rw[<- hl]
  rcases aaO i m.length with q|q
  .exact q
  .rw[aan q]at hb;cases hb
 obtain⟨b',e1,e2⟩:=h2 i l[i] (by simp[hi])
 rw[hb]at e1;cases e1
 exact⟨l[i],by simp[hi],e2⟩
variable{v:V}
theorem qX{kvs:List (Key×V)}{k:Key}(h:k∉kvs.map (·.1)):putK kvs k v=kvs++[(k,v)]:=by
 unfold putK
 rw[if_neg]
 intro z
 obtain⟨p,hp,e⟩:=List.any_eq_true.mp z
 exact h (List.mem_map.mpr ⟨p,hp,of_decide_eq_true e⟩)
variable{iter:Expr}{scope:Scope}{p2 p3:Pos}{fi:WA}{t:Str}
variable{py:Pos}
theorem qt(i:Nat)(hN:X.N.Nodup)(hy:X.N[i]?=some y)(hl:X.env.scope.names.lookup y=some .local)(hi:Ga (zA X.K) X (.Name t p1) iter fi)(hg:∀C s₀ H₀ ex pn,PG (rW X scope [t] C s₀ H₀ ex pn) (.Name t p1) (yL 0))(hk:∀C s₀ H₀ ex pn,PE (rW X scope [t] C s₀ H₀ ex pn) (.Name t p2) (xx 0))
  (HF:ab1 (.DictComp (.Name t p2) (.List [] p3) [⟨.Name t p1,iter,[],0⟩] scope pos) (some (.Name y py)) x5.line X.env=pure true:=by rfl)
  (hc:X.calm=true:=by rfl) (hx:X.xe=(λ_ _=>False):=by rfl) (Ad:Ao X.env scope=true:=by rfl) (xO:yO X.N scope [t] [none]=true:=by rfl) (xk:scope.kind=.function:=by rfl) (hs:∀x,aa4 iter X.env x=pure x:=by intro _;rfl) :
  AE (zA X.K) X (.Assign [.Name y py] (.DictComp (.Name t p2) (.List [] p3) [⟨.Name t p1,iter,[],0⟩] scope pos) x5) (jr i fi):=by
 obtain⟨wi,FA,k⟩:=hi.ex
 refine⟨_,sy (i:=i) (wi:=wi) (g:=yL 0) (tc:=GZ) (tk:=xx 0) (te:=G3 DI) (N:=[t]) (js:=[none]) hN hy hl FA hg (λC s₀ H₀ ex pn=>pK) hk (λC s₀ H₀ ex pn=>fJ aV) gg HF hc hx Ad xO xk hs,λZ F σ H env P D K hf L=>?_⟩
 refine k Z F σ H env _ _ K hf λxs e1 J F1 H1 pp s1 K1 I1 l hl=>?_
 obtain⟨ks,Cw,GF,hlen,pp⟩:=pp
 obtain⟨SM,_⟩:=bh Cw
 obtain⟨fp,L1⟩:=K1.sl
 have Nh:Z.H₀ l=none:=K1.h0 hl
 refine⟨λj m ys H'=>m=xs.length - j/\j<=xs.length/\∃(as:List Addr) (F':Hp),dO F1 F'/\as.length=j/\ys=((ks.take j).zip as).map (λt=>(t.1,V.ref t.2))/\H' l=some (.dK ys)/\as.Nodup/\(∀a∈as,H' a=some (.lst [])/\(Z.H₀ a=none/\∀i,a∉fp i)/\F' a=none/\a≠l) /\
   lT (md (zA X.K) X) Z F' σ H' e1/\Slots (md (zA X.K) X) Z F' σ H' e1 fp/\F' l=none,?_,?_⟩
 .have hF:F1 l=none:=dO.none_of K1.sF hl
  have hn:∀i,l∉fp i:=λi h=>(L1.al i l h).1 hl
  obtain⟨K2,L2⟩:=K1.yQ (o:=.dK []) L1 hF Nh hn
  exact⟨_,rfl,aaS _,[],F1,aj,rfl,by simp,ag,by simp,λa h=>by simp at h,K2,L2,hF⟩
 rintro j m ys H' ⟨rfl,hj,as,F',sF,Kj,rfl,IH,hand,has,K',L',O3⟩
 by_cases xA:j<xs.length
 .have OO:j<ks.length:=by omega
  obtain⟨h1,h2⟩:=I1.go Z j σ e1 F' H' xs[j] sF K' (by simp[xA])
  refine .inr ⟨h1,λv H3 yv=>?_⟩
  obtain⟨F3,s3,K3,r3,sH,nw⟩:=h2 v H3 yv
  obtain⟨a0,ea,ek⟩:=lO Cw j ks[j] (by simp[OO])
  rw[aaa xA]at ea
  cases ea
  have hv:=eh ek r3
  subst hv
  have L3:Slots (md (zA X.K) X) Z F3 σ H3 e1 fp:=L'.move s3 (λ_ c o _ e=>sH c o e) nw
  unfold yL GZ
  dsimp only
  rw[if_pos rfl]
  refine⟨_,rfl,aaS _,λq hq=>⟨ks[j],rfl,?_⟩⟩
  have J8:l≠q:=aq (sH _ _ IH) hq
  have DS:(upd H3 q (.lst [])) l=some (.dK (((ks.take j).zip as).map λt=>(t.1,V.ref t.2))):=by rw[af J8];exact sH _ _ IH
  have MP:(((ks.take j).zip as).map λt=>((t.1:Key),V.ref t.2)).length=j:=by simp[Kj];omega
  have nF:∀{b:Addr},F' b=none->H' b≠none->F3 b=none:=λ{b} q1 q2=>by
   cases e:F3 b with
   |none=>rfl
   |some o=>
    rcases nw b (by rw[e];simp)with z|z
    .exact absurd q1 z
    .exact absurd z q2
  have Km:F3 l=none:=nF O3 (by rw[IH];simp)
  have Kl:F3 q=none:=dO.none_of K3.sF hq
  have OI:∀i,q∉fp i:=λi h=>(L3.al i q h).1 hq
  obtain⟨K4,L4⟩:=K3.yQ (o:=.lst []) L3 Kl (K3.h0 hq) OI
  have Na:∀i,l∉fp i:=λi h=>(L1.al i l h).1 hl
  have NO:putK (((ks.take j).zip as).map λt=>((t.1:Key),V.ref t.2)) ks[j] (.ref q)=((ks.take (j+1)).zip (as++[q])).map λt=>(t.1,V.ref t.2):=by
   rw[qX,abB,aaa OO]
   .rw[List.zip_append (by simp[Kj];omega)]
    simp
   .intro z
    rw[aaw]at z
    obtain⟨⟨kk,aa⟩,hm,e⟩:=List.mem_map.mp z
    have Nf:=(adm hm).1
    have e:kk=ks[j]:=e
    subst e
    obtain⟨n,hn,en⟩:=List.mem_take_iff_getElem.mp Nf
    have:=(abx GF).mp en
    omega
  obtain⟨K5,L5⟩:=K4.yQ (o:=.dK (putK (((ks.take j).zip as).map λt=>((t.1:Key),V.ref t.2)) ks[j] (.ref q))) L4 Km Nh Na
  refine⟨DS,by rw[MP,aaA];omega,xs.length - (j+1),by omega,rfl,xA,as++[q],F3,ai sF s3,by simp[Kj],NO,ag,?_,λa ha=>?_,K5,L5,Km⟩
  .rw[ab3]
   refine⟨hand,by simp,λa ha b hb z=>?_⟩
   simp at hb;subst hb;subst z
   have:=sH _ _ (has a ha).1
   rw[hq]at this;cases this
  .rcases List.mem_append.mp ha with ha|ha
   .obtain⟨q1,q2,q3,q4⟩:=has a ha
    have:a≠q:=aq (sH _ _ q1) hq
    exact⟨by rw[af q4,af this];exact sH _ _ q1,q2,nF q3 (by rw[q1];simp),q4⟩
   .simp at ha;subst ha
    exact⟨by rw[af J8.symm];exact ag,⟨K3.h0 hq,OI⟩,Kl,J8.symm⟩
 .have e:j=xs.length:=by omega
  subst e
  refine .inl ⟨I1.stop Z _ σ e1 F' H' sF K' (aak _),L.nx _ _ F' H' pp (ai s1 sF) ?_⟩
  have Na:∀i,l∉fp i:=λi h=>(L1.al i l h).1 hl
  rcases aaO i e1.length with QU|FI
  case inr=>
   rw[abm FI,abm (by have:=K'.len;omega)]
   exact K'
  have ht:ks.take xs.length=ks:=acQ (by omega)
  rw[ht]at IH
  refine K'.slots (by simp[K'.len]) (L'.put (l:=l::as) (by simp) (by have:=K'.len;omega) (.inr (.inr (.inl ⟨.inr rfl,l,rfl,λc hc=>.inr ?_,.inr (.inl ⟨(ks.zip as).map λt=>(t.1,t.2,[]),?_,?_,?_,?_,?_⟩)⟩))) (λc hc=>?_) λj c _ hc=>?_)
  .rcases List.mem_cons.mp hc with rfl|hc
   .exact Nh
   .exact(has c hc).2.1.1
  .rw[aaw]
   have:(ks.map λk=>((k:Key),PV.lst []))=(ks.zip as).map ((λt:Key×Addr×List PV=>(t.1,PV.lst t.2.2)) ∘ λt=>(t.1,t.2,[])):=by
    have e1:(λt:Key×Addr×List PV=>(t.1,PV.lst t.2.2)) ∘ (λt:Key×Addr=>(t.1,t.2,[]))=(λk=>((k:Key),PV.lst [])) ∘ Prod.fst:=rfl
    rw[e1,<- aaw,List.map_fst_zip (by omega)]
   rw[this]
  .rw[aaw]
   have e1:(λt:Key×Addr×List PV=>t.2.1) ∘ (λt:Key×Addr=>(t.1,t.2,[]))=Prod.snd:=rfl
   rw[e1,ae0 (by omega)]
  .rw[aaw];exact IH
  .rw[aaw]
   have e1:(λt:Key×Addr×List PV=>t.2.1) ∘ (λt:Key×Addr=>(t.1,t.2,[]))=Prod.snd:=rfl
   rw[e1,ae0 (by omega)];exact hand
  .intro t ht
   obtain⟨⟨kk,aa⟩,hm,rfl⟩:=List.mem_map.mp ht
   exact⟨[],(has aa (adm hm).2).1,.nil⟩
  .rcases List.mem_cons.mp hc with rfl|hc
   .exact⟨by rw[IH];simp,O3⟩
   .exact⟨by rw[(has c hc).1];simp,(has c hc).2.2.1⟩
  .rcases List.mem_cons.mp hc with rfl|hc
   .exact Na j
   .exact(has c hc).2.1.2 j
variable{px:Pos}
theorem qu(i:Nat){ke:Expr}{fk fv:WE}{ps:Pos}(hu:X.A.units+1<cLine)(ho:PE X (.Name x px) (xx i))(hk:xu (zA X.K) X ke fk)(hv:xu (zA X.K) X e fv)(Fe:F8 ke:=by exact λ_ _=>rfl)
  (x3:abW (.Subscript (.Name x px) ke ps) "append" X.env (eval (.Subscript (.Name x px) ke ps) X.env)=eval (.Subscript (.Name x px) ke ps) X.env:=by rfl)
  (AX:((backTo xg (aam [e] X.env)).all (λx=>!x.1) && (aeh xg (acV [] X.env)).all (λx=>x.1.isSome)
   && decide ([e].length+([]:List ac9).length+(if ([]:List ac9).isEmpty then 0 else 1)<30))=true:=by rfl)
  (xY:(apos.endLine==xg.line)=true:=by rfl) (Bv:aam [e] X.env=(false,eval e X.env)::aam [] X.env:=by rfl) (yp:(backTo xg (aam [] X.env)).any (·.1)=false:=by rfl)
  (hs:ab1 (.Call (.Attribute (.Subscript (.Name x px) ke ps) "append" apos) [e] [] xg) none x5.line X.env=pure false:=by rfl) :
  AE (zA X.K) X (.Expr (.Call (.Attribute (.Subscript (.Name x px) ke ps) "append" apos) [e] [] xg) x5) (dU i fk fv):=by
 obtain⟨tk,MV,kk⟩:=hk.ex
 obtain⟨tv,MT,kv⟩:=hv.ex
 refine⟨_,ga (oq acL aa6 aa5 aX (tw hu ho MV Fe) (aP MT aV Bv) x3 AX xY Bv yp) hs,λZ F σ H env P D K hf L=>?_⟩
 unfold dU at hf
 split at hf
 case h_2=>exact hf.elim
 rename_i kvs ei
 obtain⟨GF,hf⟩:=hf
 obtain⟨fp,L0⟩:=K.sl
 obtain⟨w,hw,ok⟩:=L0.at' i _ ei
 obtain⟨a,rfl,hd⟩:∃a,w=.ref a/\GV X.K F H a (fp i) (.xv kvs):=by
  rcases ok with ⟨k0,_⟩|⟨k0,_⟩|⟨_,a,e,_,h⟩|⟨k0,_⟩
  .cases k0
  .cases k0
  .rcases h with (⟨h,_⟩|⟨_,_,h,_⟩)|h|⟨_,_,_,_,h,_⟩|⟨_,_,_,_,_,h,_⟩
   .cases h
   .cases h
   .exact⟨a,e,h⟩
   .cases h
   .cases h
  .cases k0
 refine⟨_,hw,kk (BX F H) F σ H (AO env) _ _ K.pure hf λy e1 y' F1 H1 p1 s1 K1 r1=>?_⟩
 obtain⟨K2,Jm,Rx⟩:=K.Eh K1
 obtain⟨k,Cf,xs,Fz,p1⟩:=p1
 have hy:=eh Cf r1
 subst hy
 obtain⟨ks,Ks,e2,e3,e4,e5⟩:=hd
 cases Ks
 have FF:∃t∈ks,t.1=k/\t.2.2=xs:=by
  unfold Dr at Fz
  split at Fz
  .rename_i zs hz
   cases Fz
   unfold yu at hz
   rw[aax]at hz
   obtain⟨kv,hf,hv⟩:=hz
   have hm:=adB hf
   have hp:=afm hf
   obtain⟨t,ht,rfl⟩:=List.mem_map.mp hm
   exact⟨t,ht,of_decide_eq_true hp,by injection hv⟩
  .cases Fz
 obtain⟨t,ht,rfl,rfl⟩:=FF
 have Cw:(ks.map (·.1)).Nodup:=by rw[aaw]at GF;exact GF
 have inj:∀t'∈ks,t'.1=t.1->t'=t:=λt' h' e=>by
  obtain⟨n,hn,rfl⟩:=List.mem_iff_getElem.mp ht
  obtain⟨n',ER,rfl⟩:=List.mem_iff_getElem.mp h'
  have:n'=n:=(abx (h₀:=by simpa using ER) (h₁:=by simpa using hn) Cw).mp (by simpa using e)
  subst this;rfl
 have HC:yP (ks.map λt=>(t.1,V.ref t.2.1)) t.1=some (.ref t.2.1):=by
  unfold yP
  rw[aax]
  cases hf:(ks.map λt=>(t.1,V.ref t.2.1)).find? λkv=>decide (kv.1=t.1)with
  |none=>
   have:=List.find?_eq_none.mp hf (t.1,V.ref t.2.1) (List.mem_map.mpr ⟨t,ht,rfl⟩)
   simp at this
  |some q=>
   have hm:=adB hf
   have hp:=afm hf
   obtain⟨t',DQ,rfl⟩:=List.mem_map.mp hm
   have:=inj t' DQ (of_decide_eq_true hp)
   subst this
   exact⟨_,rfl,rfl⟩
 obtain⟨Iy,AB,Oj⟩:=e5 t ht
 refine⟨a,.ref t.2.1,rfl,by rw[<- HC];exact MK (Jm _ _ e3),.inl ⟨rfl,Iy,.inl (.inl (Jm _ _ AB))⟩,?_⟩
 refine kv (BX F1 H1) F1 σ H1 (AO env) _ _ K2.pure p1 λv Kq v' F2 H2 p2 s2 K3 r2=>?_
 obtain⟨K4,Mj,Rw⟩:=K2.Eh K3
 have L4:=Rw fp (Rx fp L0)
 have Qu:=Mj _ _ (Jm _ _ AB)
 have Mk:=ai s1 s2
 refine⟨t.2.1,Iy,v',rfl,rfl,Qu,by rw[Oj.len,aaA];have:=p2.1;omega,L.nx _ _ F2 _ p2.2 Mk ?_⟩
 have Bw:t.2.1∈fp i:=by rw[e2];exact aar _ (aaZ (f:=λt=>t.2.1) ht)
 have MA:t.2.1≠a:=oE AB e3 (by intro z;cases z)
 refine(K4.EG (.inr rfl) L4 ei hw (l':=fp i) (F':=F2) (H':=upd H2 t.2.1 (.lst (Iy++[v']))) (λb o h1 h2=>?_) (λb h=>?_) aj (λb o h=>?_) (λb h=>.inl h) (.inr (.inl ⟨ks.map λt'=>if t'.1=t.1 then (t.1,t.2.1,t.2.2++[v])else t',?_,?_,?_,?_,?_⟩)) (λb hb=>?_) (λb hb=>.inl hb)).1
 .rw[af λz:b=t.2.1=>h2 (by rw[z];exact Bw)];exact h1
 .by_cases q:b=t.2.1
  .subst q;rw[ag];simp
  .rw[af q];exact h
 .have:b≠t.2.1:=aq h (L4.al i _ Bw).2
  rw[af this];exact K4.sF b o h
 .unfold Bz
  rw[aaw,aaw]
  congr 1
  apply aaK
  intro t' _
  show (if t'.1=t.1 then (t.1,PV.lst (t.2.2++[v]))else (t'.1,PV.lst t'.2.2))=((if t'.1=t.1 then (t.1,t.2.1,t.2.2++[v])else t').1,PV.lst (if t'.1=t.1 then (t.1,t.2.1,t.2.2++[v])else t').2.2)
  split<;>rfl
 .rw[e2,aaw]
  congr 1
  apply aaK
  intro t' h'
  show t'.2.1=(if t'.1=t.1 then (t.1,t.2.1,t.2.2++[v])else t').2.1
  split
  .rename_i q;rw[inj t' h' q]
  .rfl
 .rw[af MA.symm,Mj _ _ (Jm _ _ e3),aaw]
  congr 2
  apply aaK
  intro t' h'
  show (t'.1,V.ref t'.2.1)=((if t'.1=t.1 then (t.1,t.2.1,t.2.2++[v])else t').1,V.ref (if t'.1=t.1 then (t.1,t.2.1,t.2.2++[v])else t').2.1)
  split
  .rename_i q;rw[inj t' h' q]
  .rfl
 .rw[aaw]
  have:(ks.map ((λt=>t.2.1) ∘ λt'=>if t'.1=t.1 then (t.1,t.2.1,t.2.2++[v])else t'))=ks.map λt=>t.2.1:=by
   apply aaK
   intro t' h'
   show (if t'.1=t.1 then (t.1,t.2.1,t.2.2++[v])else t').2.1=t'.2.1
   split
   .rename_i q;rw[inj t' h' q]
   .rfl
  rw[this];exact e4
 .intro q hq
  obtain⟨t',h',rfl⟩:=List.mem_map.mp hq
  by_cases e:t'.1=t.1
  .rw[if_pos e]
   exact⟨_,ag,(Oj.mono Mk).app (.cons r2 .nil)⟩
  .rw[if_neg e]
   obtain⟨Eg,q1,q2⟩:=e5 t' h'
   have yq:t'.2.1≠t.2.1:=λz=>by
    obtain⟨n,hn,rfl⟩:=List.mem_iff_getElem.mp ht
    obtain⟨n',ER,rfl⟩:=List.mem_iff_getElem.mp h'
    have:n'=n:=(abx (h₀:=by simpa using ER) (h₁:=by simpa using hn) e4).mp (by simpa using z)
    subst this;exact e rfl
   exact⟨Eg,by rw[af yq];exact Mj _ _ (Jm _ _ q1),q2.mono Mk⟩
 .have:=L4.al i b hb
  refine⟨?_,this.2⟩
  by_cases q:b=t.2.1
  .subst q;rw[ag];simp
  .rw[af q];exact this.1
theorem qr(i:Nat)(ho:PE X (.Name x px) (xx i)):AE ob X (.Return (some (.Name x px)) x5) (jq i):=by
 refine⟨_,cZ ho,λZ F σ H env P D K hf L=>?_⟩
 unfold jq at hf
 split at hf
 case h_2=>exact hf.elim
 rename_i y ei
 obtain⟨fp,L0⟩:=K.sl
 obtain⟨w,hw,ok⟩:=L0.at' i _ ei
 exact⟨_,hw,L.ro _ i env w σ F H hf aj K ei hw⟩
def GK(P:PV->Prop):Wd:={nx:=λ_=>P .nE,rt:=λx _=>P x,ro:=λx _ _=>(∃kvs,x=.xv kvs)/\P x}
def Gh(n:Nat)(u:WS):Fd:=λxs P=>u (GK P) (xD n xs)
variable{qual:Str}{st:Stmt}{N:List Str}{u:WS}
theorem vN{f:Addr}(F:C6 K x qual st f fd)(S:az N ps (ap st))(hn:ps.length<=N.length)
  (hb:∀(xn:Value) (A:Around) (outer:List Env) (s:Shared) (H:Hp) (E:XK),xw k (A.deeper (envOfC qual (ap st) s.heap.objs.size f xn))->zX (zA K) (Aw ye P w K mg base N qual (ap st) f xn A outer s H E).EH (aZ st) u) :
  w4 P w K mg base ye (k+1) f fd ps (G8 ⟨P,w,K,zA K⟩ ps.length (Gh N.length u)):=by
 refine F.ok S (λvs H Q E h=>?_) (λxn A outer s H vs Q E hr h=>?_)
 .obtain⟨F,xs,P,_,r,hl,_⟩:=h
  rw[r.len];exact hl
 .obtain⟨F,xs,P',sF,r,hl,hD,kk⟩:=h
  obtain⟨t,ht,kt⟩:=(hb xn A outer s H E hr).ex
  refine⟨t,ht,kt ⟨H,F,[],λ_=>none,λ_ h=>by simp at h⟩ F (start N vs) H (xD N.length xs) (GK P') _ (j6 (M:=⟨P,w,K,zA K⟩) sF r (by omega)) hD ⟨λenv σ F' H' p s1 K1=>?_,λx env v σ F' H' p s1 K1 rv=>?_,λ_ _ _ _ p=>p.elim,λ_ _ _ _ p=>p.elim,λ_ _ _ _ _ _ p=>p.elim,λx i env v σ F' H' p s1 K1 ei hv=>?_⟩⟩
  .exact kk .nE .nE F' H' p (λb o h=>K1.sG b o h (by simp)) s1 K1.sF K1.nw .nE
  .exact kk x v F' H' p (λb o h=>K1.sG b o h (by simp)) s1 K1.sF K1.nw rv
  .obtain⟨IF,p⟩:=p
   obtain⟨fp,L⟩:=K1.sl
   obtain⟨v',GB,ok⟩:=L.at' i _ ei
   rw[hv]at GB;cases GB
   rcases ok with ⟨k0,_⟩|⟨k0,_⟩|⟨_,a,rfl,Qt,h⟩|⟨k0,_⟩
   .cases k0
   .cases k0
   .obtain⟨SD,IF⟩:=IF
    rcases h with (⟨h,_⟩|⟨_,_,h,_⟩)|⟨ks,rfl,e2,e3,e4,e5⟩|⟨_,_,_,_,h,_⟩|⟨_,_,_,_,_,h,_⟩
    .rw[IF]at h;cases h
    .rw[IF]at h;cases h
    rotate_left
    .rw[IF]at h;cases h
    .rw[IF]at h;cases h
    .let F2:Hp:=λb=>if b∈fp i then H' b else F' b
     have Oh:dO F' F2:=λb o hb=>by
      show (if b∈fp i then H' b else F' b)=some o
      split
      .exact K1.sF b o hb
      .exact hb
     have at2:∀b,b∈fp i->F2 b=H' b:=λb hb=>if_pos hb
     refine kk _ _ F2 H' p (λb o h=>K1.sG b o h (by simp)) (ai s1 Oh) (λb o hb=>?_) (λb hb=>?_) ?_
     .have hb:(if b∈fp i then H' b else F' b)=some o:=hb
      split at hb
      .exact hb
      .exact K1.sF b o hb
     .have hb:(if b∈fp i then H' b else F' b)≠none:=hb
      split at hb
      .rename_i q
       rcases Qt b q with z|z
       .simp at z
       .exact .inr z
      .exact K1.nw b hb
     .have ha:F2 a=some (.dK (ks.map λt=>(t.1,V.ref t.2.1))):=by rw[at2 a (by rw[e2];simp)];exact e3
      refine .xv ha ?_
      have go:∀(l:List (Key×Addr×List PV)),(∀t∈l,t∈ks)->lE K F2 (l.map λt=>(t.1,V.ref t.2.1)) (l.map λt=>(t.1,PV.lst t.2.2)):=by
       intro l
       induction l with
       |nil=>intro _;exact .nil
       |cons t l ih=>
        intro hs
        obtain⟨Eg,q1,q2⟩:=e5 t (hs t (by simp))
        refine .cons (.lst ?_ (q2.mono Oh)) (ih λt' h'=>hs t' (aar _ h'))
        rw[at2 _ (by rw[e2];exact aar _ (aaZ (f:=λt=>t.2.1) (hs t (by simp))))]
        exact q1
      exact go ks λ_ h=>h
   .cases k0
def Ba(ss ts:List Str):Prop:=ts.Perm ss/\ts.Pairwise λa b=>¬ xq b a
def AU:Key->Option Str
 |.inr s=>some s
 |.inl _=>none
def x8(fa:WA):WE:=λenv P=>fa env λxs e=>match xs with
 |[.lst ys]=>∃ss,ys.mapM Bq=some ss/\ss.length<64/\∀ts,Ba ss ts->P (.lst (ts.map .str)) e
 |[.xv kvs]=>∃ss,(kvs.map (·.1)).mapM AU=some ss/\ss.length<64/\∀ts,Ba ss ts->P (.lst (ts.map .str)) e
 |_=>False
theorem dy:∀(ss:List Str),iF K F (ss.map V.str) (ss.map PV.str)
 |[]=>.nil
 |s::ss=>.cons (.str s) (dy ss)
theorem iX:∀{ks:List Key} {ss:List Str},ks.mapM AU=some ss->ks=ss.map aaq
 |[],ss,h=>by simp at h;subst h;rfl
 |k::ks,ss,h=>by
  rw[abq]at h
  cases ea:AU k with
  |none=>rw[ea]at h;cases h
  |some a=>
   rw[ea]at h
   cases el:ks.mapM AU with
   |none=>rw[el]at h;cases h
   |some bs=>
    rw[el]at h
    have h:some (a::bs)=some ss:=h
    cases h
    rw[iX el,aas]
    cases k<;>cases ea
    rfl
variable{a b c:Expr}{es:List Expr}{g h:WE}{fa:WA}
theorem cp(hc:X.calm=true)(hg:Gl X "sorted")(hm:X.mg "sorted" = none)(ha:BU ob X (e::es) fa)
  (he:aam (e::es) X.env=(false,eval e X.env)::aam es X.env:=by rfl) (yt:(backTo pos (aam es X.env)).any (·.1)=false:=by rfl):C8 ob X (.Call (.Name "sorted" p) (e::es) [] pos) (x8 fa):=by
 obtain⟨t,ht,k⟩:=ha.ex
 refine⟨_,bF (wX.or oS (oW hc)) hg hm aeq ht (by decide) (by decide) he yt,λZ F σ H env P Q K hf kk=>k Z F σ H env _ _ K hf λxs e1 vs F1 H1 p s1 K1 r1=>?_⟩
 split at p
 .obtain⟨ss,hs,hl,p⟩:=p
  obtain⟨v,rfl,r⟩:=r1.one
  obtain⟨q,vs,rfl,h1,h2⟩:=r.lst K1.sF
  have:=cX jl hs h2
  subst this
  exact .inl ⟨q,ss,rfl,.inl (.inl h1),hl,λl ts hn hp hw=>kk _ e1 _ F1 _ (p ts ⟨hp,hw⟩) s1 (λ_=>by simp) (K1.own hn ⟨_,ag,dy ts⟩)⟩
 .obtain⟨ss,hs,hl,p⟩:=p
  obtain⟨v,rfl,r⟩:=r1.one
  obtain⟨q,vs,rfl,h1,h2⟩:=r.xv K1.sF
  refine .inr ⟨q,vs,ss,rfl,h1,by rw[h2.keys];exact iX hs,hl,λl ts hn hp hw=>kk _ e1 _ F1 _ (p ts ⟨hp,hw⟩) s1 (λ_=>by simp) (K1.own hn ⟨_,ag,dy ts⟩)⟩
 .exact p.elim
def AN:PV->Option (Key×PV)
 |.tup [.str s,v]=>some (.inr s,v)
 |_=>none
def A5:List PV->Option PV
 |[.lst xs]=>if xs.length<=1000 then (xs.mapM AN).map λkvs=>.xv (By kvs)else none
 |_=>none
def EE(K:aah):List V->Hp->VK->Prop:=λxs H Q=>∃(l:Addr) (ys:List V) (yn:List (Str×V)),xs=[.ref l]/\H l=some (.lst ys)/\ys.length=yn.length/\yn.length<=1000 /\
  (∀j (hj:j<yn.length),∃p,ys[j]?=some (.ref p)/\yI K H p [.str yn[j].1,yn[j].2])/\∀d,H d=none->Q (.ref d) (upd H d (.dK (yn.foldl (λkvs kv=>putK kvs (aaq kv.1:Key) kv.2) [])))
theorem nV(hc:X.calm=true):wX X (.type "dict") (EE X.K):=by
 intro pins s σ H xs us Q I r h
 obtain⟨l,ys,yn,rfl,hl,hlen,hsz,hp,q⟩:=h
 obtain⟨u,rfl,ru⟩:=r.one
 cases ru
 obtain⟨z,gE,n,rv,g⟩:=I.wU l _ hl
 have each:∀j,∃vv:Value,∀hj:j<yn.length,∃(p:Addr) (t:Tok),gE[j]?=some (.ref p)/\s.heap.IsTuple p #[.str yn[j].1 t,vv]/\RelV yn[j].2 vv:=λj=>by
  by_cases hj:j<yn.length
  .obtain⟨p,ey,hP⟩:=hp j hj
   obtain⟨v1,e1,r1⟩:=rv.get ey
   cases r1
   obtain⟨Sv,IC,g2,_⟩:=I.tuple hP
   cases IC with
   |cons ra rr=>
    cases rr with
    |cons rb rr=>
     cases rr
     obtain⟨t,rfl⟩:=ra
     exact⟨_,λ_=>⟨p,t,e1,g2,rb⟩⟩
  .exact⟨.none,λh=>absurd h hj⟩
 obtain⟨vf,hv⟩:=Classical.skolem.mp each
 have OM:gE.length=yn.length:=by rw[<- hlen];exact rv.length.symm
 refine jg (knd:=aA X.prog X.w) (items:=gE.toArray) (n:=n) (λj=>(aaq ((yn[j]?.getD (Str.empty,V.nE)).1):Key)) vf (by simp;omega) (I.ok.hd hc) g (λj hj=>?_) λh' tk D kk=>?_
 .have AD:j<yn.length:=by simp at hj;omega
  obtain⟨p,t,e1,g2,_⟩:=hv j AD
  refine⟨p,.str yn[j].1 t,by simpa using e1,g2,?_⟩
  rw[aaa AD,adU]
  exact gJ _ _ _ _
 .have hk:=nz yn vf (λj hj=>(hv j hj).choose_spec.choose_spec.2.2) yn.length (aak _)
  rw[abd]at hk
  have ez:gE.toArray.size=yn.length:=by simp;exact OM
  rw[ez]at D
  refine⟨.ref s.heap.objs.size,_,I.laid (a:=s.heap.objs.size) (t':=tk) (o:=.dK (yn.foldl (λkvs kv=>putK kvs (aaq kv.1:Key) kv.2) [])) kk (aak _) ⟨?_,beq_eq_false_iff_ne.mpr (abv (aap I.NV)),_,hk,D⟩,rfl,q _ (I.wU.fresh (aak _))⟩
  refine aaX (r9 yn []) ?_
  rw[aaA,ab6]
  omega
theorem lD:∀{xs:List PV} {vs:List V} {kvs:List (Key×PV)},xs.mapM AN=some kvs->iF K F vs xs->∃yn:List (Str×V),yn.length=vs.length/\(∀j (hj:j<yn.length),∃p,vs[j]?=some (.ref p)/\yI K F p [.str yn[j].1,yn[j].2])/\lE K F (yn.map λq=>(aaq q.1,q.2)) kvs
 |[],vs,kvs,h,r=>by simp at h;subst h;cases r;exact⟨[],rfl,λj hj=>by simp at hj,.nil⟩
 |x::xs,vs,kvs,h,r=>by
  rw[abq]at h
  cases ea:AN x with
  |none=>rw[ea]at h;cases h
  |some a=>
   rw[ea]at h
   cases el:xs.mapM AN with
   |none=>rw[el]at h;cases h
   |some bs=>
    rw[el]at h
    have h:some (a::bs)=some kvs:=h
    cases h
    cases r with
    |cons r1 r2=>
     obtain⟨yn,q1,q2,q3⟩:=lD el r2
     unfold AN at ea
     split at ea
     .cases ea
      cases r1 with
      |tup h1 h2=>
       cases h2 with
       |cons h2 h3=>
        cases h3 with
        |cons h3 h4=>
         cases h4
         cases h2
         refine⟨(_,_)::yn,by simp[q1],λj hj=>?_,.cons h3 q3⟩
         cases j with
         |zero=>exact⟨_,rfl,h1⟩
         |succ j=>simpa using q2 j (by simpa using hj)
     .cases ea
theorem fz:∀(yn:List (Str×V)) (acc:List (Key×V)),yn.foldl (λkvs kv=>putK kvs (aaq kv.1:Key) kv.2) acc=zu acc (yn.map λq=>(aaq q.1,q.2))
 |[],acc=>rfl
 |q::yn,acc=>by
  rw[acq,fz yn]
  rfl
theorem nW:BV ob X (EE X.K) A5:=by
 intro Z F σ H env vs xs z Q K rv hz k
 unfold A5 at hz
 split at hz
 .split at hz
  .rename_i hlen
   rw[aax]at hz
   obtain⟨kvs,hk,rfl⟩:=hz
   obtain⟨v,rfl,r⟩:=rv.one
   obtain⟨q,vs,rfl,h1,h2⟩:=r.lst K.sF
   obtain⟨yn,q1,q2,q3⟩:=lD hk h2
   refine⟨q,vs,yn,rfl,h1,q1.symm,by rw[q1,h2.len];exact hlen,λj hj=>?_,λd hd=>?_⟩
   .obtain⟨p,e1,e2⟩:=q2 j hj
    exact⟨p,e1,aw K.sF e2⟩
   .refine k _ _ (λ_=>by simp) (K.own hd ⟨_,ag,?_⟩)
    rw[fz]
    exact kj q3 .nil
  .cases hz
 .cases hz
end Q
namespace L2
open PySem PySem.Spec PyProof.Rows
variable{prog:aaB}{w:World}{A:Around}{E:Value->Shared->Prop}{s:Shared}
structure Sj(h:Heap)(z u o i1 i2 t1 t2:Addr)(n:Nat):Prop where
 zz:IsZip h z u o .none
 uu:IsPair h u (.ref i1) (.ref i2)
 oo:∃a b,IsPair h o a b
 a1:h.IsListIter i1 t1 n
 a2:h.IsListIter i2 t2 n
variable{X:Cx}
end L2
namespace Q
open PySem L2
variable{ob:xV}{X:Cx}{a b:Expr}{fa:WA}{pos p:Pos}
def Qo(a:WA):WA:=λenv P=>a env λxs e=>match xs with
 |[.tup xs,.tup ys]=>P (IX xs ys) e
 |[.lst xs,.lst ys]=>P (IX xs ys) e
 |_=>False
variable{α:Type}
theorem dY{z:α}{P:α->Prop}:opt (some z) P=P z:=propext zB
theorem rA{P:α->Prop}:opt none P=False:=propext ⟨λ⟨_,e,_⟩=>(nomatch e),λh=>h.elim⟩
theorem ae{o:Option α}{z:α}{P:α->Prop}(h:o=some z)(k:P z):opt o P:=⟨z,h,k⟩
theorem eG(xs:List α)(n:Nat):A7 xs none (some (n:Int))=xs.take n:=by
 unfold A7
 rw[HT.BZ,HT.Di,List.drop_zero,Nat.sub_zero]
 by_cases h:n<=xs.length
 .rw[Nat.min_eq_left h]
 .rw[Nat.min_eq_right (by omega),abd,acQ (by omega)]
variable{g:WG}{c:WT}{f:WE}{js:List (Option Nat)}{P:PV->En->Prop}{env:En}
theorem ee(G:PV->Option PV):∀{xs acc:List PV},(∀x∈xs,∀R:Option PV->En->Prop,R (G x) env ->
   g x (Bn js env) λb1=>c b1 λok b2=>if ok=true then f b2 λy b3=>R (some y) (xC js env b3)else R none (xC js env b2))->acc.length+xs.length<=100000->P (.lst (acc++xs.filterMap G)) env->xX g c f js P xs env acc
 |[],acc,_,_,k=>by simpa[xX]using k
 |x::xs,acc,h,hl,k=>by
  have Ce:acc.length+xs.length+1<=100000:=by simpa[abY]using hl
  have hm:∀{a b:Prop},(a->b)->a->b:=λh=>h
  have:=h x (by simp) (λo e=>(match o with|some y=>acc.length<=100000/\xX g c f js P xs e (acc++[y])|none=>xX g c f js P xs e acc)) (by
   cases e:G x with
   |none=>
    refine ee G (λy hy=>h y (by simp[hy])) (by omega) ?_
    simpa[abU,e]using k
   |some y=>
    refine⟨by omega,ee G (λy hy=>h y (by simp[hy])) (by simp;omega) ?_⟩
    simpa[abU,e]using k)
  exact this
theorem bv(G:PV->PV):∀{xs acc:List PV},(∀x∈xs,∀R:PV->En->Prop,R (G x) env->g x (Bn js env) λb1=>f b1 λy b3=>R y (xC js env b3))->acc.length+xs.length<=100000->P (.lst (acc++xs.map G)) env->xX g Bh f js P xs env acc
 |[],acc,_,_,k=>by simpa[xX]using k
 |x::xs,acc,h,hl,k=>by
  have Ce:acc.length+xs.length+1<=100000:=by simpa[abY]using hl
  simp only[xX,Bh,if_true]
  exact h x (by simp) (λy e=>acc.length<=100000/\xX g Bh f js P xs e (acc++[y])) ⟨by omega,bv G (λy hy=>h y (by simp[hy])) (by simp;omega) (by simpa using k)⟩
theorem aN{b:WS}{P:Wd}(I:Nat->En->Prop):∀{xs:List PV} {i:Nat} {env:En},I i env->(∀(j:Nat) (x:PV) (e:En) (N:En->Prop),xs[j]?=some x->I (i+j) e->(∀e',I (i+j+1) e'->N e')->g x e λe1=>b {P with nx:=N,ct:=N,bk:=P.nx} e1)->(∀e,I (i+xs.length) e->P.nx e)->yS g b P xs env
 |[],i,env,h0,_,hd=>hd env (by simpa using h0)
 |x::xs,i,env,h0,hs,hd=>hs 0 x env (yS g b P xs) rfl h0 λe' h'=>aN I (i:=i+1) h' (λj y e N hj hI k=>hs (j+1) y e N (by simpa using hj) (by rwa [abY,ac6 1 j]at hI) λe' h=>k e' (by rwa [abY i 1 j,ac6 1 j])) λe h=>hd e (by rwa [aa3,ac6 xs.length 1,<- abY])
theorem ne_int(i j:Int):CQ (.int i) (.int j)=some (.bl (!decide (i=j))):=by
 show some (PV.bl (!decide (V.int i=V.int j)))=_
 congr 3
 simp
theorem ao{a b:WS}{P:Wd}(h:∀N:En->Prop,N=b P->a {P with nx:=N} env):wM a b P env:=h _ rfl
theorem bg{it:WA}{b:WS}{P:Wd}(h:∀(G:WG) (B:WS),G=g->B=b->it env λxs e=>yS G B P xs e):zt it g b P env:=h _ _ rfl rfl
variable{s:Sl}
theorem vE:(some (some s):Option (Option Sl)).join.isSome=true:=rfl
variable{x:PV}
theorem Ca{zs:List PV}(h:zs.length<=100000):be zs [x]=some (.nE,zs++[x]):=if_pos h
variable{k:Nat}{yT:Addr}{fd:abA}{ps:List Str}{x y:Str}{p1 pos':Pos}
theorem qv(i j:Nat)(hN:X.N.Nodup)(hi:X.N[i]?=some y)(hx:Loc X.env.scope y)(F:w4 X.prog X.w X.K X.mg X.base ye k yT fd ps (Pre.f8 X.K))(hr:xw k X.A)(hm:X.mg "_law_begin" = some (.ref yT))(hk:abH X.K (.ref yT)=true)(hb:Binds X.K fd ps [])(ho:PE X (.Name x p1) (xx j))
  (EO:ob=zA X.K:=by rfl) (hg:Gl X "_law_begin" :=by rfl) (he:aam [.Name x p1] X.env=(false,eval (.Name x p1) X.env)::aam [] X.env:=by rfl) (yt:(backTo pos (aam [] X.env)).any (·.1)=false:=by rfl)
  {x5:Pos} (hs:ab1 (.Call (.Name "_law_begin" p) [.Name x p1] [] pos) (some (.Name y pos')) x5.line X.env=pure false:=by rfl) (hf:X.fn y=true\/X.env.scope.names.lookup y=some .local:=by first|exact .inl rfl|exact .inr rfl|assumption) :
  AE ob X (.Assign [.Name y pos'] (.Call (.Name "_law_begin" p) [.Name x p1] [] pos) x5) (yE i j):=by
 subst EO
 exact sa i j hN hi hx F hr hm hk hb ho hg he yt hs hf
end Q
set_option hygiene false in
local macro_rules|`(tactic| lia)=>`(tactic| simp only[Q.run,Q.EA,Q.xD,Q.Ig,Q.FT,Q.Gu,Q.wM,Q.Az,Q.xF,Q.yX,Q.xp,Q.ym,Q.zm,Q.Ez,Q.IA,Q.DK,Q.Eo,Q.DH,Q.xo,Q.NS,Q.LB,Q.wO,Q.zi,Q.eC,Q.eV,Q.yi,Q.a1,Q.iD,Q.aS,Q.Ii,Q.Ij,Q.RL,Q.NR,Q.yN,Q.zx,Q.DX,Q.JW,Q.iS,Q.Qo,Q.Ih,Q.AR,Q.AQ,Q.xi,Q.Gx,Q.Ja,Q.JT,Q.zo,Q.MD,Q.EK,Q.FO,Q.Ej,Q.D0,Q.dY,Q.rA,aas,adx,aaG,List.cons_append,abe,aa3,ab6,acf,acN,List.set_cons_zero,List.set_cons_succ,ad8,if_true,adT,afx,abl,if_false,decide_true,decide_false,ite_true,ite_false,Q.Ax,Q.gT,Q.gN,Q.xR,Q.Af,Q.x6,Q.Fq,String.reduceBEq,afy,Bool.or_false,Bool.false_or,Bool.true_or,Bool.and_true,Bool.true_and,Nat.reduceAdd,Nat.reduceSub,Q.wR,Q.vE,true_and,Q.Dy,Q.Dn,Q.IE,Q.Qp])
namespace Q
open PySem L2 PyProof.Rows
variable{ob:xV}{X:Cx}{iter:Expr}{scope:Scope}{pos p1 p2 p3:Pos}{fi:WA}{x t:Str}
variable{y:Str}{py x5:Pos}
theorem oN(i:Nat)(hN:X.N.Nodup)(hy:X.N[i]?=some y)(hl:X.env.scope.names.lookup y=some .local)(hi:Ga ob X (.Name t p1) iter fi)(hg:∀C s₀ H₀ ex pn,PG (rW X scope [t] C s₀ H₀ ex pn) (.Name t p1) (yL 0))(hk:∀C s₀ H₀ ex pn,PE (rW X scope [t] C s₀ H₀ ex pn) (.Name t p2) (xx 0))
  (EO:ob=zA X.K:=by rfl)
  (HF:ab1 (.DictComp (.Name t p2) (.List [] p3) [⟨.Name t p1,iter,[],0⟩] scope pos) (some (.Name y py)) x5.line X.env=pure true:=by rfl)
  (hc:X.calm=true:=by rfl) (hx:X.xe=(λ_ _=>False):=by rfl) (Ad:Ao X.env scope=true:=by rfl) (xO:yO X.N scope [t] [none]=true:=by rfl) (xk:scope.kind=.function:=by rfl) (hs:∀x,aa4 iter X.env x=pure x:=by intro _;rfl) :
  AE ob X (.Assign [.Name y py] (.DictComp (.Name t p2) (.List [] p3) [⟨.Name t p1,iter,[],0⟩] scope pos) x5) (jr i fi):=by
 subst EO
 exact qt i hN hy hl hi hg hk HF hc hx Ad xO xk hs
variable{e:Expr}{px apos:Pos}
theorem i9(i:Nat){ke:Expr}{fk fv:WE}{ps xg:Pos}(hu:X.A.units+1<cLine)(ho:PE X (.Name x px) (xx i))(hk:xu ob X ke fk)(hv:xu ob X e fv)(EO:ob=zA X.K:=by rfl)(Fe:F8 ke:=by exact λ_ _=>rfl)
  (x3:abW (.Subscript (.Name x px) ke ps) "append" X.env (eval (.Subscript (.Name x px) ke ps) X.env)=eval (.Subscript (.Name x px) ke ps) X.env:=by rfl)
  (AX:((backTo xg (aam [e] X.env)).all (λx=>!x.1) && (aeh xg (acV [] X.env)).all (λx=>x.1.isSome)
   && decide ([e].length+([]:List ac9).length+(if ([]:List ac9).isEmpty then 0 else 1)<30))=true:=by rfl)
  (xY:(apos.endLine==xg.line)=true:=by rfl) (Bv:aam [e] X.env=(false,eval e X.env)::aam [] X.env:=by rfl) (yp:(backTo xg (aam [] X.env)).any (·.1)=false:=by rfl)
  (hs:ab1 (.Call (.Attribute (.Subscript (.Name x px) ke ps) "append" apos) [e] [] xg) none x5.line X.env=pure false:=by rfl) :
  AE ob X (.Expr (.Call (.Attribute (.Subscript (.Name x px) ke ps) "append" apos) [e] [] xg) x5) (dU i fk fv):=by
 subst EO
 exact qu i hu ho hk hv Fe x3 AX xY Bv yp hs
variable{P:aaB}{w:World}{K:aah}{mg:Str->Option Value}{base:Heap}{k:Nat}{yT:Addr}{fd:abA}{ps:List Str}
variable{n:Nat}{D D':Ai}
theorem lZ(F:w4 P w K mg base ye k yT fd ps (Bi ⟨P,w,K,ob⟩ n D))(h:∀c xs P,D' c xs P->D c xs P):w4 P w K mg base ye k yT fd ps (Bi ⟨P,w,K,ob⟩ n D') :=
 F.imp λvs H Q E q=>by
  obtain⟨F,a,l,c,ws,xs,P,a1,a2,a3,a4,a5,a6,a7,a8⟩:=q
  exact⟨F,a,l,c,ws,xs,P,a1,a2,a3,a4,a5,a6,h _ _ _ a7,a8⟩
end Q
namespace Q
open PySem L2
variable{c:WT}{b:WS}{P:Wd}{k:Nat}{env:En}
theorem j8(I:Nat->En->Prop)(step:∀(k:Nat) (e:En) (N:En->Prop),I k e->(∀k' e',k'<k->I k' e'->N e')->c e λv e1=>if v=true then b {P with nx:=N,ct:=N,bk:=P.nx} e1 else P.nx e1)(h:I k env):zN c b P env:=by
 refine⟨k+1,?_⟩
 have aux:∀n k env,k<n->I k env->CG c b P n env:=by
  intro n
  induction n with
  |zero=>intro k env h _;omega
  |succ n ih=>intro k env hk hI;exact step k env (CG c b P n) hI λk' e' h1 h2=>ih k' e' (by omega) h2
 exact aux _ k env (by omega) h
theorem b7{a:WS}(h:∀(A B:WS),A=a->B=b->c env λk e=>if k=true then A P e else B P e):Az c a b P env:=h _ _ rfl rfl
theorem jZ(h:∀(C:WT) (B:WS),C=c->B=b->zN C B P env):zN c b P env:=h _ _ rfl rfl
variable{α:Type}
theorem bo{f:α->Str}{g:α->PV}:∀{l:List α} {a:α},(l.map f).Nodup->a∈l->yu (l.map λx=>((aaq (f x):Key),g x)) (aaq (f a))=some (g a)
 |b::l,a,nd,h=>by
  unfold yu
  rw[aas,abK]
  rw[aas,afj]at nd
  rcases List.mem_cons.mp h with rfl|h
  .simp
  .have yq:f b≠f a:=λe=>nd.1 (by rw[e];exact aaZ h)
   have:decide ((aaq (f b):Key)=aaq (f a))=false:=by simp[yq]
   simp only[this]
   exact bo nd.2 h
theorem j3{f:α->Str}{g:α->PV}:∀{l:List α} {y:Str},y∉l.map f->yu (l.map λx=>((aaq (f x):Key),g x)) (aaq y)=none
 |[],_,_=>rfl
 |b::l,y,h=>by
  rw[aas,abZ,not_or]at h
  unfold yu
  rw[aas,abK]
  have:decide ((aaq (f b):Key)=aaq y)=false:=by simp;exact λe=>h.1 e.symm
  simp only[this]
  exact j3 h.2
variable{y:Str}
theorem hJ{f:α->Str}{g:α->PV}{l:List α}{v:PV}(h:y∉l.map f):zO (l.map λx=>((aaq (f x):Key),g x)) (aaq y) v=(l.map λx=>((aaq (f x):Key),g x))++[(aaq y,v)]:=by
 unfold zO
 rw[if_neg]
 rw[List.any_map]
 intro z
 rw[ae1]at z
 obtain⟨x,hx,e⟩:=z
 simp at e
 exact h (by rw[<- e];exact aaZ hx)
variable{ys:List Str}{x:Str}
theorem tW:(ys.map PV.str).mapM (λy=>yc 60 y (.str x))=some (ys.map λy=>y==x):=by
 induction ys with
 |nil=>rfl
 |cons y ys ih=>
  rw[aas,abq,ih]
  rfl
theorem nG:Gy (.str x) (.tup (ys.map .str))=some (decide (x∈ys)):=by
 show ((ys.map PV.str).mapM (λy=>yc 60 y (.str x))).map (λks=>ks.any id)=_
 rw[tW]
 show some ((ys.map λy=>y==x).any id)=_
 congr 1
 rw[List.any_map,aaY,ae1]
 simp
theorem rR:Gy (.str x) (.lst (ys.map .str))=some (decide (x∈ys)):=nG
theorem fR:BI (.str x) (.tup (ys.map .str))=some (.bl (decide (x∈ys))):=by
 show (Gy _ _).map _=_
 rw[nG];rfl
theorem oM:BI (.str x) (.lst (ys.map .str))=some (.bl (decide (x∈ys))):=by
 show (Gy _ _).map _=_
 rw[rR];rfl
end Q
namespace L2
open PySem PySem.Spec PyProof.Rows
variable{X:Cx}
end L2
namespace Q
open PySem L2 PyProof.Rows
variable{ob:xV}{X:Cx}{a b c e:Expr}{es:List Expr}{f g h:WE}{fa:WA}{pos p p1:Pos}{x:Str}
theorem uw{d:Nat}:∀(a b:List Str),yc (d+2) (.tup (a.map .str)) (.tup (b.map .str))=some (decide (a=b)):=by
 intro a b
 have e:((a.map PV.str).zip (b.map PV.str)).mapM (λp=>yc (d+1) p.1 p.2)=some ((a.zip b).map λp=>p.1==p.2):=by
  rw[List.zip_map]
  generalize a.zip b=l
  induction l with
  |nil=>rfl
  |cons p l ih=>rw[aas,abq,ih];rfl
 show (((a.map PV.str).zip (b.map PV.str)).mapM (λp=>yc (d+1) p.1 p.2)).map (λbs=>bs.all id && (a.map PV.str).length==(b.map PV.str).length)=_
 rw[e,aad,aad]
 show some (((a.zip b).map λp=>p.1==p.2).all id && a.length==b.length)=_
 congr 1
 rw[List.all_map,aaY,aaT,decide_eq_true_eq,beq_iff_eq]
 clear e
 constructor
 .rintro⟨h1,h2⟩
  induction a generalizing b with
  |nil=>cases b with|nil=>rfl|cons _ _=>cases h2
  |cons x a ih=>
   cases b with
   |nil=>cases h2
   |cons y b=>
    rw[List.zip_cons_cons,List.all_cons,aaT]at h1
    have RG:x=y:=by simpa using h1.1
    rw[RG,ih b h1.2 (by simpa using h2)]
 .rintro rfl
  refine⟨?_,rfl⟩
  rw[adW]
  rintro⟨x,y⟩ hm
  have:x=y:=by
   obtain⟨i,hi⟩:=List.getElem?_of_mem hm
   rw[aa0]at hi
   have:=hi.1.symm.trans hi.2
   simpa using this
  simp[this]
def FP:PV->Option Str
 |.tup (.str s::_)=>some s
 |_=>none
def CY(fa:WA):WE:=λenv P=>fa env λxs e=>match xs with
 |[.lst ys]=>∃nm:List Str,ys.mapM FP=some nm/\nm.Nodup/\ys.length<64/\∀ix:List Nat,ix.length=ys.length->(∀i∈ix,i<ys.length)->(ix.map λi=>nm.getD i ⟨#[]⟩).Pairwise xq->P (.lst (ix.map λi=>ys.getD i .nE)) e
 |_=>False
variable{K:aah}{F H:Hp}{v:V}{y:PV}
theorem uh(sF:dO F H)(r:Rep K F v y)(h:FP y=some x):∃a t,v=.ref a/\yI K H a (.str x::t):=by
 unfold FP at h
 split at h
 .cases h
  cases r with
  |tup h1 h2=>cases h2 with
   |cons r1 r2=>cases r1;exact⟨_,_,rfl,aw sF h1⟩
 .cases h
variable{vs:List V}
theorem j9{ys:List PV}(r:iF K F vs ys):∀ix:List Nat,(∀i∈ix,i<ys.length)->iF K F (ix.map λi=>vs.getD i .nE) (ix.map λi=>ys.getD i .nE)
 |[],_=>.nil
 |i::ix,h=>by
  refine .cons ?_ (j9 r ix λj hj=>h j (aar _ hj))
  have hi:=h i aat
  obtain⟨v,hv,rv⟩:=r.get (aaa hi)
  show Rep K F (vs.getD i .nE) (ys.getD i .nE)
  rw[aag,aag,hv,aaa hi]
  exact rv
theorem sd(hg:Gl X "sorted")(hm:X.mg "sorted" = none)(ha:BU ob X (e::es) fa)
  (he:aam (e::es) X.env=(false,eval e X.env)::aam es X.env:=by rfl) (yt:(backTo pos (aam es X.env)).any (·.1)=false:=by rfl):C8 ob X (.Call (.Name "sorted" p) (e::es) [] pos) (CY fa):=by
 obtain⟨t,ht,k⟩:=ha.ex
 refine⟨_,bF oU hg hm aeq ht (by decide) (by decide) he yt,λZ F σ H env P Q K hf kk=>k Z F σ H env _ _ K hf λxs e1 vs F1 H1 p s1 K1 r1=>?_⟩
 split at p
 .obtain⟨nm,hs,nd,hl,p⟩:=p
  obtain⟨v,rfl,r⟩:=r1.one
  obtain⟨q,vs,rfl,h1,h2⟩:=r.lst K1.sF
  have g1:=(bh hs).1
  have hlen:=h2.len
  refine⟨q,vs,nm,rfl,.inl (.inl h1),by omega,⟨by omega,λi v x hv hx=>?_,nd⟩,λl ix hn i1 i2 i3 i4=>?_⟩
  .obtain⟨y,hy,ry⟩:=h2.ET hv
   obtain⟨y',e1,e2⟩:=lO hs i x hx
   rw[hy]at e1;cases e1
   exact uh K1.sF ry e2
  .exact kk _ e1 _ F1 _ (p ix (by omega) (λi hi=>by have:=i3 i hi;omega) i4) s1 (λ_=>by simp) (K1.own hn ⟨_,ag,j9 h2 ix λi hi=>by have:=i3 i hi;omega⟩)
 .exact p.elim
end Q
namespace L2
open PySem PySem.Spec PyProof.Rows
variable{prog:aaB}{w:World}{A:Around}{E:Value->Shared->Prop}{s:Shared}
variable{X:Cx}
end L2
namespace Q
open PySem L2 PyProof.Rows
def neT:PV->PV->Option PV
 |.tup xs,.tup ys=>(yc 60 (.tup xs) (.tup ys)).map λb=>.bl (!b)
 |_,_=>none
def Fw(K:aah):R2:=λv u H Q=>∃F xs ys k,dO F H/\Rep K F v (.tup xs)/\Rep K F u (.tup ys)/\yc 60 (.tup xs) (.tup ys)=some k/\Q (.bl (!k)) H
variable{ob:xV}{X:Cx}{a b c e:Expr}{es:List Expr}{f g h:WE}{fa:WA}{pos CL p p1 p2:Pos}{x:Str}
theorem iQ(hu:X.A.units+60<cLine):ya X (abb .NotEq) (Fw X.K):=by
 intro pins s σ H x y v u Q I rx ry h
 obtain⟨F,xs,ys,k,sF,r1,r2,e,hq⟩:=h
 cases r1 with
 |tup h1 r1=>
 cases r2 with
 |tup h2 r2=>
 cases rx
 cases ry
 obtain⟨gE,rv,p,_⟩:=I.tuple (aw sF h1)
 obtain⟨yh,AA,p2,_⟩:=I.tuple (aw sF h2)
 have l1:gE.length=xs.length:=by rw[<- rv.length,r1.len]
 have l2:yh.length=ys.length:=by rw[<- AA.length,r2.len]
 have e':((xs.zip ys).mapM λp=>yc 59 p.1 p.2).map (λbs=>bs.all id && xs.length==ys.length)=some k:=e
 rw[aax]at e'
 obtain⟨bs,hb,ek⟩:=e'
 obtain⟨Cy,DV⟩:=bh hb
 have t:=SeqAt.RcNeAt.tuples (A:=X.A) (e:=λj=>bs.getD j false) p p2 (by omega) (λj j1 j2=>by
  simp only[aae]at j1 j2
  have jx:j<xs.length:=by omega
  have jy:j<ys.length:=by omega
  have hz:(xs.zip ys)[j]?=some (xs[j],ys[j]):=by rw[aa0];exact⟨by simp[jx],by simp[jy]⟩
  obtain⟨b,e1,e2⟩:=DV j _ hz
  obtain⟨v1,q1,q2⟩:=r1.get (aaa jx)
  obtain⟨v2,q3,q4⟩:=r2.get (aaa jy)
  obtain⟨u1,q5,q6⟩:=rv.get q1
  obtain⟨u2,q7,q8⟩:=AA.get q3
  have g1:gE.toArray[j]=u1:=by simpa[aaa j1]using q5
  have g2:yh.toArray[j]=u2:=by simpa[aaa j2]using q7
  rw[g1,g2,show bs.getD j false=b by simp[aeA,e1]]
  exact(Ie I sF (A:=X.A.in1) (d:=59) (by show X.A.units+1+59<cLine;omega) q2 q4 q6 q8 e2).2)
 have e3:((aaR (min gE.toArray.size yh.toArray.size)).all (λj=>bs.getD j false) && gE.toArray.size==yh.toArray.size)=k:=by
  have e4:min gE.toArray.size yh.toArray.size=bs.length:=by rw[Cy,afk,aae,aae,l1,l2]
  rw[e4,dq (λj hj=>by simp[aeA,aaa hj]),aae,aae,l1,l2]
  exact ek
 rw[e3]at t
 exact t X.prog X.w X.xe _ ⟨.bl (!k),H,I,rfl,hq⟩
theorem jF:Bo ob X (Fw X.K) neT:=by
 refine bt (P:=λ_ _ _ _=>True) λF H v u x y z sF rx ry hz=>?_
 unfold neT at hz
 split at hz
 .rw[aax]at hz
  obtain⟨k,hk,rfl⟩:=hz
  exact⟨_,λ_=>.bl _,λQ q=>⟨F,_,_,k,sF,rx.CH,ry.CH,hk,q⟩⟩
 .cases hz
theorem nj(a b:List Str):neT (.tup (a.map .str)) (.tup (b.map .str))=some (.bl (!decide (a=b))):=by
 show (yc 60 (.tup (a.map .str)) (.tup (b.map .str))).map (λb=>PV.bl (!b))=_
 rw[uw (d:=58)];rfl
end Q
namespace L2
open PySem PySem.Spec PyProof.Rows PySem.W
def yr(h:Heap)(a:Addr)(k:Int×Str):Prop:=∃o n t u,h.get? a=some o/\o.cls=.type "tuple" /\ o.data=.seq #[.int k.1 t,.str k.2 u] n
variable{h h':Heap}{a:Addr}
theorem yr.mono{k:Int×Str}(x:yr h a k)(g:∀o,h.get? a=some o->h'.get? a=some o):yr h' a k:=by
 obtain⟨o,n,t,u,e,r⟩:=x
 exact⟨o,n,t,u,g o e,r⟩
def Dq(ks:List (Int×Str))(i j:Nat):Bool:=decide ((ks.getD i (0,⟨#[]⟩)).1<(ks.getD j (0,⟨#[]⟩)).1\/((ks.getD i (0,⟨#[]⟩)).1=(ks.getD j (0,⟨#[]⟩)).1/\xq (ks.getD i (0,⟨#[]⟩)).2 (ks.getD j (0,⟨#[]⟩)).2))
variable{ks:List (Int×Str)}
theorem tX(nd:(ks.map (·.2)).Nodup):Srt.Ord (Dq ks) ks.length:=by
 have inj:∀i j,i<ks.length->j<ks.length->(ks.getD i (0,⟨#[]⟩)).2=(ks.getD j (0,⟨#[]⟩)).2->i=j:=λi j hi hj e=>by
  have a:(ks.map (·.2))[i]'(by simpa using hi)=(ks.map (·.2))[j]'(by simpa using hj):=by
   rw[ach,ach]
   rw[aag,aag,aaa hi,aaa hj]at e
   exact e
  exact(abx nd).mp a
 refine⟨λi _=>?_,λi j k _ _ _ a b=>?_,λi j hi hj ne e=>?_⟩
 .unfold Dq
  rw[decide_eq_false_iff_not]
  rintro(h|⟨_,h⟩)
  .omega
  .exact aen _ h
 .have a:=of_decide_eq_true a
  have b:=of_decide_eq_true b
  refine decide_eq_true ?_
  rcases a with a|⟨a1,a2⟩<;>rcases b with b|⟨b1,b2⟩
  .exact .inl (by omega)
  .exact .inl (by omega)
  .exact .inl (by omega)
  .exact .inr ⟨by omega,List.lt_trans a2 b2⟩
 .have e:=of_decide_eq_false e
  rw[not_or]at e
  refine decide_eq_true ?_
  rcases Int.lt_trichotomy (ks.getD i (0,⟨#[]⟩)).1 (ks.getD j (0,⟨#[]⟩)).1 with z|z|z
  .exact absurd z e.1
  .refine .inr ⟨z.symm,?_⟩
   have e2:¬ xq (ks.getD i (0,⟨#[]⟩)).2 (ks.getD j (0,⟨#[]⟩)).2:=λh=>e.2 ⟨z,h⟩
   unfold xq at e2 ⊢
   rcases List.le_iff_lt_or_eq.mp (List.not_lt.mp e2)with q|q
   .exact q
   .exfalso
    refine ne (inj i j hi hj ?_)
    generalize (ks.getD i (0,⟨#[]⟩)).2=x at q ⊢
    generalize (ks.getD j (0,⟨#[]⟩)).2=y at q ⊢
    obtain⟨x⟩:=x
    obtain⟨y⟩:=y
    exact congrArg Str.mk (Array.toList_inj.mp q.symm)
  .exact .inl z
variable{prog:aaB}{w:World}{A:Around}{E:Value->Shared->Prop}{s:Shared}
variable{Q:Bool->Shared->Prop}
theorem tz{x y:Addr}{k l:Int×Str}(hx:yr s.heap x k)(hy:yr s.heap y l)(yq:k.2≠l.2)(h:Q (decide (k.1<l.1\/(k.1=l.1/\xq k.2 l.2))) s):wpAny (model prog w) A (keyLt' (ae6 true) (.ref x) (.ref y)) Q E s:=by
 obtain⟨ox,n,t,u,e1,_,e2⟩:=hx
 obtain⟨oy,n',t',u',f1,_,f2⟩:=hy
 refine kat_lt e1 e2 f1 f2 ?_
 refine kat_cons (wpAny_eqBool_int ?_)
 by_cases e:k.1=l.1
 .rw[show (k.1==l.1)=true by simp[e]]
  refine kat_yes (kat_cons (aeW ?_))
  rw[decide_eq_false yq]
  refine kat_no ?_
  show wpAny _ _ (oneLt' false _ _) _ _ _
  refine kat_one _ _ (lt_str ?_)
  have:decide (k.1<l.1\/(k.1=l.1/\xq k.2 l.2))=decide (k.2.cps.toList<l.2.cps.toList):=by
   rw[aaY,decide_eq_true_eq,decide_eq_true_eq]
   constructor
   .rintro(z|⟨_,z⟩)
    .omega
    .exact z
   .intro z;exact .inr ⟨e,z⟩
  rw[this]at h
  exact h
 .rw[show (k.1==l.1)=false by simp[e]]
  refine kat_no ?_
  show wpAny _ _ (oneLt' true _ _) _ _ _
  refine oneLt_int ?_
  have:decide (k.1<l.1\/(k.1=l.1/\xq k.2 l.2))=decide (k.1<l.1):=by
   rw[aaY,decide_eq_true_eq,decide_eq_true_eq]
   exact⟨λz=>z.elim id λq=>absurd q.1 e,.inl⟩
  rw[this]at h
  exact h
variable{kS:Addr}{e1:Nat}{P:PySem.Fin->Shared->Prop}
theorem nB{e n:Nat}{keys:Array Value}{st:SortSt}{out:List Value}(hk:s.heap.get? kS=some (seqObj "list" keys e))(ha:s.heap.get? a=some (seqObj "list" #[] e1))(yq:kS≠a)(SK:keys.size<=100)
  (ho:(arrOf st).map (·.2)=out.toArray) (hf:failedOf st=none) (hz:out.length<=100)
  (h:∀(h':Heap) (c:Nat),h'.get? a=some (seqObj "list" out.toArray c)->(∀b o,b≠a->b≠kS->s.heap.get? b=some o->h'.get? b=some o)->P (.done (.ret .none)) {s with heap:=h'}) :
  wpAny (model prog w) A (ksk_tail a false e1 (.ref kS) st) P E s:=by
 have s1:=aaL s.heap kS (abj λ_=>(#[]:Array Value))
 have IL:(s.heap.update kS (abj λ_=>(#[]:Array Value))).get? a=some (seqObj "list" #[] e1):=(s1.2 a yq.symm).trans ha
 unfold ksk_tail
 dsimp only
 rw[ho]
 refine aab (adb hk rfl ?_ (by rw[aaA];omega) (aaS _))
 refine aab (aeo ?_)
 refine aab (afa IL rfl ?_)
 refine aab (adb IL rfl ?_ (aaS _) (by simp only[abl,if_false,aae];rw[aaA];omega))
 rw[hf]
 simp only[bne_self_eq_false,abl,if_false]
 have s2:=aaL (s.heap.update kS (abj λ_=>(#[]:Array Value))) a (abj λ_=>out.toArray)
 exact aaf (h _ _ (acn IL λ_=>out.toArray) λb o h1 h2 g=>(s2.2 b h1).trans ((s1.2 b h2).trans g))
theorem ku:∀ad:List Addr,(∀a∈ad,∃k,yr h a k)->∃fs:List Value,KatTups h (ad.map aaM) fs/\fs.length=ad.length/\∀v∈fs,∃c t,v=.int c t
 |[],_=>⟨[],trivial,rfl,λ_ z=>by simp at z⟩
 |a::ad,hp=>by
  obtain⟨fs,h1,h2,h3⟩:=ku ad λb hb=>hp b (aar _ hb)
  obtain⟨k,o,n,t,u,e1,e2,e3⟩:=hp a aat
  refine⟨.int k.1 t::fs,⟨⟨a,o,_,n,rfl,e1,e2,e3,rfl⟩,h1⟩,by simp[h2],λv hv=>?_⟩
  rcases List.mem_cons.mp hv with rfl|hv
  .exact⟨_,_,rfl⟩
  .exact h3 v hv
variable{ad:List Addr}{vs:List Value}{i:Nat}
theorem jL(hl:ad.length=vs.length)(hi:i<vs.length):aeu ((ad.map aaM).toArray.zip vs.toArray) i=(.ref (ad.getD i 0),vs.getD i aa1):=by
 unfold aeu
 have Bl:i<ad.length:=by omega
 have hz:i<((ad.map aaM).toArray.zip vs.toArray).size:=by rw[Array.size_zip,aae,aae,aad];omega
 rw[Array.getD,dif_pos hz]
 show ((ad.map aaM).toArray.zip vs.toArray)[i]=_
 rw[Array.getElem_zip,List.getElem_toArray,List.getElem_toArray,ach,aag,aag,aaa Bl,aaa hi]
 rfl
theorem vy{e:Nat}(hk:s.heap.get? kS=some (seqObj "list" (ad.map aaM).toArray e))(ha:s.heap.get? a=some (seqObj "list" #[] e1))(yq:kS≠a)
  (l1:ad.length=vs.length) (l2:ks.length=vs.length) (zS:vs.length<64) (nd:(ks.map (·.2)).Nodup) (hp:∀i,i<vs.length->yr s.heap (ad.getD i 0) (ks.getD i (0,⟨#[]⟩)))
  (h:∀(h':Heap) (c:Nat) (ix:List Nat),ix.length=vs.length->ix.Nodup->(∀i∈ix,i<vs.length)->ix.Pairwise (λi j=>Dq ks i j=true)->h'.get? a=some (seqObj "list" (ix.map λi=>vs.getD i aa1).toArray c)->(∀b o,b≠a->b≠kS->s.heap.get? b=some o->h'.get? b=some o)->P (.done (.ret .none)) {s with heap:=h'}) :
  wpAny (model prog w) A (ksk_end a false vs.toArray e1 (.ref kS) (ad.map aaM).toArray) P E s:=by
 have kz:(ad.map aaM).toArray.size<=100:=by rw[aae,aad];omega
 unfold ksk_end
 dsimp only
 simp only[abl,if_false]
 by_cases h2:vs.toArray.size<2
 .rw[if_pos h2,if_pos h2]
  rw[aae]at h2
  refine aab (aaf ?_)
  rw[StateT.run_pure]
  refine aab (aaf ?_)
  dsimp only
  have ei:(aaR vs.length).map (λi=>vs.getD i aa1)=vs:=by
   apply ab7
   intro i
   rw[aai]
   by_cases hi:i<vs.length
   .rw[abT hi];simp[hi]
   .rw[aan (by simpa using hi),aan (by omega)];rfl
  refine nB (st:=SortSt.mk' general' ((ad.map aaM).toArray.zip vs.toArray) #[] 7 none) (out:=vs) (n:=0) hk ha yq kz ?_ rfl (by omega) λh' c g1 g2=>?_
  .apply Array.toList_inj.mp
   show (((ad.map aaM).toArray.zip vs.toArray).map (·.2)).toList=vs
   rw[Array.toList_map,Array.toList_zip]
   show ((ad.map aaM).zip vs).map (·.2)=vs
   exact ae0 (by rw[aad];omega)
  .refine h h' c (aaR vs.length) (by simp) adV (λi hi=>List.mem_range.mp hi) ?_ (by rw[ei];exact g1) g2
   match hv:vs.length,h2 with
   |0,_=>simp
   |1,_=>simp[afi]
 .rw[if_neg h2,if_neg h2]
  rw[aae]at h2
  obtain⟨fs,f1,f2,f3⟩:=ku ad λb hb=>by
   obtain⟨i,hi,rfl⟩:=List.mem_iff_getElem.mp hb
   have:=hp i (by omega)
   rw[aag,aaa hi]at this
   exact⟨_,this⟩
  refine aab (kat_kind (T:=.type "int") f1 (by omega) (λv hv=>?_) rfl ?_)
  .obtain⟨c,t,rfl⟩:=f3 v hv
   exact Looks.of_pure rfl
  have hT:((aby "int") != (aby "tuple"))=true:=by decide
  rw[hT]
  have Qn:((ad.map aaM).toArray.zip vs.toArray).size=vs.length:=by rw[Array.size_zip,aae,aae,aad];omega
  have RH:SortSt.mk' (ae6 true) ((ad.map aaM).toArray.zip vs.toArray) #[] 7 none=kas_st (ae6 true) ((ad.map aaM).toArray.zip vs.toArray) (aeU (aaR vs.length)):=by
   have q:=kas_range ((ad.map aaM).toArray.zip vs.toArray)
   rw[Qn]at q
   show _=SortSt.mk' (ae6 true) ((aeU (aaR vs.length)).map (aeu _)) #[] 7 none
   rw[q]
  have o:Srt.Ord (Dq ks) vs.length:=l2 ▸ tX nd
  have G9:∀i j,i<vs.length->j<vs.length->i≠j->(ks.getD i (0,⟨#[]⟩)).2≠(ks.getD j (0,⟨#[]⟩)).2:=λi j hi hj ne q=>by
   have a:(ks.map (·.2))[i]'(by rw[aad];omega)=(ks.map (·.2))[j]'(by rw[aad];omega):=by
    rw[ach,ach]
    rw[aag,aag,aaa (by omega),aaa (by omega)]at q
    exact q
   exact ne ((abx nd).mp a)
  have ask:(kas_sort vs.length).kasWp (kas_cmp prog w A (ae6 true) ((ad.map aaM).toArray.zip vs.toArray)) (λp z=>z=s/\Srt.Pm p vs.length/\Srt.Ee (Dq ks) p vs.length) s:=by
   refine Srt.pw_wp (lt:=Dq ks) (n:=vs.length) (Q:=λp=>Srt.Pm p vs.length/\Srt.Ee (Dq ks) p vs.length) (J:=λz=>z=s) ?_ (λp z hz q=>⟨hz,q⟩) (kas_sort vs.length) _ rfl (Srt.mW o (by omega) λp a b=>⟨a,b⟩)
   rintro i j C z hi hj ne rfl hC
   show wpAny _ _ (keyLt' (ae6 true) (aeu _ i).1 (aeu _ j).1) _ _ _
   rw[jL l1 hi,jL l1 hj]
   exact tz (hp i hi) (hp j hj) (G9 i j hi hj ne) (hC _ rfl)
  have run:=kas_runs (E:=E) (Q:=λ_ BE z=>∃p:Array Nat,p.size=vs.length/\arrOf BE=p.map (aeu ((ad.map aaM).toArray.zip vs.toArray))/\failedOf BE=none/\z=s/\Srt.Pm p vs.length/\Srt.Ee (Dq ks) p vs.length)
   (by omega) zS (λp' BE z a1 a2 a3 a4=>⟨p',a1,a2,a3,a4⟩) ask
  rw[<- RH]at run
  refine aab (aaJ run ?_ λ_ _ q=>q)
  rintro⟨⟨⟩,BE⟩ z ⟨p,Oo,Rm,hf,rfl,Pm,As⟩
  dsimp only
  have xA:∀i∈p.toList,i<vs.length:=λi hi=>by
   obtain⟨j,hj,rfl⟩:=Array.mem_iff_getElem.mp (Array.mem_toList_iff.mp hi)
   have:=Pm.lt j (by rw[<- Pm.sz];exact hj)
   rw[Srt.aO]at this
   simpa only[abI hj,adU]using this
  refine nB (st:=BE) (out:=p.toList.map λi=>vs.getD i aa1) (n:=0) hk ha yq kz ?_ hf (by rw[aad,aay,Oo];omega) λh' c g1 g2=>h h' c p.toList (by rw[aay,Oo]) ?_ xA ?_ g1 g2
  .apply Array.toList_inj.mp
   rw[Rm,Array.map_map,Array.toList_map]
   exact aaK λi hi=>by show (aeu _ i).2=_;rw[jL l1 (xA i hi)]
  .rw[acw,acA]
   intro i j hi hj Ae q
   have Bl:i<p.size:=by simpa using hi
   have AD:j<p.size:=by simpa using hj
   have:=Pm.nd i j (by rw[<- Pm.sz];exact Bl) (by rw[<- Pm.sz];exact AD) (by rw[Srt.aO,Srt.aO];simpa[Bl,AD]using q)
   omega
  .rw[acA]
   intro i j hi hj Ae
   have Bl:i<p.size:=by simpa using hi
   have AD:j<p.size:=by simpa using hj
   have:=As i j Ae (by rw[<- Pm.sz];exact AD)
   rw[Srt.aO,Srt.aO]at this
   simpa[Bl,AD]using this
def jX(prog:aaB)(w:World)(A:Around)(s:Shared)(f:Value)(keep:Addr->Prop)(v:Value)(a:Addr):Prop :=
 ∀(h:Heap) (tk:Nat),(∀b o,keep b->s.heap.get? b=some o->h.get? b=some o)->wpAny (model prog w) A (call f [v]) (λr z=>r=.ref a/\∃h' D7,z={s with heap:=h',toks:=D7}/\∀b o,h.get? b=some o->h'.get? b=some o) (λ_ _=>False) {s with heap:=h,toks:=tk}
variable{f:Value}
theorem ub(hk:s.heap.get? kS=some (seqObj "list" #[] 0))(ha:s.heap.get? a=some (seqObj "list" #[] e1))(yq:kS≠a)
  (l1:ad.length=vs.length) (l2:ks.length=vs.length) (zS:vs.length<64) (nd:(ks.map (·.2)).Nodup) (hp:∀i,i<vs.length->yr s.heap (ad.getD i 0) (ks.getD i (0,⟨#[]⟩))) (QI:∀i,i<vs.length->ad.getD i 0≠kS)
  (turn:∀i,i<vs.length->jX prog w A s f (λb=>b≠kS) (vs.getD i .none) (ad.getD i 0))
  (h:∀(h':Heap) (tk c:Nat) (ix:List Nat),ix.length=vs.length->ix.Nodup->(∀i∈ix,i<vs.length)->ix.Pairwise (λi j=>Dq ks i j=true)->h'.get? a=some (seqObj "list" (ix.map λi=>vs.getD i aa1).toArray c)->(∀b o,b≠a->b≠kS->s.heap.get? b=some o->h'.get? b=some o)->P (.done (.ret .none)) {s with heap:=h',toks:=tk}) :
  wpAny (model prog w) A (ksk_rest a f false vs.toArray e1 (.ref kS)) P E s:=by
 unfold ksk_rest
 refine aab (adc ?_)
 rw[List.forIn_toArray]
 refine aab (ksk_fold (λi z=>∃h' tk e,z={s with heap:=h',toks:=tk}/\(∀b o,b≠kS->s.heap.get? b=some o->h'.get? b=some o)/\h'.get? kS=some (seqObj "list" ((ad.take i).map aaM).toArray e)) vs 0 s
  ⟨s.heap,s.toks,0,rfl,λb o _ g=>g,hk⟩ ?_ ?_)
 .rintro j x z hx ⟨h',tk,e,rfl,g1,g2⟩
  rw[aaV]at g2 ⊢
  have hj:j<vs.length:=(List.getElem?_eq_some_iff.mp hx).1
  have ev:vs.getD j .none=x:=by rw[aag,hx];rfl
  have t:=turn j hj h' tk λb o hb g=>g1 b o hb g
  rw[ev]at t
  refine aab (wpAny_attempt (aaJ t (λv z hz=>?_) λ_ _ q=>q.elim))
  obtain⟨rfl,h2,PM,rfl,g3⟩:=hz
  dsimp only
  have gk:=g3 _ _ g2
  have s1:=aaL h2 kS (abj (·.push (.ref (ad.getD j 0))))
  refine aab (adb gk rfl ?_ (by rw[aae,aad,aa2,aaA];omega) (aaX (aeT (Array.size_push ..)) (by rw[aae,aad,aa2,aaA];omega)))
  have ej:(((ad.take j).map aaM).toArray.push (.ref (ad.getD j 0)))=((ad.take (j+1)).map aaM).toArray:=by
   have OR:j<ad.length:=by omega
   apply Array.toList_inj.mp
   rw[aeP]
   show (ad.take j).map aaM++[.ref (ad.getD j 0)]=(ad.take (j+1)).map aaM
   rw[abB,aaa OR,aag,aaa OR,aaH]
   rfl
  obtain⟨c2,Kh⟩:∃c2,(h2.update kS (abj (·.push (.ref (ad.getD j 0))))).get? kS=some (seqObj "list" (((ad.take j).map aaM).toArray.push (.ref (ad.getD j 0))) c2):=⟨_,acn gk (·.push (.ref (ad.getD j 0)))⟩
  rw[ej]at Kh
  exact aaf ⟨rfl,_,PM,c2,rfl,λb o hb g=>(s1.2 b hb).trans (g3 b o (g1 b o hb g)),Kh⟩
 .rintro z ⟨h',tk,e,rfl,g1,g2⟩
  rw[aaV,acQ (by omega)]at g2
  refine aab (listItems_at g2 rfl ?_)
  refine vy (s:={s with heap:=h',toks:=tk}) g2 (g1 a _ yq.symm ha) yq l1 l2 zS nd (λi hi=>(hp i hi).mono λo q=>g1 _ o (QI i hi) q) λh2 c ix i1 i2 i3 i4 i5 i6=>h h2 tk c ix i1 i2 i3 i4 i5 λb o b1 b2 g=>i6 b o b1 b2 (g1 b o b2 g)
variable{n:Nat}
theorem ua(ha:s.heap.get? a=some (seqObj "list" vs.toArray n))
  (l1:ad.length=vs.length) (l2:ks.length=vs.length) (zS:vs.length<64) (nd:(ks.map (·.2)).Nodup) (hp:∀i,i<vs.length->yr s.heap (ad.getD i 0) (ks.getD i (0,⟨#[]⟩))) (QK:∀i,i<vs.length->ad.getD i 0≠a)
  (turn:∀i,i<vs.length->jX prog w A s f (λb=>b≠a) (vs.getD i .none) (ad.getD i 0))
  (h:∀(h':Heap) (tk c:Nat) (ix:List Nat),ix.length=vs.length->ix.Nodup->(∀i∈ix,i<vs.length)->ix.Pairwise (λi j=>Dq ks i j=true)->h'.get? a=some (seqObj "list" (ix.map λi=>vs.getD i aa1).toArray c)->(∀b o,b≠a->s.heap.get? b=some o->h'.get? b=some o)->P (.done (.ret .none)) {s with heap:=h',toks:=tk}) :
  wpAny (model prog w) A (ksk_tree a f false) P E s:=by
 have SR:a<s.heap.objs.size:=aaj ha
 have s1:=aaL s.heap a (abj λ_=>(#[]:Array Value))
 have IL:=acn ha λ_=>(#[]:Array Value)
 unfold ksk_tree
 refine aab (listItems_at ha rfl ?_)
 refine aab (adb ha rfl ?_ (by rw[aae,aaA];omega) (aaS _))
 refine aab (afa IL rfl ?_)
 refine aab (wpAny_newTuple ?_ (by show vs.length<=_;rw[aaA];omega))
 refine aab (acs ?_ (aaS _))
 refine aaN ?_
 generalize hH:((s.heap.update a (abj λ_=>(#[]:Array Value))).push (seqObj "tuple" vs.toArray 0))=H1
 have kz:H1.objs.size=s.heap.objs.size+1:=by rw[<- hH,size_push',Heap.size_update]
 have old:∀b o,b≠a->s.heap.get? b=some o->(H1.push (seqObj "list" #[] 0)).get? b=some o:=λb o hb g=>by
  rw[<- hH]
  exact aac _ (aac _ ((s1.2 b hb).trans g))
 have lt:∀b o,s.heap.get? b=some o->b≠H1.objs.size:=λb o g=>by
  have:=aaj g
  rw[kz];exact aap (aa7 this)
 refine ub (s:={s with heap:=H1.push (seqObj "list" #[] 0)}) (kS:=H1.objs.size) (a:=a) (aal _ rfl) ?_ ?_ l1 l2 zS nd (λi hi=>?_) (λi hi=>?_) (λi hi=>?_) λh' tk c ix i1 i2 i3 i4 i5 i6=>h h' tk c ix i1 i2 i3 i4 i5 λb o hb g=>i6 b o hb (lt b o g) (old b o hb g)
 .rw[<- hH]
  exact aac _ (aac _ IL)
 .exact(lt a _ ha).symm
 .exact(hp i hi).mono λo q=>old _ o (QK i hi) q
 .obtain⟨o,_,_,_,g,_⟩:=hp i hi
  exact lt _ o g
 .intro h2 tk g
  exact turn i hi h2 tk λb o hb q=>g b o (lt b o q) (old b o hb q)
variable{l:Addr}{ob:Obj}
theorem qa{q:Addr}{n0:Nat}{Q:Value->Shared->Prop}(ho:s.heap.get? l=some ob)(hc:ob.cls=.type "tuple")(hd:ob.data=.seq vs.toArray n0)
  (l1:ad.length=vs.length) (l2:ks.length=vs.length) (zS:vs.length<64) (nd:(ks.map (·.2)).Nodup) (hp:∀i,i<vs.length->yr s.heap (ad.getD i 0) (ks.getD i (0,⟨#[]⟩)))
  (turn:∀i,i<vs.length->jX prog w A.in1.in1 s (.ref q) (λ_=>True) (vs.getD i .none) (ad.getD i 0))
  (h:∀(D:Addr) (h1 h':Heap) (tk c:Nat) (ix:List Nat),(∀b o,s.heap.get? b=some o->h1.get? b=some o)->h1.objs.size<=D->ix.length=vs.length->ix.Nodup->(∀i∈ix,i<vs.length)->ix.Pairwise (λi j=>Dq ks i j=true)->h'.get? D=some (seqObj "list" (ix.map λi=>vs.getD i aa1).toArray c)->(∀b o,s.heap.get? b=some o->h'.get? b=some o)->Q (.ref D) {s with heap:=h',toks:=tk}) :
  wpAny (model prog w) A (call (.builtin "sorted") [.ref l] [(abn "key",.ref q)]) Q E s:=by
 refine call_function_entry_kw afc aeQ aeR (ksk_s1 _ _) ?_
 unfold ack.«sorted»
 refine aab (m:=checkCount "sorted" 1 1 _) (aaf ?_)
 refine aab (wpAny_collect_seq l (.inr rfl) ho hc hd (λh1 kk=>?_) (by rw[aae,aaA];omega))
 refine aab (acs ?_ (by show vs.length<=_;rw[aaA];omega))
 have DR:(h1.push (seqObj "list" vs.toArray 0)).get? h1.objs.size=some (seqObj "list" vs.toArray 0):=aal _ rfl
 have old:∀b o,s.heap.get? b=some o->(h1.push (seqObj "list" vs.toArray 0)).get? b=some o:=λb o g=>aac _ (kk b o g)
 have ne:∀b o,s.heap.get? b=some o->b≠h1.objs.size:=λb o g=>aap (aaj (kk b o g))
 refine aab (aaN (wpAny_call_entry_kw adz ⟨_,DR,rfl⟩ adh ?_ (ksk_l1 _ _)))
 show wpAny (model prog w) A.in1.in1 (ack.«list.sort» ⟨[.ref h1.objs.size],[(abn "key",.ref q)]⟩) _ _ _
 rw[ksk_t1]
 refine ua (s:={s with heap:=h1.push (seqObj "list" vs.toArray 0)}) DR l1 l2 zS nd (λi hi=>(hp i hi).mono λo g=>old _ o g) (λi hi=>?_) (λi hi h2 tk g=>turn i hi h2 tk λb o _ z=>g b o (ne b o z) (old b o z)) λh' tk c ix i1 i2 i3 i4 i5 i6=>⟨_,rfl,?_⟩
 .obtain⟨o,_,_,_,g,_⟩:=hp i hi
  exact ne _ o g
 .exact aaf ⟨_,rfl,h h1.objs.size h1 h' tk c ix kk (aak _) i1 i2 i3 i4 i5 λb o g=>i6 b o (ne b o g) (old b o g)⟩
structure DB(x d:Str)(params:Arguments)(scope:Scope):Prop where
 kind:scope.kind=.function
 co:scope.isCoroutine=false
 gen:scope.isGenerator=false
 nc:∀y∈scope.names,y.2≠.cell
 lx:scope.names.lookup x=some .local
 ld:scope.names.lookup d=some .free
 ne:(x==d)=false
 dx:(x==("__debug__" : Str))=false
 dd:(d==("__debug__" : Str))=false
 dc:(d==("__classdict__" : Str))=false
 bd:∀(qual:Str) (body:Expr) (cl:List (Str×Addr)) (pm xn ct v:Value),ac0 (kla_fn "<lambda>" qual params body scope cl pm xn ct) ⟨[v],[]⟩=pure [(x,v)]
variable{X:Cx}{pins:List (Addr×Obj)}{σ:St}{H:Hp}{z:Shared}{B:Around}
variable{x qual:Str}{scope:Scope}{pm:Value}{t:Tok}{kvs:List (Key×V)}
theorem rQ{q c' cell dd:Addr}{d nm:Str}{params:Arguments}{p1 p2 p3:Pos}{Fj:Value}(S:DB x d params scope)(I:Inv X pins σ H z)(EN:B.depth<recursionLimit)
  (ho:z.heap.get? q=some (kla_obj "<lambda>" qual params (.Subscript (.Name d p1) (.Name x p2) p3) scope [(d,cell)] pm c' Fj)) (hcd:z.heap.CodeRec (.ref c') qual) (HI:z.heap.NoLimit) (ze:z.heap.IsCell cell (some (.ref dd)))
  (hD:H dd=some (.dK kvs)) (hv:yP kvs (aaq nm)=some (.ref a)) :
  wpAny (model X.prog X.w) B (call (.ref q) [.str nm t]) (λv z'=>v=.ref a/\∃h' D7,z'={z with heap:=h',toks:=D7}/\∀b o,z.heap.get? b=some o->h'.get? b=some o) (λ_ _=>False) z:=by
 refine wpAny_call (kla_callFunE EN ho rfl S.co S.gen rfl hcd ?_)
 rw[S.bd]
 refine aaf (aei S.nc (λy hy=>by rw[adw]at hy;subst hy;exact S.lx) (λh1 Fe QA=>?_) S.kind)
 have kk:∀b o,z.heap.get? b=some o->h1.get? b=some o:=λb o g=>(QA.2 b (aap (aaj g))).trans (aac _ g)
 refine⟨HI.keeps kk,kla_codeExpr ?_⟩
 have I1:Inv X pins σ H {z with heap:=h1,toks:=z.toks+1}:=I.kept kk
 obtain⟨z1,z2,vs,rel,dD⟩:=gn I1.wU hD
 obtain⟨u,hu,ru⟩:=Bc.some_of (v:=V.ref a) (o:=aeD vs (aaq nm)) (by rw[<- hv];exact rel.val _)
 cases ru
 have HQ:h1.IsCell cell (some (.ref dd)):=by
  obtain⟨o,e,r⟩:=ze
  exact⟨o,kk _ _ e,r⟩
 refine Subscript_ ?_
 refine aeC (wpAny_loadName_free S.kind S.ld (c:=cell) (show adn d [(d,cell)]=some cell by simp) HQ ?_ S.dc) S.dd
 refine aeC (wpAny_loadName_local S.kind S.lx Fe (show adn x [(x,ac4 nm t)]=some (ac4 nm t)by simp) ?_) S.dx
 refine tail_any dD.typeIs PySem.F.slot_dict_getitem.lookup (wpAny_getItem_of (dz (k:=aaq nm) (show RelV (.str nm) (.str nm t)from ⟨t,rfl⟩)) dD.mapOf hu ?_) rfl
 exact⟨rfl,h1,_,rfl,kk⟩
def Aq(f:Addr)(ob:Obj):HO:=.ext λh=>h.get? f=some ob
theorem pY{P:aaB}(e:h.get? a=some ob):xa P w H h a (Aq a ob):=⟨e,⟨_,e⟩,λh1 h2 x k=>k _ x⟩
theorem uE{P:aaB}{lq:Str}(e:h.CodeRec (.ref a) lq):xa P w H h a (yB a lq):=by
 refine⟨e,?_,λh1 h2 x k=>?_⟩
 .obtain⟨c,oc,vs,tq,hc,IG,r⟩:=e
  cases hc
  exact⟨_,IG⟩
 .obtain⟨c,oc,vs,tq,hc,IG,r⟩:=x
  cases hc
  exact⟨_,oc,vs,tq,rfl,k _ IG,r⟩
structure DC(X:Cx)(lq d:Str)(params:Arguments)(body:Expr)(scope:Scope)(c':Addr)(ob:Obj):Prop where
 ex:∃cell Fj,X.env.cells.lookup d=some cell/\ob=kla_obj "<lambda>" lq params body scope [(d,cell)] ((X.mg "__name__").getD .none) c' Fj
def G4(X:Cx)(lq d:Str)(wY:Pos)(P:Addr)(params:Arguments)(body:Expr)(scope:Scope):TE:=λ_ H Q=>∃ps:Array Value,H P=some (yw P ps)/\TriplesOk ps.toList /\
 ((acg wY ps.toList=none/\∀c' f ob,H c'=none->H f=none->c'≠f->c'≠P->f≠P->DC X lq d params body scope c' ob->Q (.ref f) (upd (upd (upd H P (yw P (ps++#[rawInt wY.line,rawInt wY.col,.ref c']))) c' (yB c' lq)) f (Aq f ob))) \/
  (∃c',acg wY ps.toList=some (.ref c')/\H c'=some (yB c' lq)/\∀f ob,H f=none->DC X lq d params body scope c' ob->Q (.ref f) (upd H f (Aq f ob))))
structure BMain(mg:Str->Option Value)(h:Heap):Prop where
 ex:∃bm o,mg "__builtins__" = some (.ref bm)/\bm≠aeF/\h.get? bm=some o/\o.cls=.type "module" /\ o.dict=some aeF/\o.data=.plain
structure DD(d:Str)(params:Arguments)(scope:Scope):Prop where
 df:∀env,defaultsOf params env=([],[])
 cl:∀(env:Env) (cell:Addr),env.cells.lookup d=some cell->closureFor scope env=pure [(d,cell)]
variable{lq d:Str}{wY:Pos}{P c:Addr}{params:Arguments}{body:Expr}
theorem u6(S:DD d params scope)(hq:X.env.qual ++ "<lambda>" = lq)(Bx:X.env.code=.ref c)(hC:abO X.K c P=true)(hB:BMain X.mg X.base)(hd:X.env.kindOf d=some .cell):PE X (.Lambda params body scope wY) (G4 X lq d wY P params body scope):=by
 intro pins s σ H Q I h
 obtain⟨ps,eP,ht,h⟩:=h
 obtain⟨cell,ze⟩:=I.ok.has d (.inl hd)
 have hP:s.heap.get? P=some (tabObj ps):=(I.wU P _ eP).1
 have hg:s.heap.Ns aaQ X.mg:=I.mod.glob.keeps I.bk
 have C:CodeHd s.heap c P:=PySem.W.codeHd_of_K I.Hy hC
 have Q6:aaQ≠P:=λe=>by
  obtain⟨o,es,ep,g1,g2,_⟩:=hg
  rw[e,hP]at g1;cases g1;cases g2
 have hb:s.heap.BuiltinsAt X.mg P:=by
  obtain⟨bm,o,b1,b2,b3,b4,b5,b6⟩:=hB.ex
  refine⟨bm,o,b1,b2,λe=>?_,λe=>?_,I.bk _ _ b3,b4,b5,b6⟩
  .obtain⟨o',es,ep,g1,g2,_⟩:=hg
   rw[<- e,I.bk _ _ b3]at g1;cases g1
   rw[b6]at g2;cases g2
  .have:=I.bk _ _ b3
   rw[e,hP]at this;cases this;cases b4
 refine kla_eval (S.df _) ?_
 rw[hq]
 rcases h with ⟨QO,h⟩|⟨c',hf,Cg,h⟩
 .refine kla_makeFunction (mg:=X.mg) (S.cl _ _ ze) I.ok.glob hg Bx C hP ht QO Q6 hb λc' Fj h' tk hx FI xA MZ JZ=>?_
  have Fh:H c'=none:=I.wU.fresh FI
  have nP:∀b,H b=none->b≠P:=λb n z=>by rw[z,eP]at n;cases n
  have nc:∀b o,s.heap.get? b=some o->b≠c':=λb o g=>aap (aaE (aaj g) FI)
  have Qk:c'≠P:=λz=>by rw[z,eP]at Fh;cases Fh
  have un:Un X.fs [] H (upd (upd H P (yw P (ps++#[rawInt wY.line,rawInt wY.col,.ref c']))) c' (yB c' lq)) s.heap h':=by
   refine⟨λb o q n _ _=>hx b o (nP b n) q,λb o q n _ _=>⟨o.slots,hx b o (nP b n) q⟩,λb o q n _=>?_,λb o q _=>?_,λb xs q=>?_,λb o u q=>?_,λb qs q=>?_⟩
   .rw[af (nc b o q),af (nP b n)];exact n
   .by_cases z:b=P
    .subst z;exact⟨_,JZ⟩
    .exact⟨o,hx b o z q⟩
   .rw[af (aq q Fh),af (λz=>by rw[z,eP]at q;cases q)];exact q
   .rw[af (aq q Fh),af (λz=>by rw[z,eP]at q;cases q)];exact q
   .refine⟨#[],?_⟩
    rw[af (aq q Fh),af (λz=>by rw[z,eP]at q;cases q),q];simp
  have wU:zl X.prog X.w (upd (upd H P (yw P (ps++#[rawInt wY.line,rawInt wY.col,.ref c']))) c' (yB c' lq)) h':=λb u q=>by
   by_cases z:b=c'
   .subst z
    rw[ag]at q;cases q
    exact uE MZ
   .rw[af z]at q
    by_cases z2:b=P
    .subst z2
     rw[ag]at q;cases q
     exact lh JZ
    .rw[af z2]at q
     refine(I.wU b u q).AH (λe o he g=>hx e o (λy=>?_) g) (λe he=>?_) λe xs he=>?_
     .subst y
      rcases he with y|y
      .exact z2 y.symm
      .rw[eP]at y;cases y
     .rw[af (aq he Fh),af (λy=>by rw[y,eP]at he;cases he)];exact he
     .rw[af (aq he Fh),af (λy=>by rw[y,eP]at he;cases he)];exact he
  have I1:Inv X pins σ _ {s with heap:=h',toks:=tk}:=I.un un wU
  have OW:=I1.wU.fresh (a:=h'.objs.size) (aak _)
  have fc:h'.objs.size≠c':=aca xA
  have fP:h'.objs.size≠P:=aca (aaj JZ)
  have Lv:H h'.objs.size=none:=by rw[af fc,af fP]at OW;exact OW
  refine⟨.ref h'.objs.size,_,I1.laid (t':=tk) (a:=h'.objs.size) (o:=Aq h'.objs.size (kla_obj "<lambda>" lq params body scope [(d,cell)] ((X.mg "__name__").getD .none) c' Fj)) (λb u g=>aac _ g) (aak _) (pY (aal _ rfl)),rfl,h c' _ _ Fh Lv (abv fc) Qk fP ⟨cell,Fj,ze,rfl⟩⟩
 .refine kla_makeFunctionHit (mg:=X.mg) (S.cl _ _ ze) I.ok.glob hg Bx C hP ht hf hb λFj h' tk kk hsz=>?_
  exact⟨.ref h'.objs.size,_,I.laid (t':=tk) (a:=h'.objs.size) (o:=Aq h'.objs.size (kla_obj "<lambda>" lq params body scope [(d,cell)] ((X.mg "__name__").getD .none) c' Fj)) (λb u g=>aac _ (kk b u g)) hsz (pY (aal _ rfl)),rfl,h _ _ (I.wU.fresh hsz) ⟨cell,Fj,ze,rfl⟩⟩
structure F9(ks:List (Int×Str))(n:Nat)(ix:List Nat):Prop where
 len:ix.length=n
 nd:ix.Nodup
 lt:∀i∈ix,i<n
 up:ix.Pairwise λi j=>Dq ks i j=true
abbrev k0:Int×Str:=(0,⟨#[]⟩)
def Er(X:Cx)(lq d:Str)(wY:Pos)(P:Addr)(params:Arguments)(body:Expr)(scope:Scope)(i:Nat)(σ:St)(Q:VK):VK:=λv H1=>∃(l:Addr) (ss:List Str) (dd:Addr) (kvs:List (Key×V)) (ad:List Addr) (ks:List (Int×Str)),
 v=.ref l/\yI X.K H1 l (ss.map V.str)/\ss.length<64/\σ[i]?=some (some (.ref dd))/\H1 dd=some (.dK kvs)/\ad.length=ss.length/\ks.length=ss.length/\(ks.map (·.2)).Nodup /\
 (∀j,j<ss.length->yP kvs (aaq (ss.getD j ⟨#[]⟩))=some (.ref (ad.getD j 0))/\yI X.K H1 (ad.getD j 0) [.int (ks.getD j k0).1,.str (ks.getD j k0).2]) /\
 G4 X lq d wY P params body scope σ H1 λ_ H2=>∀D ix,H2 D=none->F9 ks ss.length ix->Q (.ref D) (upd H2 D (.lst (ix.map λj=>V.str (ss.getD j ⟨#[]⟩))))
def G1(X:Cx)(lq d:Str)(wY:Pos)(P:Addr)(params:Arguments)(body:Expr)(scope:Scope)(i:Nat)(te:TE):TE:=λσ H Q=>te σ H (Er X lq d wY P params body scope i σ Q)
variable{K:aah}{xs:List V}
theorem mV{H2:Hp}{ps:Array Value}(eP:H P=some (yw P ps))(k:∀b o,H b=some o->b≠P->H2 b=some o)(h:yI K H a xs):yI K H2 a xs:=by
 rcases h with (h|⟨o,h⟩)|h
 .exact .inl (.inl (k a _ h λz=>by rw[z,eP]at h;cases h))
 .exact .inl (.inr ⟨o,k a _ h λz=>by rw[z,eP]at h;cases h⟩)
 .exact .inr h
variable{p p1 p2 p3 zd pos:Pos}{e:Expr}{te:TE}{k:Nat}
variable{gE:List Value}
theorem tB{m:Int}{s:Str}(rv:oR [.int m,.str s] gE)(t:IsTup h a gE.toArray):yr h a (m,s):=by
 obtain⟨o,g1,g2,n,g3⟩:=t
 cases rv with
 |cons r1 r2=>
  cases r2 with
  |cons r2 r3=>
   cases r3
   obtain⟨t,rfl⟩:=r1
   obtain⟨u,rfl⟩:=r2
   exact⟨o,n,t,u,g1,g2,g3⟩
theorem rh(S:DB x d params scope)(S2:DD d params scope)(hr:xw k X.A)(hg:Gl X "sorted")(hm:X.mg "sorted" = none)(hq:X.env.qual ++ "<lambda>" = lq)(Bx:X.env.code=.ref c)(hC:abO X.K c P=true)(hB:BMain X.mg X.base)
  (hi:X.N[i]?=some d) (hd:X.env.kindOf d=some .cell) (hv:D3 X.env.scope d) (he:PE X e te)
  (hs:aam [e] X.env=(false,eval e X.env)::aam [] X.env:=by rfl)
  (h1:backTo pos (aam [e] X.env)=(false,eval e X.env)::backTo pos (aam [] X.env):=by rfl) (h2:(backTo pos (aam [e] X.env)).any (·.1)=false:=by rfl) :
  PE X (.Call (.Name "sorted" p) [e] [⟨some "key",.Lambda params (.Subscript (.Name d p1) (.Name x p2) p3) scope wY,zd⟩] pos) (G1 X lq d wY P params (.Subscript (.Name d p1) (.Name x p2) p3) scope i te):=by
 intro pins s σ H Q I h
 refine acl (ed I hg hm aeq ?_)
 refine callWith_kw (xH ((aP he aV hs) pos pins s σ H (λvs H1=>match vs with|[v]=>Er X lq d wY P params (.Subscript (.Name d p1) (.Name x p2) p3) scope i σ Q v H1|_=>False) I h) λus s1 ⟨vs,H1,I1,r1,q1⟩=>?_) h1 h2
 dsimp only at q1
 split at q1
 case h_2=>exact q1.elim
 obtain⟨l,ss,dd,kvs,ad,ks,rfl,hl,zS,hσ,Kf,l1,l2,nd,hk,hL⟩:=q1
 obtain⟨u,rfl,ru⟩:=r1.one
 cases ru
 obtain⟨ps,eP,hL⟩:=hL
 have RS:dd≠P:=λz=>by rw[z,eP]at Kf;cases Kf
 have lam:G4 X lq d wY P params (.Subscript (.Name d p1) (.Name x p2) p3) scope σ H1 λfv H2=>∃f c' ob,fv=.ref f/\H2 f=some (Aq f ob)/\DC X lq d params (.Subscript (.Name d p1) (.Name x p2) p3) scope c' ob/\H2 c'=some (yB c' lq)/\(∀b o,H1 b=some o->b≠P->H2 b=some o) /\
   ∀D ix,H2 D=none->F9 ks ss.length ix->Q (.ref D) (upd H2 D (.lst (ix.map λj=>V.str (ss.getD j ⟨#[]⟩)))):=by
  refine⟨ps,eP,hL.1,?_⟩
  rcases hL.2 with ⟨g1,g2⟩|⟨c',g1,g2,g3⟩
  .refine .inl ⟨g1,λc' f ob a1 a2 a3 a4 a5 a6=>⟨f,c',ob,rfl,ag,a6,?_,λb o hb hP=>?_,g2 c' f ob a1 a2 a3 a4 a5 a6⟩⟩
   .rw[af a3,ag]
   .rw[af (aq hb a2),af (aq hb a1),af hP];exact hb
  .refine .inr ⟨c',g1,g2,λf ob a1 a2=>⟨f,c',ob,rfl,ag,a2,?_,λb o hb _=>?_,g3 f ob a1 a2⟩⟩
   .rw[af (aq g2 a1)];exact g2
   .rw[af (aq hb a1)];exact hb
 refine xH ((m7 (u6 S2 hq Bx hC hB hd) pG) pos pins s1 σ H1 (λvs H2=>match vs with|[fv]=>∃f c' ob,fv=.ref f/\H2 f=some (Aq f ob)/\DC X lq d params (.Subscript (.Name d p1) (.Name x p2) p3) scope c' ob/\H2 c'=some (yB c' lq)/\(∀b o,H1 b=some o->b≠P->H2 b=some o) /\
   (∀D ix,H2 D=none->F9 ks ss.length ix->Q (.ref D) (upd H2 D (.lst (ix.map λj=>V.str (ss.getD j ⟨#[]⟩)))))|_=>False) I1 lam) λws s2 ⟨zs,H2,I2,rz,q2⟩=>?_
 dsimp only at q2
 split at q2
 case h_2=>exact q2.elim
 obtain⟨f,c',ob,rfl,ef,⟨cell,Fj,ze,rfl⟩,ec,keep,hQ⟩:=q2
 obtain⟨u,rfl,ru⟩:=rz.one
 cases ru
 show wpAny _ _ (call (.builtin "sorted") [.ref l] [(abn "key",.ref f)]) _ _ _
 obtain⟨gE,rv,⟨o,g1,g2,n0,g3⟩,hz⟩:=I2.tuple (mV eP keep hl)
 have hlen:gE.length=ss.length:=by have:=rv.length;rw[aad]at this;exact this.symm
 have Lg:∀j,j<ss.length->∃t,gE.getD j aa1=.str (ss.getD j ⟨#[]⟩) t:=λj hj=>by
  obtain⟨u,hu,ru⟩:=rv.get (i:=j) (show (ss.map V.str)[j]?=some (.str (ss.getD j ⟨#[]⟩))by rw[aai,aaa hj,aag,aaa hj];rfl)
  obtain⟨t,rfl⟩:=ru
  exact⟨t,by rw[aag,hu];rfl⟩
 have cellAt:s2.heap.IsCell cell (some (.ref dd)):=by
  obtain⟨m,_,Ng⟩:=I2.loc
  obtain⟨u,ru,lk⟩:=Ng i d _ hi hσ hv
  cases ru
  rcases lk with ⟨y,_⟩|⟨_,c2,y1,y2⟩
  .rw[hd]at y;cases y
  .rw[ze]at y1;cases y1;exact y2
 have lim:s2.heap.NoLimit:=I2.mod.nolimit.keeps I2.bk
 refine qa (vs:=gE) (ad:=ad) (ks:=ks) g1 g2 g3 (by omega) (by omega) (by omega) nd (λj hj=>?_) (λj hj h tk kk=>?_) λD SN h' tk cc ix k1 k2 i1 i2 i3 i4 i5 i6=>?_
 .obtain⟨yh,IC,PJ,_⟩:=I2.tuple (mV eP keep (hk j (by omega)).2)
  exact tB IC PJ
 .obtain⟨t,et⟩:=Lg j (by omega)
  rw[et]
  have JN:∀b o,s2.heap.get? b=some o->h.get? b=some o:=λb o g=>kk b o trivial g
  have I3:Inv X pins σ H2 {s2 with heap:=h,toks:=tk}:=I2.kept JN
  refine rQ (z:={s2 with heap:=h,toks:=tk}) S I3 ?_ (JN _ _ (I2.wU f _ ef).1) ?_ (lim.keeps JN) ?_ (keep _ _ Kf RS) (hk j (by omega)).1
  .have:=hr.dp
   show X.A.depth<recursionLimit
   omega
  .exact(I2.wU c' _ ec).2.2 _ _ (I2.wU c' _ ec).1 λo g=>JN _ _ g
  .obtain⟨o,y,r⟩:=cellAt
   exact⟨o,JN _ _ y,r⟩
 .have IP:s2.heap.get? D=none:=by
   cases y:s2.heap.get? D with
   |none=>rfl
   |some o=>exact absurd (aaE (aaj (k1 D o y)) k2) (aba _)
  have J:Inv X pins σ H2 {s2 with heap:=s2.heap,toks:=tk}:=I2.kept λ_ _ g=>g
  obtain⟨m,hm,_⟩:=I2.loc
  have xA:∀y∈ix,y<ss.length:=λy hy=>by have:=i3 y hy;omega
  have pick:=rv.pick ix λy hy=>by rw[aad];exact xA y hy
  have ep:(ix.map λy=>(ss.map V.str).getD y V.nE)=ix.map λj=>V.str (ss.getD j ⟨#[]⟩):=aaK λy hy=>by
   have Ll:=xA y hy
   rw[aag,aai,aaa Ll,aag,aaa Ll];rfl
  rw[ep]at pick
  refine⟨.ref D,_,J.Gw (xs:=ix.map λj=>V.str (ss.getD j ⟨#[]⟩)) hm (hm.keeps i6) (λb o _ g=>i6 b o g) IP ⟨?_,ix.map λy=>gE.getD y aa1,cc,pick,i5⟩,rfl,hQ D ix (I2.wU.dead IP) ⟨by omega,i2,xA,i4⟩⟩
  rw[aad,i1,aaA];omega
end L2
namespace L2
open PySem PySem.Spec PyProof.Rows
variable{P:aaB}{w:World}{K:aah}{mg:Str->Option Value}{base:Heap}
variable{x qual:Str}{st:Stmt}{f:Addr}{fd:abA}{N ps:List Str}{k:Nat}{sp:Sp}
theorem C6.Qf(F:C6 K x qual st f fd)(S:az N ps (ap st))(len:∀vs H Q E,sp vs H Q E->vs.length=ps.length)
  (Ci:∀(xn:Value),fd.code=xn->∀(A:Around) (outer:List Env) (s:Shared) (H:Hp) (vs:List V) (Q:VK) (E:XK),xw k (A.deeper (envOfC qual (ap st) s.heap.objs.size f xn))->sp vs H Q E ->
   ∃t,C3 (Aw ye P w K mg base N qual (ap st) f xn A outer s H E).EH (aZ st) t/\t {nx:=λ_ H'=>Q .nE H',rt:=Q} (start N vs) H):w4 P w K mg base ye (k+1) f fd ps sp:=by
 obtain⟨oc,od,kV,doc,pm,an,xn,ct,Fx,rfl,lk,hcd⟩:=F.ex
 refine sC lk hcd S len λA outer s H vs Q E hr Fc=>?_
 obtain⟨t,h,q⟩:=Ci xn rfl A outer s H vs Q E hr Fc
 exact⟨t,h.EH,q⟩
variable{X:Cx}{pins:List (Addr×Obj)}{σ:St}{H:Hp}{s:Shared}{n:Nat}{v:V}
theorem Inv.hide(I:Inv X pins σ H s){nm:Str}(hN:X.N[n]?=some nm)(hv:¬ D3 X.env.scope nm):Inv X pins (σ.set n (some v)) H s:=by
 refine⟨I.ok,I.os,I.bare,I.base,?_,I.cell,I.free,I.yA,I.pin,I.wU,by rw[afl];exact I.len⟩
 obtain⟨m,hn,hl⟩:=I.loc
 refine⟨m,hn,λi x u e1 e2 e3=>?_⟩
 by_cases z:n=i
 .subst z
  rw[hN]at e1;cases e1
  exact absurd e3 hv
 .rw[aau z]at e2
  exact hl i x u e1 e2 e3
end L2
namespace Q
open PySem L2 PyProof.Rows
def Ff(n:Nat)(c:PV)(xs:List PV):En:=xD n xs++[some ⟨2,c⟩]
def K8(n:Nat)(P:PV->Prop)(e:En):Prop:=match e[n]? with
 |some (some ⟨2,c⟩)=>P c
 |_=>False
def EY(n:Nat)(P:PV->PV->Prop):Wd:={nx:=λe=>K8 n (P .nE) e,rt:=λx e=>K8 n (P x) e}
def B0(n:Nat)(u:WS):Ai:=λc xs P=>u (EY n P) (Ff n c xs)
def spT(M:Md)(n:Nat)(D:Ai):Sp:=λvs H Q _=>∃(F:Hp) (a:Addr) (l:List Addr) (c:PV) (xs:List PV) (P:PV->PV->Prop),dO F H/\iF M.K F vs xs/\xs.length=n /\
 M.ob.P F H a l c/\(∀b∈l,H b≠none/\F b=none)/\D c xs P /\
 ∀r c' v F' H' l',P r c'->(∀b o,H b=some o->b∉l->H' b=some o)->(∀b,H b≠none->H' b≠none)->dO F F'->dO F' H'->(∀a,F' a≠none->F a≠none\/H a=none)->M.ob.P F' H' a l' c'->(∀b∈l',H' b≠none/\F' b=none)->(∀b∈l',b∈l\/H b=none)->Rep M.K F' v r->Q v H'
variable{M:Md}{F H:Hp}{N:List Str}{ws:List V}{xs:List PV}{a:Addr}{l:List Addr}{c:PV}{n:Nat}
theorem oh(sF:dO F H)(r:iF M.K F ws xs)(hN:N.length=n+1)(hl:xs.length<=n)(ho:M.ob.P F H a l c)(hb:∀b∈l,H b≠none/\F b=none):
  lT M ⟨H,F,l,λi=>if i=n then some a else none,λb h=>(hb b h).1⟩ F ((start N ws).set n (some (.ref a))) H (Ff n c xs):=by
 have Ce:ws.length<=n:=by rw[r.len];exact hl
 have hs:(start N ws).length=n+1:=by rw[fD (by omega),hN]
 have he:(xD n xs).length=n:=e7 hl
 refine⟨sF,λb o h _=>h,λb h=>h,aj,λa h=>.inl h,?_,λi=>if i=n then l else [],λi s h=>?_,λi b h=>?_,λi j b Ae h z=>?_,λi b s h _ _=>?_⟩
 .unfold Ff
  rw[aaF,he,afl,hs];rfl
 .rcases adI i n with z|z|z
  .unfold Ff at h
   rw[aav (by omega)]at h
   obtain⟨x,hx,rfl⟩:=e8 h
   obtain⟨v,hv,rv⟩:=r.get hx
   refine⟨v,?_,.inl ⟨rfl,if_neg (by omega),rv⟩⟩
   rw[aau (by omega)]
   exact cA hv
  .subst z
   unfold Ff at h
   rw[acx (by omega),he,Nat.sub_self]at h
   have h:s=⟨2,c⟩:=by simpa using h.symm
   subst h
   refine⟨.ref a,?_,.inr (.inr (.inl ⟨.inl rfl,a,rfl,λc hc=>.inl (by rwa [if_pos rfl]at hc),by rw[if_pos rfl];exact ho⟩))⟩
   rw[abF (by omega)]
  .unfold Ff at h
   rw[aan (by rw[aaF,he];simp;omega)]at h;cases h
 .split at h
  .exact hb b h
  .simp at h
 .split at h
  .split at z
   .rename_i h1 h2;exact Ae (h1.trans h2.symm)
   .simp at z
  .simp at h
 .dsimp only at h
  split at h
  .rename_i e;subst e;cases h
   rw[abF (by omega)]
  .cases h
variable{P:aaB}{w:World}{K:aah}{mg:Str->Option Value}{base:Heap}{ob:xV}
variable{x qual:Str}{st:Stmt}{f:Addr}{fd:abA}{ps:List Str}{k:Nat}{u:WS}
theorem lX{nm:Str}(F:C6 K x qual st f fd)(S:az N ps (ap st))(hN:N.length=n+1)(hn:ps.length<=n)(M9:N[n]?=some nm)(hv:¬ D3 (ap st) nm)
  (hb:∀(xn:Value),fd.code=xn->∀(A:Around) (outer:List Env) (s:Shared) (H:Hp) (E:XK),xw k (A.deeper (envOfC qual (ap st) s.heap.objs.size f xn))->zX ob (Aw ye P w K mg base N qual (ap st) f xn A outer s H E).EH (aZ st) u) :
  w4 P w K mg base ye (k+1) f fd ps (spT ⟨P,w,K,ob⟩ ps.length (B0 n u)):=by
 refine F.Qf S (λvs H Q E h=>?_) (λxn ES A outer s H vs Q E hr h=>?_)
 .obtain⟨F,a,l,c,xs,P,_,r,hl,_⟩:=h
  rw[r.len];exact hl
 .obtain⟨F,a,l,c,xs,P',sF,r,hl,ho,Cy,hD,kk⟩:=h
  obtain⟨t,ht,kt⟩:=(hb xn ES A outer s H E hr).ex
  have fin:∀(x:PV) (env:En) (v:V) (σ:L2.St) (F' H':Hp),K8 n (P' x) env->dO F F'->lT ⟨P,w,K,ob⟩ ⟨H,F,l,λi=>if i=n then some a else none,λb h=>(Cy b h).1⟩ F' σ H' env->Rep K F' v x->Q v H':=λx env v σ F' H' p s1 K1 rv=>by
   unfold K8 at p
   split at p
   .rename_i c' e
    obtain⟨fp,L⟩:=K1.sl
    obtain⟨v0,AB,ok⟩:=L.at' n _ e
    have hσ:=L.oa n a _ (if_pos rfl) e rfl
    rw[hσ]at AB;cases AB
    rcases ok with ⟨k0,_⟩|⟨k0,_⟩|⟨_,a',e',h1,h2⟩|⟨k0,_⟩
    .cases k0
    .cases k0
    .cases e'
     exact kk x _ v F' H' (fp n) p (λb o h1 h2=>K1.sG b o h1 h2) (λb h=>K1.pr b h) s1 K1.sF K1.nw h2 (λb hb=>L.al n b hb) (λb hb=>h1 b hb) rv
    .cases k0
   .exact p.elim
  refine⟨λD σ H=>t D (σ.set n (some (.ref a))) H,λpins s' σ H' D I q=>ht pins s' _ H' D (I.hide M9 hv) q,kt ⟨H,F,l,λi=>if i=n then some a else none,λb h=>(Cy b h).1⟩ F ((start N vs).set n (some (.ref a))) H (Ff n c xs) (EY n P') _ (oh (M:=⟨P,w,K,ob⟩) sF r hN (by omega) ho Cy) hD ⟨λenv σ F' H' p s1 K1=>?_,λx env v σ F' H' p s1 K1 rv=>?_,λ_ _ _ _ p=>p.elim,λ_ _ _ _ p=>p.elim,λ_ _ _ _ _ _ p=>p.elim,λ_ _ _ _ _ _ _ p=>p.elim⟩⟩
  .exact fin .nE env .nE σ F' H' p s1 K1 .nE
  .exact fin x env v σ F' H' p s1 K1 rv
variable{yT:Addr}{D D':Ai}
theorem nJ(F:w4 P w K mg base ye k yT fd ps (spT ⟨P,w,K,ob⟩ n D))(h:∀c xs P,D' c xs P->D c xs P):w4 P w K mg base ye k yT fd ps (spT ⟨P,w,K,ob⟩ n D') :=
 F.imp λvs H Q E q=>by
  obtain⟨F,a,l,c,xs,P,a1,a2,a3,a4,a5,a6,a7⟩:=q
  exact⟨F,a,l,c,xs,P,a1,a2,a3,a4,a5,h _ _ _ a6,a7⟩
def zh(D:Ai)(j:Nat)(fa:WA):WE:=λenv P=>fa env λxs e=>match e[j]? with
 |some (some ⟨2,c⟩)=>D c xs λr c'=>P r (e.set j (some ⟨2,c'⟩))
 |some (some ⟨4,c⟩)=>D c xs λr c'=>P r (e.set j (some ⟨4,c'⟩))
 |_=>False
variable{X:Cx}{DO:Ai}{p pos:Pos}{e:Expr}{es:List Expr}{fa:WA}
theorem sf(j:Nat)(F:w4 X.prog X.w X.K X.mg X.base ye k yT fd ps (spT (md ob X) n DO))(hr:xw k X.A)(hm:X.mg x=some (.ref yT))(hk:abH X.K (.ref yT)=true)(hb:Binds X.K fd ps [])(ha:CC ob X (e::es) fa)(hn:es.length+1=n:=by rfl)(hg:Gl X x:=by rfl)
  (zR:(x==("__debug__" : Str))=false:=by decide) (he:aam (e::es) X.env=(false,eval e X.env)::aam es X.env:=by rfl) (yt:(backTo pos (aam es X.env)).any (·.1)=false:=by rfl) :
  xu ob X (.Call (.Name x p) (e::es) [] pos) (zh DO j fa):=by
 obtain⟨t,ht,kt⟩:=ha.ex
 refine⟨_,dX (E:=E0) F hr hg hm hk hb .nil B7 ht zR he yt,λZ F σ H env P Q K hf kk=>?_⟩
 refine kt Z F σ H env _ _ K hf λxs e1 vs F1 H1 p hl s1 K1 r1=>?_
 show spT (md ob X) n DO (vs++[]) H1 Q E0
 rw[abh]
 have fin:∀(kd:Nat) (c:PV),kd=2\/kd=4->e1[j]?=some (some ⟨kd,c⟩)->DO c xs (λr c'=>P r (e1.set j (some ⟨kd,c'⟩)))->spT (md ob X) n DO vs H1 Q E0:=λkd c Du ei p=>by
  obtain⟨fp,L⟩:=K1.sl
  obtain⟨v0,AB,ok⟩:=L.at' j _ ei
  rcases ok with ⟨k0,_⟩|⟨k0,_⟩|⟨_,a,rfl,_,ho⟩|⟨k0,_⟩
  .rcases Du with rfl|rfl<;>cases k0
  .rcases Du with rfl|rfl<;>cases k0
  .refine⟨F1,a,fp j,c,xs,_,K1.sF,r1,by rw[hl];exact hn,ho,λb hb=>L.al j b hb,p,λr c' v F' H' l' pr kp pre sF Fv nw BW Ce ER rv=>?_⟩
   exact kk r _ v F' H' pr (ai s1 sF) (K1.EG Du L ei AB kp pre sF Fv nw BW Ce ER).1 rv
  .rcases Du with rfl|rfl<;>cases k0
 split at p
 .rename_i ei;exact fin _ _ (.inl rfl) ei p
 .rename_i ei;exact fin _ _ (.inr rfl) ei p
 .exact p.elim
end Q
namespace Q
open PySem L2 PyProof.Rows PySem.W
def CZ(j i:Nat)(lq:Str)(ln co:Nat)(T:Addr)(f:WE):WE:=λenv P=>f env λx e=>match x,e[i]?,e[j]? with
 |.tup ys,some (some ⟨0,.xv kvs⟩),some (some ⟨2,c⟩)=>∃(ss:List Str) (ks:List (Int×Str)),c=yR lq ln co T/\ys.mapM Bq=some ss/\ss.length<64/\ks.length=ss.length/\(ks.map (·.2)).Nodup /\
  (∀m,m<ss.length->yu kvs (aaq (ss.getD m ⟨#[]⟩))=some (.tup [.int (ks.getD m k0).1,.str (ks.getD m k0).2]))/\∀ix,F9 ks ss.length ix->P (.lst (ix.map λm=>.str (ss.getD m ⟨#[]⟩))) e
 |_,_,_=>False
variable{p:Pos}
theorem gS{q:Pos}(h1:p.line=q.line)(h2:p.col=q.col)(l:List Value):acg p l=acg q l:=by
 fun_induction acg p l with
 |case1 line t col u c rest h=>rw[acg,<- h1,<- h2,if_pos h]
 |case2 line t col u c rest h ih=>rw[acg,<- h1,<- h2,if_neg h];exact ih
 |case3 l h=> 
  unfold acg
  split
  .rename_i a b c d e f
   exact absurd rfl (h _ _ _ _ _ _)
  .rfl
variable{α:Type}
theorem qR{l:List α}{j:Nat}{y:α}(h:l[j]?=some y):l.set j y=l:=by
 apply ab7
 intro i
 by_cases z:j=i
 .subst z
  rw[abF (List.getElem?_eq_some_iff.mp h).1,h]
 .rw[aau z]
variable{a:Addr}
theorem sP{lq Le:Str}{ln MB co NU:Nat}{b:Addr}(h:yR lq ln co a=yR Le MB NU b):lq=Le/\ln=MB/\co=NU/\a=b:=by
 unfold yR at h
 injection h with h
 injection h with h1 h
 injection h with h2 h
 injection h with h3 h
 injection h with h4 _
 injection h1 with h1
 injection h2 with h2
 injection h3 with h3
 injection h4 with h4
 exact⟨h1,by omega,by omega,by exact Int.ofNat.inj h4⟩
variable{X:Cx}{lq d x:Str}{wY p1 p2 p3 zd pos:Pos}{T c:Addr}{params:Arguments}{scope:Scope}{e:Expr}{f:WE}{i j k:Nat}{ob:xV}
theorem se(j i:Nat)(S:DB x d params scope)(S2:DD d params scope)(hr:xw k X.A)(hg:Gl X "sorted")(hm:X.mg "sorted" = none)(hq:X.env.qual ++ "<lambda>" = lq)(Bx:X.env.code=.ref c)(hC:abO X.K c T=true)(hB:BMain X.mg X.base)
  (hi:X.N[i]?=some d) (hd:X.env.kindOf d=some .cell) (hv:D3 X.env.scope d) (ha:xu ob X e f) (EO:ob=zA X.K:=by rfl)
  (hs:aam [e] X.env=(false,eval e X.env)::aam [] X.env:=by rfl)
  (h1:backTo pos (aam [e] X.env)=(false,eval e X.env)::backTo pos (aam [] X.env):=by rfl) (h2:(backTo pos (aam [e] X.env)).any (·.1)=false:=by rfl) :
  C8 ob X (.Call (.Name "sorted" p) [e] [⟨some "key",.Lambda params (.Subscript (.Name d p1) (.Name x p2) p3) scope wY,zd⟩] pos) (CZ j i lq wY.line wY.col T f):=by
 subst EO
 obtain⟨te,MW,MH⟩:=ha.ex
 refine⟨_,rh (i:=i) S S2 hr hg hm hq Bx hC hB hi hd hv MW hs h1 h2,λZ F σ H env Pp Q K hf kk=>?_⟩
 refine MH Z F σ H env _ _ K hf λy e1 v F1 H1 p s1 K1 r1=>?_
 split at p
 case h_2=>exact p.elim
 rename_i ys kvs cc ei ej
 obtain⟨ss,ks,rfl,Qy,zS,l2,nd,HC,p⟩:=p
 cases r1 with
 |tup hl QC=>
 have:=cX jl Qy QC
 subst this
 obtain⟨fp,L⟩:=K1.sl
 obtain⟨vr,hσ,Qe⟩:=L.at' i _ ei
 obtain⟨dd,Eg,rfl,Kf,rk⟩:∃dd Eg,vr=.ref dd/\F1 dd=some (.dK Eg)/\lE X.K F1 Eg kvs:=by
  rcases Qe with ⟨_,_,r⟩|⟨q,_⟩|⟨q,_⟩|⟨q,_⟩
  .cases r with
   |xv a b=>exact⟨_,_,rfl,a,b⟩
  .cases q
  .rcases q with q|q<;>cases q
  .cases q
 obtain⟨vt,hσt,Qd⟩:=L.at' j _ ej
 obtain⟨rfl,ps,EM,EL,OD⟩:vt=.ref T/\∃ps:Array Value,H1 T=some (yw T ps)/\TriplesOk ps.toList/\((fp j=[T]/\acg wY ps.toList=none)\/∃c',c'≠T/\fp j=[T,c']/\acg wY ps.toList=some (.ref c')/\H1 c'=some (yB c' lq)):=by
  rcases Qd with ⟨q,_⟩|⟨q,_⟩|⟨_,a,rfl,_,ho⟩|⟨q,_⟩
  .cases q
  .cases q
  .rcases ho with (⟨q,_⟩|⟨_,_,q,_⟩)|⟨_,q,_⟩|⟨Le,ln,co,ps,q,t1,t2,t3⟩|⟨_,_,_,_,_,q,_⟩
   .cases q
   .cases q
   .cases q
   .obtain⟨rfl,e2,e3,rfl⟩:=sP q
    refine⟨rfl,ps,t1,t2,?_⟩
    have ec:∀l,acg ⟨ln,co,0,0⟩ l=acg wY l:=gS e2.symm e3.symm
    rcases t3 with ⟨g1,g2⟩|⟨c',g1,g2,g3,g4⟩
    .exact .inl ⟨g1,(ec _).symm.trans g2⟩
    .exact .inr ⟨c',g1,g2,(ec _).symm.trans g3,g4⟩
   .unfold yR at q;simp at q
  .cases q
 have Ny:T∈fp j:=by
  rcases OD with ⟨q,_⟩|⟨_,_,q,_⟩<;>rw[q]<;>simp
 have O4:F1 T=none:=(L.al j T Ny).2
 have ex:∀m:Nat,∃a:Addr,m<ss.length->yP Eg (aaq (ss.getD m ⟨#[]⟩))=some (.ref a)/\yI X.K F1 a [.int (ks.getD m k0).1,.str (ks.getD m k0).2]:=λm=>by
  by_cases hm:m<ss.length
  .have hv:=HC m hm
   rcases rk.val (k:=aaq (ss.getD m ⟨#[]⟩))with ⟨_,q⟩|⟨v,x,q1,q2,q3⟩
   .rw[q]at hv;cases hv
   .rw[hv]at q2;cases q2
    cases q3 with
    |tup g1 g2=>
     cases g2 with
     |cons g2 g3=>cases g3 with
      |cons g3 g4=>cases g4;cases g2;cases g3;exact⟨_,λ_=>⟨q1,g1⟩⟩
  .exact⟨0,λh=>absurd h hm⟩
 obtain⟨g,OV⟩:=Classical.axiomOfChoice ex
 have Sg:∀m,m<ss.length->((aaR ss.length).map g).getD m 0=g m:=λm hm=>by
  rw[aag,aai,abT hm];rfl
 refine⟨_,ss,dd,Eg,(aaR ss.length).map g,ks,rfl,aw K1.sF hl,zS,hσ,K1.sF _ _ Kf,by simp,l2,nd,λm hm=>?_,ps,EM,EL,?_⟩
 .rw[Sg m hm]
  exact⟨(OV m hm).1,aw K1.sF (OV m hm).2⟩
 have Jp:∀ix:List Nat,iF X.K F1 (ix.map λm=>V.str (ss.getD m ⟨#[]⟩)) (ix.map λm=>PV.str (ss.getD m ⟨#[]⟩)):=λix=>by
  induction ix with
  |nil=>exact .nil
  |cons a r ih=>exact .cons (.str _) ih
 rcases OD with ⟨Lu,GD⟩|⟨c',yq,Lu,J0,HP⟩
 .refine .inl ⟨GD,λc' f' ob a1 a2 a3 a4 a5 _ D ix hD ok=>?_⟩
  have old:∀b o,H1 b=some o->b≠T->(upd (upd (upd H1 T (yw T (ps++#[rawInt wY.line,rawInt wY.col,.ref c']))) c' (yB c' lq)) f' (Aq f' ob)) b=some o:=λb o hb Nx=>by
   rw[af (aq hb a2),af (aq hb a1),af Nx];exact hb
  have eT:(upd (upd (upd H1 T (yw T (ps++#[rawInt wY.line,rawInt wY.col,.ref c']))) c' (yB c' lq)) f' (Aq f' ob)) T=some (yw T (ps++#[rawInt wY.line,rawInt wY.col,.ref c'])):=by
   rw[af (abv a5),af (abv a4),ag]
  have eC:(upd (upd (upd H1 T (yw T (ps++#[rawInt wY.line,rawInt wY.col,.ref c']))) c' (yB c' lq)) f' (Aq f' ob)) c'=some (yB c' lq):=by
   rw[af a3,ag]
  generalize (upd (upd (upd H1 T (yw T (ps++#[rawInt wY.line,rawInt wY.col,.ref c']))) c' (yB c' lq)) f' (Aq f' ob))=H2 at hD old eT eC ⊢
  have tl:(ps++#[rawInt wY.line,rawInt wY.col,aaM c']).toList=ps.toList++[rawInt wY.line,rawInt wY.col,aaM c']:=by simp
  have K2:=(K1.EG (.inl rfl) L ej hσt (l':=[T,c']) (F':=F1) (H':=H2) (c':=yR lq wY.line wY.col T) (λb o hb hn=>old b o hb λz=>hn (z ▸ Ny)) (λb hb=>?_) aj (λb o hb=>old b o (K1.sF b o hb) λz=>by rw[z,O4]at hb;cases hb) (λb hb=>.inl hb)
   (.inr (.inr (.inl ⟨lq,wY.line,wY.col,_,rfl,eT,by rw[tl];exact TriplesOk_snoc _ _ _ _ EL,.inr ⟨c',a4,rfl,by rw[tl];exact(gS (p:=⟨wY.line,wY.col,0,0⟩) (q:=wY) rfl rfl _).trans (codeAmong_snoc _ EL GD),eC⟩⟩))) (λb hb=>?_) (λb hb=>?_)).1
  .rw[qR ej]at K2
   exact kk _ e1 _ F1 _ (p ix ok) s1 (λ_=>by simp) (K2.own hD ⟨_,ag,Jp ix⟩)
  .by_cases z:b=T
   .rw[z,eT];simp
   .obtain⟨o,ho⟩:=b8 hb
    rw[old b o ho z];simp
  .rcases List.mem_cons.mp hb with rfl|hb
   .exact⟨by rw[eT];simp,O4⟩
   .rw[List.mem_singleton.mp hb]
    exact⟨by rw[eC];simp,dO.none_of K1.sF a1⟩
  .rcases List.mem_cons.mp hb with rfl|hb
   .exact .inl Ny
   .rw[List.mem_singleton.mp hb];exact .inr a1
 .refine .inr ⟨c',J0,HP,λf' ob a1 _ D ix hD ok=>?_⟩
  have sH:dO H1 (upd H1 f' (Aq f' ob)):=ay a1
  have K2:=K1.move aj (ai K1.sF sH) sH λ_ h=>.inl h
  exact kk _ e1 _ F1 _ (p ix ok) s1 (λ_=>by simp) (K2.own hD ⟨_,ag,Jp ix⟩)
end Q
namespace L2
open PySem PySem.Spec PyProof.Rows
variable{P:aaB}{w:World}{K:aah}{mg:Str->Option Value}{k:Nat}{a T:Addr}{fd:abA}{x:Str}{sp:Sp}{vs:List Value}
theorem pX{mb:Str->Option Value}{fa c:Addr}{s₁:Shared}{ns:List Int}
  (KX:K.In s₁.heap) (Fe:s₁.heap.Ns aaQ mg) (hb:s₁.heap.Ns aeF mb) (Rh:∀x:Str,x ≠ "__name__" -> mb x=aco x) (HI:s₁.heap.NoLimit) (hg:s₁.gens=#[])
  (ha:s₁.heap.get? a=some {cls:=.type "list",data:=.seq vs.toArray}) (hi:IntsAre vs ns) (hl:ns.length<=sizeLine) (hr:xw k afd) (hC:abO K c T=true) (hT:s₁.heap.get? T=some (adA #[])) (hKT:K.lookup T=none) (hB:BMain mg s₁.heap)
  (F:∀base:Heap,K.In base->base.Ns aaQ mg->BMain mg base->w4 P w K mg base ye k fa fd [x] sp) (Ki:∀(s:Shared) (u:Value),BindsTo s fd ⟨[u],[]⟩ [(x,u)])
  (Fc:∀H:Hp,yf K H a (ns.map V.int)->H T=some (yw T #[])->sp [.ref a] H (λv H'=>v=.bl true/\∃ps,H' T=some (yw T ps)) λ_ _ _=>False) :
  adi (model P w) afd (.call (.ref fa) ⟨[.ref a],[]⟩) (λr s'=>r=.ok (.ret (.bool true))/\OldK s₁.heap s'.heap/\s'.os=s₁.os/\aet s'.gens) s₁:=by
 have rv:=fB hi
 have MC:=hi.length
 have OY:a≠T:=λz=>by rw[z,hT]at ha;cases ha
 have core:∀H:Hp,(∀b,H b=none\/(∃o xs,H b=some (.yG o (.lst xs)))\/b=T)->yf K H a (ns.map V.int)->H T=some (yw T #[])->zl P w H s₁.heap->(∀b,H b≠none->b=a\/b=T)->(H a≠none->K.lookup a=none) ->
   adi (model P w) afd (.call (.ref fa) ⟨[.ref a],[]⟩) (λr s'=>r=.ok (.ret (.bool true))/\OldK s₁.heap s'.heap/\s'.os=s₁.os/\aet s'.gens) s₁:=by
  intro H hO hS NB wU hA hK
  have BR:∀{b:Addr} {o:Obj},s₁.heap.get? b=some o->H b=none->(Bk s₁.heap H).get? b=some o:=λe n=>rV e n
  have plain:∀{b:Addr} {o:Obj},s₁.heap.get? b=some o->o≠{cls:=.type "list",data:=.seq vs.toArray}->o≠adA #[]->H b=none:=λ{b o} e n1 n2=>by
   cases q:H b with
   |none=>rfl
   |some u=>
    rcases hA b (by rw[q];simp)with z|z
    .rw[z,ha]at e;cases e;exact absurd rfl n1
    .rw[z,hT]at e;cases e;exact absurd rfl n2
  have JF:∀{b:Addr} {o:Obj} {es:Array DictEntry} {ep:Nat},s₁.heap.get? b=some o->o.data=.dict es ep->H b=none:=λ{b o es ep} e d=>plain e (λz=>by rw[z]at d;cases d) (λz=>by rw[z]at d;cases d)
  have La:∀{b:Addr} {m:Str->Option Value},s₁.heap.Ns b m->(Bk s₁.heap H).Ns b m:=λ{b m} ⟨o,es,ep,e,d,r⟩=>⟨o,es,ep,BR e (JF e d),d,r⟩
  have O2:K.In (Bk s₁.heap H):=λb o e=>BR (KX b o e) (by
   cases q:H b with
   |none=>rfl
   |some u=>
    rcases hA b (by rw[q];simp)with z|z
    .subst z
     rw[hK (by rw[q];simp)]at e;cases e
    .rw[z,hKT]at e;cases e)
  have RD:BMain mg (Bk s₁.heap H):=by
   obtain⟨bm,o,b1,b2,b3,b4,b5,b6⟩:=hB.ex
   exact⟨bm,o,b1,b2,BR b3 (plain b3 (λz=>by rw[z]at b6;cases b6) (λz=>by rw[z]at b6;cases b6)),b4,b5,b6⟩
  have hM:Mod K mg (Bk s₁.heap H):=⟨O2,La Fe,⟨mb,La hb,Rh⟩,let ⟨mc,h1,h2⟩:=HI;⟨mc,La h1,h2⟩⟩
  have e0:Gc P w K mg (Bk s₁.heap H) afd [] s₁ H:=⟨rfl,hM,λb o e=>tR e,aeT (qi _ _),trivial,λb hb=>absurd (show b∈([]:List Addr)from hb) (by simp),wU,.of_eq hg⟩
  refine adt ((F _ O2 (La Fe) RD).run afd [] s₁ H ⟨[.ref a],[]⟩ [.ref a] [.ref a] _ _ hr e0 (Ki s₁ (.ref a)) (.cons rfl .nil) (Fc H hS NB)) λr s' h=>?_
  cases r with
  |error e=>exact(show False from h).elim
  |ok fl=>
   cases fl with
   |next=>exact acH h
   |brk=>exact acH h
   |cont=>exact acH h
   |ret u=>
    obtain⟨v,H',os,bare,un,J3,r',q,ps,Rt⟩:=h
    subst q
    obtain rfl:u=Value.bool true:=r'
    have gT:s'.heap.get? T=some (adA ps):=(J3 T _ Rt).1
    have keep:∀b o,s₁.heap.get? b=some o->b≠T->s'.heap.get? b=some o:=λb o e Nx=>by
     cases q:H b with
     |none=>exact un.keep b o e q (by intro z;exact absurd (show b∈([]:List Addr)from z) (by simp)) (by simp)
     |some u=>
      rcases hO b with z|⟨ob,xs,z⟩|z
      .rw[q]at z;cases z
      .have z2:=un.A0 b ob _ z
       obtain⟨e1,_⟩:=wU b _ z
       obtain⟨e2,_⟩:=J3 b _ z2
       rw[e]at e1;cases e1
       exact e2
      .exact absurd z Nx
    have C:=PySem.W.codeHd_of_K KX hC
    refine⟨rfl,⟨λb o e=>?_,λb o e=>?_⟩,os,bare⟩
    .by_cases z:b=T
     .subst z
      rw[hT]at e;cases e
      exact .inr (.inl ⟨(C.tab hT).isCodeTable,rfl,#[],ps,rfl,by rw[Array.empty_append];exact gT⟩)
     .exact .inl (keep b o e z)
    .by_cases z:b=T
     .subst z;exact⟨_,gT⟩
     .exact⟨o,keep b o e z⟩
 cases hk:K.lookup a with
 |some o=>
  have e:=KX a o hk
  rw[ha]at e
  cases e
  refine core (λb=>if b=T then some (yw T #[])else none) (λb=>?_) (.inr ⟨_,vs.toArray,_,hk,rfl,rfl,rfl,by rw[aae,MC];exact hl,by simpa using rv⟩) (if_pos rfl) (λb u z=>?_) (λb z=>?_) λz=>absurd (if_neg OY) z
  .by_cases hb:b=T
   .exact .inr (.inr hb)
   .exact .inl (if_neg hb)
  .by_cases hb:b=T
   .have z':=(if_pos hb).symm.trans z
    cases z'
    subst hb
    exact lh hT
   .have z':=(if_neg hb).symm.trans z
    cases z'
  .by_cases hb:b=T
   .exact .inr hb
   .exact absurd (if_neg hb) z
 |none=>
  refine core (λb=>if b=T then some (yw T #[])else if b=a then some (.yG {cls:=.type "list",data:=.seq vs.toArray} (.lst (ns.map V.int)))else none) (λb=>?_) (.inl (.inr ⟨{cls:=.type "list",data:=.seq vs.toArray},(if_neg OY).trans (if_pos rfl)⟩)) (if_pos rfl) (λb u z=>?_) (λb z=>?_) λ_=>hk
  .by_cases hb:b=T
   .exact .inr (.inr hb)
   .by_cases Cz:b=a
    .exact .inr (.inl ⟨_,_,(if_neg hb).trans (if_pos Cz)⟩)
    .exact .inl ((if_neg hb).trans (if_neg Cz))
  .by_cases hb:b=T
   .have z':=(if_pos hb).symm.trans z
    cases z'
    subst hb
    exact lh hT
   .have z:=(if_neg hb).symm.trans z
    by_cases Cz:b=a
    .have z:=(if_pos Cz).symm.trans z
     cases z
     subst Cz
     exact⟨ha,by rw[aad];exact hl,vs,_,rv,ha⟩
    .have z:=(if_neg Cz).symm.trans z
     cases z
  .by_cases hb:b=T
   .exact .inr hb
   .by_cases Cz:b=a
    .exact .inl Cz
    .exact absurd ((if_neg hb).trans (if_neg Cz)) z
variable{n:Nat}
theorem qM{l:afg}{q:aaB}{loose:List Str}{XP:(Str->Option Value)->Heap->Prop}{YP:World->Heap->Prop}{d:DefRec}{K:Params->aah}{sp:World->Sp}
  (hn:l.most=some n) (Nd:n<=sizeLine) (Ke:d.params.defaults=[]) (hr:xw k afd)
  (hY:∀(w:World) (h:Heap),YP w h->(K w.params).In h/\h.get? T=some (adA #[])) (hKT:∀w:World,(K w.params).lookup T=none)
  (F:∀(w:World) (mg:Str->Option Value) (fa:Addr) (h:Heap),(K w.params).In h->h.Ns aaQ mg->mg d.name=some (.ref fa) ->
   ∃fd:abA,(∀(s:Shared) (u:Value),BindsTo s fd ⟨[u],[]⟩ [(x,u)])/\(∃c,abO (K w.params) c T=true) /\
    ∀base:Heap,(K w.params).In base->base.Ns aaQ mg->BMain mg base->w4 l.prog w (K w.params) mg base ye k fa fd [x] (sp w))
  (Fc:∀(w:World) (H:Hp) (a:Addr) (ns:List Int),ns.length<=n->yf (K w.params) H a (ns.map V.int)->H T=some (yw T #[])->sp w [.ref a] H (λv H'=>v=.bl true/\∃ps,H' T=some (yw T ps)) λ_ _ _=>False) :
  PySem.W.WalkO q loose XP YP l.row.toRowW d [] (λf vs=>PySem.call f vs):=by
 refine Att.Cp hn Ke λw s₀ s₁ mg mb fa o pm cd doc a vs ns G Y ho hd hcd hmg HH hints hlen hg=>?_
 obtain⟨KX,hT⟩:=hY w _ Y
 obtain⟨fd,hb,⟨c,hC⟩,hF⟩:=F w mg fa _ KX G.T.g hmg
 have hB:BMain mg s₁.heap:=by
  obtain⟨bm,ob,b1,b2,b3,b4,b5,b6⟩:=G.T.bmain
  exact⟨bm,ob,b1,b2,b3,b4,b5,b6⟩
 exact pX KX G.T.g G.T.b G.T.builtins G.T.nolimit hg HH hints (aaX hlen Nd) hr hC hT (hKT w) hB hF hb (λH hS NB=>Fc w H a ns hlen hS NB)
end L2
namespace Q
open PySem L2 PyProof.Rows
def AI(K:aah)(T:Addr):Sp:=λvs H Q _=>∃(a:Addr) (ns:List Int),vs=[.ref a]/\yf K H a (ns.map V.int)/\ns.length<=63/\H T=some (yw T #[])/\∀(H':Hp) (ps:Array Value),H' T=some (yw T ps)->Q (.bl true) H'
variable{P:aaB}{w:World}{K:aah}{mg:Str->Option Value}{base:Heap}{D:Ai}{k:Nat}{yT:Addr}{fd:abA}{ps:List Str}
theorem t9{T:Addr}{lq:Str}{ln co:Nat}(F:w4 P w K mg base ye k yT fd ps (spT ⟨P,w,K,zA K⟩ 1 D))
  (h:∀(ns:List Int) (x:PV),ns.length<=63->(x=.y6 ns\/x=.lst (ns.map .int))->D (yR lq ln co T) [x] λr c=>r=.bl true/\c=yR lq ln co T):w4 P w K mg base ye k yT fd ps (AI K T):=by
 refine F.imp λvs H Q E q=>?_
 obtain⟨a,ns,rfl,hs,hn,hT,kq⟩:=q
 let F0:Hp:=λb=>if b=T then none else H b
 have sF:dO F0 H:=λb o e=>by
  by_cases z:b=T
  .have:=(if_pos z).symm.trans e;cases this
  .exact(if_neg z).symm.trans e
 have f0:∀b o,H b=some o->b≠T->F0 b=some o:=λb o e z=>(if_neg z).trans e
 have fin:∀x,(x=.y6 ns\/x=.lst (ns.map .int))->Rep K F0 (.ref a) x->spT ⟨P,w,K,zA K⟩ 1 D [.ref a] H Q E:=λx hx r=>
  ⟨F0,T,[T],yR lq ln co T,[x],_,sF,.cons r .nil,rfl,.inr (.inr (.inl ⟨lq,ln,co,#[],rfl,hT,trivial,.inl ⟨rfl,rfl⟩⟩)),λb hb=>by rw[List.mem_singleton.mp hb];exact⟨by rw[hT];simp,if_pos rfl⟩,h ns x hn hx,λr c' v F' H' l' e _ _ _ _ _ ho _ _ rv=>by
   obtain⟨rfl,rfl⟩:=e
   cases rv
   rcases ho with (⟨q,_⟩|⟨_,_,q,_⟩)|⟨_,q,_⟩|⟨Le,MB,NU,w8,q,t1,_⟩|⟨_,_,_,_,_,q,_⟩
   .cases q
   .cases q
   .cases q
   .exact kq H' w8 t1
   .unfold yR at q;simp at q⟩
 rcases hs with (hs|⟨o,hs⟩)|hs
 .exact fin _ (.inr rfl) (.lst (f0 _ _ hs λz=>by rw[z,hT]at hs;cases hs) (cB ns))
 .exact fin _ (.inl rfl) (.y6 (.inl ⟨o,f0 _ _ hs λz=>by rw[z,hT]at hs;cases hs⟩))
 .exact fin _ (.inl rfl) (.y6 (.inr hs))
end Q
namespace L2
open PySem PySem.Spec PyProof.Rows
variable{X:Cx}{pins:List (Addr×Obj)}{σ:St}{H:Hp}{s:Shared}{d:Addr}{kvs:List (Key×V)}{o:Obj}
theorem Inv.Fs(I:Inv X pins σ H s)(e:H d=some (.dK kvs))(ho:s.heap.get? d=some o):Inv X pins σ (upd H d (.yG o (.dK kvs))) s:=by
 have un:Un X.fs [] H (upd H d (.yG o (.dK kvs))) s.heap s.heap:=by
  refine⟨λb u q n _ _=>q,λb u q n _ _=>⟨u.slots,q⟩,λb u q n _=>?_,λb u q _=>⟨u,q⟩,λb xs q=>?_,λb u v q=>?_,λb qs q=>⟨#[],?_⟩⟩
  .rw[af (λz=>by rw[z,e]at n;cases n)];exact n
  .rw[af (λz=>by rw[z,e]at q;cases q)];exact q
  .rw[af (λz=>by rw[z,e]at q;cases q)];exact q
  .rw[af (λz=>by rw[z,e]at q;cases q),q];simp
 have wU:zl X.prog X.w (upd H d (.yG o (.dK kvs))) s.heap:=λb u q=>by
  have st:∀c v,H c=some v->xa X.prog X.w (upd H d (.yG o (.dK kvs))) s.heap c v:=λc v hc=>
   (I.wU c v hc).AH (λ_ _ _ g=>g) (λx hx=>by rw[af (λz=>by rw[z,e]at hx;cases hx)];exact hx) λx xs hx=>by rw[af (λz=>by rw[z,e]at hx;cases hx)];exact hx
  by_cases z:b=d
  .subst z
   rw[ag]at q;cases q
   exact⟨ho,st b _ e⟩
  .rw[af z]at q
   exact st b u q
 have:=I.un (t':=s.toks) un wU
 exact this
def N3(d:Addr)(o:Obj)(kvs:List (Key×V)):It :=
 ⟨λi H=>H d=some (.yG o (.dK kvs))/\i<kvs.length,
  λi H v H'=>∃p k x,v=.ref p/\H p=none/\H'=upd H p (.tup [kV k,x])/\kvs[i]?=some (k,x),
  λi H=>H d=some (.yG o (.dK kvs))/\kvs.length<=i⟩
variable{vs:List (Key×Value)}
theorem pZ(r:KV kvs vs):∀{i:Nat} {k:Key} {x:V},kvs[i]?=some (k,x)->∃u,vs[i]?=some (k,u)/\RelV x u:=by
 induction r with
 |nil=>intro i k x e;simp at e
 |@cons p q ps qs h t ih=>
  intro i k x e
  cases i with
  |zero=>
   simp only[acf,aeH]at e
   subst e
   obtain⟨k',u⟩:=q
   obtain⟨h1,h2⟩:=h
   dsimp only at h1 h2
   subst h1
   exact⟨u,rfl,h2⟩
  |succ i=>
   simp only[acN]at e ⊢
   exact ih e
variable{P:aaB}{w:World}{K:aah}{pos:Pos}{it:Addr}{ep:Nat}
theorem n8{elts:List Expr}{x1:_}{es:Array DictEntry}(r:KV kvs vs)(hx:o.ExactDict)(AY:o.data=.dict es ep)(hk:KeysOf (aA P w) es)(hp:Pairs (aA P w) es.toList vs)(hn:(vs.map (·.1)).Nodup):
  Turn P w K (.Tuple elts x1 pos) (N3 d o kvs) [it] it (λn h=>∃a b,IsItemIter h it d n vs.length ep a b) where
 mem:=by simp
 obj:=λn h ⟨a,b,Z⟩ c hc=>by
  rw[List.mem_singleton.mp hc]
  exact⟨_,Z,λv e=>by cases (show adS _=Data.cell v from e)⟩
 keep:=λn h h' ⟨a,b,Z⟩ k=>⟨a,b,k it (by simp) _ Z⟩
 item:=by
  intro X hP hw hK hc n pins s σ H E I hf Z hg
  subst hP hw hK
  obtain⟨ka,kb,Z⟩:=Z
  obtain⟨hd,xA⟩:=hg
  have ho:s.heap.get? d=some o:=(I.wU d _ hd).1
  have D:s.heap.DictAt (aA X.prog X.w) d vs ep:=⟨o,es,ho,hx,AY,hk,hp,hn⟩
  obtain⟨⟨k,x⟩,Kc⟩:∃q,kvs[n]?=some q:=⟨_,aaa xA⟩
  obtain⟨u,hu,ru⟩:=pZ r Kc
  have Dv:H s.heap.objs.size=none:=I.wU.fresh (aak _)
  have HL:it<s.heap.objs.size:=aaj Z
  have QN:s.heap.objs.size≠it:=aca HL
  refine wpAny_pyNext_items_item Z D hu λkey h' q1 q2 q3 q4 kk=>?_
  have rk:RelV (kV k) key:=by
   rcases aM q1 with ⟨i,t,rfl,rfl⟩|⟨y,t,rfl,rfl⟩
   .exact⟨t,rfl⟩
   .exact⟨t,rfl⟩
  refine⟨_,rfl,wpAny_letOwnedTupleGo_items (s:={s with heap:=h'}) q2 λh2 w1 w2=>?_⟩
  have I1:Inv X pins σ (upd H s.heap.objs.size (.tup [kV k,x])) {s with heap:=s.heap.push {cls:=.type "tuple",data:=.seq #[key,u]}} :=
   I.laid (t':=s.toks) (λb u e=>aac _ e) (aak _) ⟨by show 2<=sizeLine;decide,[key,u],.cons rk (.cons ru .nil),⟨_,aal _ rfl,rfl,_,rfl⟩⟩
  have Lv:∀c∈[it],zJ X pins (upd H s.heap.objs.size (.tup [kV k,x])) c:=λc hc=>by
   rw[List.mem_singleton.mp hc]
   have:=hf it (by simp)
   exact⟨by rw[af (abv QN)];exact this.1,this.2⟩
  have I2:Inv X pins σ (upd H s.heap.objs.size (.tup [kV k,x])) {s with heap:=h2}:=by
   refine I1.Dc (t':=s.toks) (h':=h2) (λc q hc e=>?_) Lv
   have OX:c≠it:=λe=>hc (by simp[e])
   refine w2.extBut _ _ OX ?_
   by_cases HN:c=s.heap.objs.size
   .subst HN
    have:(s.heap.push {cls:=.type "tuple",data:=.seq #[key,u]}).get? s.heap.objs.size=some {cls:=.type "tuple",data:=.seq #[key,u]}:=aal _ rfl
    have e':some {cls:=.type "tuple",data:=.seq #[key,u]}=some q:=this.symm.trans e
    rw[<- e'];exact q3
   .exact kk c q OX ((Heap.get?_push_ne _ _ _ HN).symm.trans e)
  exact⟨.ref s.heap.objs.size,_,I2,rfl,⟨_,k,x,rfl,Dv,rfl,Kc⟩,⟨_,_,w1⟩,λc hc=>(Lv c hc).1⟩
 done:=by
  intro X hP hw hK hc n pins s σ H E I hf Z hg
  subst hP hw hK
  obtain⟨ka,kb,Z⟩:=Z
  obtain⟨hd,hle⟩:=hg
  have ho:s.heap.get? d=some o:=(I.wU d _ hd).1
  have D:s.heap.DictAt (aA X.prog X.w) d vs ep:=⟨o,es,ho,hx,AY,hk,hp,hn⟩
  have hl:=r.length
  refine wpAny_pyNext_items_end (I.ok.hd hc) Z D (aan (by omega)) λh' kk=>⟨rfl,I.Dc (t':=s.toks) (λc q hc e=>kk c q (λz=>hc (by simp[z])) e) hf⟩
 self:=λ_ _ _ _ _ ⟨_,_,Z⟩ h=>PySem.W.kcp_self Z h
def HB(to:TE):TI:=λσ H R=>to σ H λv H1=>∃d kvs,v=.ref d/\H1 d=some (.dK kvs)/\∀o,R (N3 d o kvs) (upd H1 d (.yG o (.dK kvs)))
variable{to:TE}
theorem rg{elts:List Expr}{x1:_}{Ek:Pos}{o:Expr}{apos:Pos}(ho:PE X o to)
  (x3:abW o "items" X.env (eval o X.env)=eval o X.env:=by rfl) (xY:(apos.endLine==pos.line)=true:=by rfl) :
  PI X (.Tuple elts x1 Ek) (.Call (.Attribute o "items" apos) [] [] pos) (HB to):=by
 intro pins s σ H R I h
 refine wpAny_Call_method0_late x3 xY (xH (ho pins s σ H _ I h) λv s1 ⟨x,H1,I1,r1,q1⟩=>?_)
 obtain⟨d,kvs,ex,hd,q1⟩:=q1
 subst ex
 cases r1
 obtain⟨t1,t2,t3⟩:=vK I1 (.inl ⟨kvs,.inl hd⟩)
 refine⟨"dict", "dict.items",PySem.F.plainAttrs_dict,PySem.F.slot_dict_items,PySem.F.type_dict_items,t1,t2,acT rfl (PySem.evalArgs_none ?_)⟩
 obtain⟨hz,_,vs,rel,dd⟩:=gn I1.wU hd
 refine call_meetsIn PySem.F.slot_dict_items dd.typeIs PySem.F.entry_dict_items (PySem.F.args_dict_items_1 _) (meets_dict_items (aA X.prog X.w) d t3) ⟨⟨vs,dd⟩,?_⟩
 obtain⟨o,es,ep,ho,hx,AY,hk,hp,hn⟩:=dd
 have D:s1.heap.DictAt (aA X.prog X.w) d vs ep:=⟨o,es,ho,hx,AY,hk,hp,hn⟩
 refine wpAny_pyIter_items (s:={s1 with heap:=s1.heap.push {cls:=.type "dict_items",data:=.fields #[.ref d]}}) (v:=s1.heap.objs.size) (d:=d) ⟨_,aal _ rfl,rfl,rfl⟩ (D.push _) ?_
 have I2:Inv X pins σ H1 {s1 with heap:=(s1.heap.push {cls:=.type "dict_items",data:=.fields #[.ref d]}).push {cls:=.type "dict_itemiterator",data:=.fields #[.none,.bool false,.ref d,.int 0 0,.int vs.length 0,.int ep 0,.none,.none]}} :=
  I1.kept (t':=s1.toks) λb u e=>aac _ (aac _ e)
 have I3:=I2.Fs hd (o:=o) (aac _ (aac _ ho))
 have hsz:(s1.heap.push {cls:=.type "dict_items",data:=.fields #[.ref d]}).objs.size=s1.heap.objs.size+1:=abC ..
 have FI:s1.heap.objs.size<=(s1.heap.push {cls:=.type "dict_items",data:=.fields #[.ref d]}).objs.size:=by omega
 have Dw:H1 (s1.heap.push {cls:=.type "dict_items",data:=.fields #[.ref d]}).objs.size=none:=I1.wU.fresh FI
 refine⟨_,[_],_,_,_,rfl,I3,n8 (it:=(s1.heap.push {cls:=.type "dict_items",data:=.fields #[.ref d]}).objs.size) rel hx AY hk hp hn,⟨_,_,aal _ rfl⟩,λb hb=>?_,q1 o⟩
 rw[List.mem_singleton.mp hb]
 exact I1.DW FI (by rw[af (λz=>by rw[z,hd]at Dw;cases Dw)];exact Dw)
end L2
namespace Q
open PySem L2 PyProof.Rows
def kP:Key->PV
 |.inl i=>.int i
 |.inr x=>.str x
def B8(q:Key×PV):PV:=.tup [kP q.1,q.2]
variable{K:aah}{F:Hp}
theorem qe:∀k:Key,Rep K F (kV k) (kP k)
 |.inl i=>.int i
 |.inr x=>.str x
variable{vs:List (Key×V)}{xs:List (Key×PV)}
theorem lE.get(h:lE K F vs xs):∀{i:Nat} {k:Key} {x:PV},xs[i]?=some (k,x)->∃v,vs[i]?=some (k,v)/\Rep K F v x:=by
 induction h using lE.ind with
 |nil=>intro i k x e;simp at e
 |cons a r ih=>
  intro i k x e
  cases i with
  |zero=>
   simp only[acf,aeH,Prod.mk.injEq]at e ⊢
   obtain⟨rfl,rfl⟩:=e
   exact⟨_,⟨rfl,rfl⟩,a⟩
  |succ i=>
   simp only[acN]at e ⊢
   exact ih e
variable{M:Md}{o:Obj}
theorem vJ{d:Addr}(h:F d=some (.yG o (.dK vs)))(r:lE M.K F vs xs):C4 M (N3 d o vs) F (xs.map B8):=by
 refine⟨λZ i σ env F' H x s K e=>?_,λZ i σ env F' H s K hl=>⟨K.sF _ _ (s _ _ h),by rw[r.len];simpa using hl⟩⟩
 rw[aai]at e
 cases ez:xs[i]? with
 |none=>rw[ez]at e;cases e
 |some q=>
  rw[ez]at e
  obtain⟨k,y⟩:=q
  have e:x=B8 (k,y):=(aao e).symm
  subst e
  obtain⟨v,hv,rv⟩:=r.get ez
  refine⟨⟨K.sF _ _ (s _ _ h),(List.getElem?_eq_some_iff.mp hv).1⟩,λv' H' y'=>?_⟩
  obtain⟨p,k',x',rfl,hp,rfl,q⟩:=y'
  rw[hv]at q;cases q
  have hF:F' p=none:=dO.none_of K.sF hp
  refine⟨upd F' p (.tup [kV k,v]),ay hF,K.lay hp,.tup (.inl (.inl ag)) (.cons (qe k) (.cons ((rv.mono s).mono (ay hF)) .nil)),ay hp,λc hc=>?_⟩
  by_cases z:c=p
  .subst z;exact .inr hp
  .rw[af z]at hc;exact .inl hc
def jO(i:Nat):WA:=λenv P=>match env[i]? with
 |some (some ⟨1,.xv kvs⟩)=>P (kvs.map B8) (env.set i none)
 |_=>False
variable{Z:Zn}{H:Hp}{σ:L2.St}{env:En}{i:Nat}
theorem lT.Fs{kvs:List (Key×PV)}(K:lT M Z F σ H env)(hi:env[i]?=some (some ⟨1,.xv kvs⟩)):
  ∃d vs,σ[i]?=some (some (.ref d))/\H d=some (.dK vs)/\F d=none/\lE M.K F vs kvs/\∀o,lT M Z (upd F d (.yG o (.dK vs))) σ (upd H d (.yG o (.dK vs))) (env.set i none):=by
 obtain⟨fp,L⟩:=K.sl
 obtain⟨v,hv,ok⟩:=L.at' i _ hi
 rcases ok with ⟨e,_⟩|⟨_,d,rfl,hf,h0,vs,hd,rk⟩|⟨e,_⟩|⟨e,_⟩
 .cases e
 .have ha:=L.al i d (by rw[hf];simp)
  refine⟨d,vs,hv,hd,ha.2,rk,λo=>?_⟩
  have s1:dO F (upd F d (.yG o (.dK vs))):=ay ha.2
  have ot:∀j b,j≠i->b∈fp j->b≠d:=λj b hj hb z=>L.dj j i b hj hb (by rw[hf,z];simp)
  refine⟨λb u e=>?_,λb u e hb=>?_,λb e=>?_,ai K.gr s1,λb e=>?_,by simp[K.len],λj=>if j=i then []else fp j,λj s h=>?_,λj b h=>?_,λj k b AW h z=>?_,λj b t e1 e2 e3=>?_⟩
  .by_cases z:b=d
   .subst z;rw[ag]at e ⊢;exact e
   .rw[af z]at e ⊢;exact K.sF b u e
  .rw[af (λz=>by rw[z,h0]at e;cases e)]
   exact K.sG b u e hb
  .by_cases z:b=d
   .subst z;rw[ag];simp
   .rw[af z];exact K.pr b e
  .by_cases z:b=d
   .subst z;exact .inr h0
   .rw[af z]at e;exact K.nw b e
  .by_cases z:j=i
   .subst z
    rw[aa8]at h
    simp only[if_true]at h
    split at h<;>cases h
   .rw[aau (abv z)]at h
    rw[if_neg z]
    obtain⟨v,g1,g2⟩:=L.at' j s h
    exact⟨v,g1,g2.mono s1 λc hc=>af (ot j c z hc)⟩
  .split at h
   .simp at h
   .rename_i z
    have:=L.al j b h
    rw[af (ot j b z h),af (ot j b z h)];exact this
  .split at h
   .simp at h
   .split at z
    .simp at z
    .exact L.dj j k b AW h z
  .by_cases z:j=i
   .subst z
    rw[aa8]at e2
    simp only[if_true]at e2
    split at e2<;>cases e2
   .rw[aau (abv z)]at e2
    exact L.oa j b t e1 e2 e3
 .rcases e with e|e<;>cases e
 .cases e
variable{ob:xV}{X:Cx}{x:Str}{p apos:Pos}
theorem qz(i:Nat){pos Ek:Pos}{elts:List Expr}{x1:_}(ho:PE X (.Name x p) (xx i))
  (x3:abW (.Name x p) "items" X.env (eval (.Name x p) X.env)=eval (.Name x p) X.env:=by rfl) (xY:(apos.endLine==pos.line)=true:=by rfl) :
  Ga ob X (.Tuple elts x1 Ek) (.Call (.Attribute (.Name x p) "items" apos) [] [] pos) (jO i):=by
 refine⟨_,rg ho x3 xY,λZ F σ H env P R K hf kk=>?_⟩
 unfold jO at hf
 split at hf
 .rename_i kvs ei
  obtain⟨d,vs,hv,hd,hF,rk,kz⟩:=K.Fs ei
  exact⟨_,hv,d,vs,rfl,hd,λo=>kk _ _ _ _ _ hf (ay hF) (kz o) (vJ ag (rk.mono (ay hF)))⟩
 .exact hf.elim
end Q
namespace L2
open PySem PySem.Spec PyProof.Rows PySem.W
variable{prog:aaB}{w:World}{A:Around}{E:Value->Shared->Prop}{s:Shared}
end L2
namespace Q
open PySem L2 PyProof.Rows
variable{ob:xV}{X:Cx}{e:Expr}{f:WE}{p pos zd p1:Pos}{kd:_}
end Q
namespace L2
open PySem PySem.Spec PyProof.Rows
section
open PySem.SeqAt
open PySem.AutoSeq1 (wpAny_loadPart')
open PySem.MeetsSeq PySem.MeetsSeq2 PySem.MeetsSeq3
end
end L2
namespace Q
open PySem L2 PyProof.Rows
variable{X:Cx}{pins:List (Addr×Obj)}{σ:L2.St}{H F:Hp}{s:Shared}
variable{ob:xV}
end Q
namespace L2
open PySem PySem.Spec PyProof.Rows
variable{prog:aaB}{w:World}{A:Around}{E:Value->Shared->Prop}{s:Shared}{a₀:Array Keyed}{κ:KeyKind}
variable{X:Cx}
end L2
namespace Q
open PySem L2 PyProof.Rows
variable{ob:xV}{X:Cx}{a b c e:Expr}{es:List Expr}{f g h:WE}{fa:WA}{pos p p1:Pos}{x:Str}
end Q
namespace L2
open PySem PySem.Spec PyProof.Rows
variable{X:Cx}{o e:Expr}{to te:TE}{apos pos:Pos}
section
open Builtin Builtin.Str
variable{prog:aaB}{w:World}{A:Around}{E:Value->Shared->Prop}{s:Shared}
end
end L2
namespace Q
open PySem L2 PyProof.Rows
variable{ob:xV}{X:Cx}{a b e:Expr}{f g:WE}{apos pos:Pos}
end Q
namespace L2
open PySem PySem.Spec PyProof.Rows
variable{prog:aaB}{w:World}{A:Around}{E:Value->Shared->Prop}{s:Shared}{l b:Addr}{items ML:Array Value}{n n2:Nat}
variable{X:Cx}
end L2
namespace Q
open PySem L2 PyProof.Rows
variable{ob:xV}{X:Cx}{e:Expr}{g:WE}{pos pos':Pos}
end Q
set_option maxHeartbeats 400000
namespace L2
open PySem PySem.Spec PyProof.Rows
variable{X:Cx}
end L2
namespace Q
open PySem L2 PyProof.Rows
variable{ob:xV}{X:Cx}{a:Expr}{fa:WA}{p pos:Pos}
variable{p2:Pos}{x:Str}
end Q
namespace Pre
open PySem L2
end Pre
namespace Q
open PySem L2 PyProof.Rows
variable{X:Cx}{k:Nat}{yT:Addr}{fd:abA}{ps:List Str}{x y:Str}{p p1 pos pos':Pos}
variable{ob:xV}
variable{g:WG}{c:WT}{f:WE}{js:List (Option Nat)}{P:PV->En->Prop}
theorem ko(I:Nat->List PV->En->Prop):∀{xs:List PV} {i:Nat} {acc:List PV} {env:En},I i acc env->acc.length<=i->i+xs.length<=100000 ->
  (∀(j:Nat) (x:PV) (acc:List PV) (env:En) (R:Option PV->En->Prop),xs[j]?=some x->I (i+j) acc env->(∀(o:Option PV) (bY:En),I (i+j+1) (acc++o.toList) bY->R o bY)->g x (Bn js env) λb1=>c b1 λok b2=>if ok=true then f b2 λy b3=>R (some y) (xC js env b3)else R none (xC js env b2)) ->
  (∀acc env,I (i+xs.length) acc env->acc.length<=i+xs.length->P (.lst acc) env)->xX g c f js P xs env acc
 |[],i,acc,env,h0,hl,_,_,hd=>hd acc env (by simpa using h0) (by simpa using hl)
 |x::xs,i,acc,env,h0,hl,hb,hs,hd=>by
  have CA:i+xs.length+1<=100000:=by simpa[abY]using hb
  refine hs 0 x acc env (λo e=>(match o with|some y=>acc.length<=100000/\xX g c f js P xs e (acc++[y])|none=>xX g c f js P xs e acc)) rfl h0 λo e' ho=>?_
  have rest:∀FX,I (i+1) FX e'->FX.length<=i+1->xX g c f js P xs e' FX:=λFX h1 h2=>ko I (i:=i+1) h1 h2 (by omega) (λj y a env R hj hI k=>hs (j+1) y a env R (by simpa using hj) (by rwa [abY,ac6 1 j]at hI) λo e h=>k o e (by rwa [abY i 1 j,ac6 1 j])) λa e h h'=>hd a e (by rwa [aa3,ac6 xs.length 1,<- abY]) (by rw[aa3];omega)
  cases o with
  |none=>exact rest acc (by simpa using ho) (by omega)
  |some y=>exact⟨by omega,rest (acc++[y]) (by simpa using ho) (by simp;omega)⟩
variable{pins:List (Addr×Obj)}{s:Shared}{σ:L2.St}{H:Hp}
end Q
namespace L2
open PySem PySem.Spec PyProof.Rows PySem.W
variable{prog:aaB}{w:World}{A:Around}{E:Value->Shared->Prop}{s:Shared}
end L2
namespace Q
open PySem L2 PyProof.Rows
variable{ob:xV}{X:Cx}{e:Expr}{es:List Expr}{fa:WA}{pos p:Pos}
end Q
set_option maxHeartbeats 1000000
namespace L2
open PySem PySem.Spec PyProof.Rows
open AutoSeq1 (wpAny_loadPart')
variable{prog:aaB}{w:World}{A:Around}{E:Value->Shared->Prop}{s:Shared}
variable{X:Cx}
end L2
namespace Q
open PySem L2 PyProof.Rows
variable{ob:xV}{X:Cx}{a:Expr}{fa:WA}{p pos:Pos}
end Q
namespace L2
open PySem PySem.Spec PyProof.Rows
theorem mN(t:adO)(n:Nat):(t.orStandIn n).led=t.led:=by
 unfold SetTable.orStandIn aeY
 split<;>rfl
theorem oJ(t:adO)(es:Array (Int×Value))(h:Int)(x:Value):(layNew t es h x).2.1.led=t.led:=by
 unfold layNew
 split
 .exact mN _ _
 .rfl
variable{t:adO}{n:Nat}
theorem gI{t':adO}{hs:Array Int}{o:Array Nat}(e:t.relaid hs n=some (t',o)):t'.led=t.led/\t'.plain=t.plain:=by
 unfold SetTable.relaid SetTable.laid at e
 cases q:SetTable.layClean (SetTable.sizeAbove n - 1) hs with
 |none=>rw[q]at e;cases e
 |some ow=>
  rw[q]at e
  have e':=aao e
  cases e'
  exact⟨rfl,rfl⟩
theorem lu(t:adO)(es:Array (Int×Value))(n:Nat):(aef t es n).2.1.led=t.led:=by
 unfold aef aeY
 split
 .rename_i e
  dsimp only
  split
  .exact(gI e).1
  .rfl
 .rfl
theorem jz(t:adO)(es:Array (Int×Value))(n:Nat)(h:t.plain=false):(aef t es n).2.1.plain=false:=by
 unfold aef aeY
 split
 .rename_i e
  dsimp only
  split
  .exact(gI e).2.trans h
  .rfl
 .rfl
def yj(P:aaB)(w:World)(h:Heap)(a:Addr)(ss:List Str):Prop :=
 ∃o es ep t ks,h.get? a=some o/\o.ExactSet/\o.data=.set es ep t/\ElemsOf (strKind P w) es.toList/\acd (es.toList.map (·.2)) ks/\ks.Perm ss/\es.size<scanBound/\t.fits es.size=true /\
  (w.params.followText "set-order" = false->t.led=true)/\(es.size≠0->t.plain=false)
variable{P:aaB}{w:World}{h h':Heap}{a:Addr}{ss:List Str}
theorem yj.keep(x:yj P w h a ss)(k:∀o,h.get? a=some o->h'.get? a=some o):yj P w h' a ss:=by
 obtain⟨o,es,ep,t,ks,a1,r⟩:=x
 exact⟨o,es,ep,t,ks,k o a1,r⟩
variable{vs:List Value}
theorem bX{ks:List Str}{Eg:List Value}(p:Eg.Perm vs):acd vs ks->∃OB,acd Eg OB/\OB.Perm ks:=by
 induction p generalizing ks with
 |nil=>exact λh=>⟨ks,h,.refl _⟩
 |cons x p ih=>
  intro h
  cases h with
  |cons s t r=>obtain⟨k1,h1,p1⟩:=ih r;exact⟨_,.cons s t h1,p1.cons _⟩
 |swap x y l=>
  intro h
  cases h with
  |cons s t r=>cases r with|cons s' t' r'=>exact⟨_,.cons s' t' (.cons s t r'),.swap ..⟩
 |trans p1 p2 JV JU=>
  intro h
  obtain⟨k2,h2,q2⟩:=JU h
  obtain⟨k1,h1,q1⟩:=JV h2
  exact⟨k1,h1,q1.trans q2⟩
theorem dJ{P:aaB}{w:World}{k:Str}:∀{es:List (Int×Value)} {ks:List Str},acd (es.map (·.2)) ks->(k∈ks↔∃e∈es,(strKind P w).is k e.2=true)
 |[],ks,h=>by cases h;simp
 |e::es,ks,h=>by
  obtain⟨hh,v⟩:=e
  cases h with
  |cons s t r=>
   rw[abZ,dJ (P:=P) (w:=w) (k:=k) r]
   constructor
   .rintro(rfl|⟨e,he,q⟩)
    .exact⟨_,aat,aee _ _ _ _⟩
    .exact⟨e,aar _ he,q⟩
   .rintro⟨e,he,q⟩
    rcases List.mem_cons.mp he with rfl|he
    .obtain⟨t',e'⟩:=aer (x:=k) (v:=ac4 s t) q
     cases e'
     exact .inl rfl
    .exact .inr ⟨e,he,q⟩
variable{prog:aaB}{A:Around}{E:Value->Shared->Prop}{s:Shared}
variable{o:Obj}{es:Array (Int×Value)}{ep:Nat}
theorem yj.stored{ks:List Str}(ho:h.get? a=some o)(hex:o.ExactSet)(hd:o.data=.set es ep t)
  {Ck:Array (Int×Value)} {t':adO} (HM:ElemsOf (strKind prog w) Ck.toList) (Cw:acd (Ck.toList.map (·.2)) ks) (p:ks.Perm ss) (hb:Ck.size<scanBound) (hf:t'.fits Ck.size=true)
  (Bj:w.params.followText "set-order" = false->t'.led=true) (yt:Ck.size≠0->t'.plain=false) :
  (h.update a (Obj.putSet Ck t')).get? a=some {o with data:=.set Ck (ep+1) t'}/\yj prog w (h.update a (Obj.putSet Ck t')) a ss:=by
 have hg:=abz (Obj.putSet Ck t') ho (by rw[putSet_of Ck t' hd];rfl)
 rw[putSet_of Ck t' hd]at hg
 exact⟨hg,_,Ck,ep+1,t',ks,hg,hex,rfl,HM,Cw,p,hb,hf,Bj,yt⟩
variable{Q:Bool->Shared->Prop}
theorem NW{k:Str}{tk:Tok}(hS:yj prog w s.heap a ss)(EN:ss.length+1<scanBound)
  (h:∀b h',acG a s.heap h'->yj prog w h' a (if k∈ss then ss else ss++[k])->Q b {s with heap:=h'}) :
  wpAny (model prog w) A (setAddHashed a (.str k tk) ((strKind prog w).hash k)) Q E s:=by
 obtain⟨o,es,ep,t,ks,ho,hex,hd,HM,Cw,p,hb,hf,Bj,yt⟩:=hS
 have Cf:(strKind prog w).is k (.str k tk)=true:=aee _ _ _ _
 have hlen:es.size=ss.length:=by
  have:=Cw.length
  rw[aad,aay]at this
  rw[this,p.length_eq]
 unfold setAddHashed setAddHashedIn
 refine aaN (aab (acr ho hd hf ?_))
 dsimp only
 rw[byScan_of (knd:=strKind prog w) rfl hb HM]
 simp only[↓reduceIte]
 unfold setAddByScan
 refine aab (aab (adc (aab (wpAny_setScan_of Cf ho hd hf HM ?_))))
 cases hr:List.findIdx? (λe=>(strKind prog w).is k e.2) es.toList with
 |some j=>
  obtain⟨hj,QJ,_⟩:=List.findIdx?_eq_some_iff_getElem.mp hr
  have hm:k∈ss:=p.mem_iff.mp ((dJ Cw).mpr ⟨_,abg hj,QJ⟩)
  have q:=h false s.heap (Heap.SameBut.refl a s.heap)
  rw[if_pos hm]at q
  exact aaf (aaf (q ⟨o,es,ep,t,ks,ho,hex,hd,HM,Cw,p,hb,hf,Bj,yt⟩))
 |none=>
  have hm:k∉ss:=λhk=>by
   obtain⟨e,he,q⟩:=(dJ (P:=prog) (w:=w) Cw).mp (p.mem_iff.mpr hk)
   have:=List.findIdx?_eq_none_iff.mp hr e he
   rw[q]at this;cases this
  rw[if_neg hm]at h
  dsimp only
  have a1:=layNew_perm t es ((strKind prog w).hash k) (.str k tk)
  have a2:=layNew_fits t es ((strKind prog w).hash k) (.str k tk)
  have a3:=oJ t es ((strKind prog w).hash k) (.str k tk)
  generalize layNew t es ((strKind prog w).hash k) (.str k tk)=L at a1 a2 a3 ⊢
  obtain⟨A4,t1,wd,gave⟩:=L
  dsimp only at a1 a2 a3 ⊢
  rw[aeP]at a1
  have Kd:ElemsOf (strKind prog w) A4.toList:=(HM.push Cf rfl).perm a1
  obtain⟨k1,OP,p1⟩:=bX (ks:=ks++[k]) (a1.map (·.2)) (by
   rw[aaH]
   have:∀{vs:List Value} {ks:List Str},acd vs ks->acd (vs++[ac4 k tk]) (ks++[k]):=λ{vs ks} z=>by
    induction z with
    |nil=>exact .cons _ _ .nil
    |cons s t r ih=>exact .cons s t ih
   exact this Cw)
  have p2:k1.Perm (ss++[k]):=p1.trans (p.append_right [k])
  have z1:A4.size=ss.length+1:=by rw[<- aay,a1.length_eq,aaF,aay,hlen];rfl
  have b1:A4.size<scanBound:=by rw[z1];exact EN
  have gw:∀(b:Bool) {s₁:Shared} {Q':Unit->Shared->Prop},Q' () s₁->wpAny (model prog w) A (match b with|true=>rule "set.scan.the-table-gave-way" |false=>pure ()) Q' E s₁ :=
   λb _ _ z=>by cases b<;>first|exact aaf z|exact adc z
  have tail:∀t2:adO,t2.fits A4.size=true->t2.led=t.led->t2.plain=false->wpAny (model prog w) A (do
    storeSet a A4 t2
    if (!wd && t2.tooFull)=true then do
      (match (aef t2 A4 (acj A4.size)).2.2 with|true=>rule "set.scan.the-table-gave-way" |false=>pure ())
      storeSet a (aef t2 A4 (acj A4.size)).1 (aef t2 A4 (acj A4.size)).2.1
      pure (some true)
     else pure (some true)) (λr s'=>∃h',r=some true/\s'={s with heap:=h'}/\acG a s.heap h'/\yj prog w h' a (ss++[k])) E s:=by
   intro t2 f2 l2 q2
   refine aab (wpAny_storeSet_of ho hd ?_ (aeE b1))
   obtain⟨J5,Ru⟩:=yj.stored (prog:=prog) (w:=w) ho hex hd Kd OP p2 b1 f2 (λe=>l2.trans (Bj e)) (λ_=>q2)
   have Og:=aaL s.heap a (Obj.putSet A4 t2)
   split
   .have c1:=relayAll_perm t2 A4 (acj A4.size)
    have c2:=relayAll_fits t2 A4 (acj A4.size)
    have c3:=lu t2 A4 (acj A4.size)
    have c4:=jz t2 A4 (acj A4.size) q2
    generalize aef t2 A4 (acj A4.size)=Rl at c1 c2 c3 c4 ⊢
    obtain⟨Pb,t3,g2⟩:=Rl
    dsimp only at c1 c2 c3 c4 ⊢
    obtain⟨k2,QY,p3⟩:=bX (c1.map (·.2)) OP
    have z2:Pb.size=A4.size:=by rw[<- aay,c1.length_eq,aay]
    have b2:Pb.size<scanBound:=by rw[z2];exact b1
    refine aab (gw _ ?_)
    refine aab (wpAny_storeSet_of J5 rfl ?_ (aeE b2))
    obtain⟨_,Ly⟩:=yj.stored (prog:=prog) (w:=w) J5 hex rfl (Kd.perm c1) QY (p3.trans p2) b2 c2 (λe=>c3.trans (l2.trans (Bj e))) (λ_=>c4)
    exact aaf ⟨_,rfl,rfl,Og.trans (aaL _ a _),Ly⟩
   .exact aaf ⟨_,rfl,rfl,Og,Ru⟩
  have done:∀r s',(∃h',r=some true/\s'={s with heap:=h'}/\acG a s.heap h'/\yj prog w h' a (ss++[k]))->wpAny (model prog w) A (match r with|some added=>pure added|none=>setAddHashedIn a (.str k tk) ((strKind prog w).hash k) 99999) Q E s':=by
   rintro _ _ ⟨h',rfl,rfl,sb,x⟩
   exact aaf (h true h' sb x)
  refine aab (gw _ ?_)
  split
  .refine aab ?_
   rw[hashByValue_scannable 8 (x:=.str k tk) rfl]
   refine aaf ?_
   exact aaJ (tail _ (SetTable.fits_plain_off a2) a3 rfl) done λ_ _ e=>e
  .rename_i hp
   refine aab (aaf ?_)
   simp only[↓reduceIte]
   exact aaJ (tail _ a2 a3 (by simpa using hp)) done λ_ _ e=>e
def A6(ss:List Str):List Str:=ss.foldl (λacc k=>if k∈acc then acc else acc++[k]) []
theorem ft(ss:List Str)(k:Str):A6 (ss++[k])=if k∈A6 ss then A6 ss else A6 ss++[k]:=by unfold A6;rw[aeM];rfl
variable{j:Nat}
theorem si(hj:j<ss.length):A6 (ss.take (j+1))=if ss[j]∈A6 (ss.take j)then A6 (ss.take j)else A6 (ss.take j)++[ss[j]]:=by
 rw[abB,aaa hj,adu,ft]
variable{α:Type}
theorem jm{p:List α->Prop}(h0:p [])(h1:∀xs k,p xs->p (xs++[k]))(l:List α):p l:=by
 rw[<- List.reverse_reverse l]
 induction l.reverse with
 |nil=>exact h0
 |cons a r ih=>rw[List.reverse_cons];exact h1 _ _ ih
theorem nN(x:Str)(ss:List Str):x∈A6 ss↔x∈ss:=by
 induction ss using jm with
 |h0=>rfl
 |h1 xs k ih=>
  rw[ft]
  split
  .rename_i h
   rw[ab4,adw,<- ih]
   exact⟨.inl,λq=>q.elim id λe=>e ▸ h⟩
  .rw[ab4,ab4,ih]
theorem kG(ss:List Str):(A6 ss).Nodup:=by
 induction ss using jm with
 |h0=>exact .nil
 |h1 xs k ih=>
  rw[ft]
  split
  .exact ih
  .rename_i h
   rw[ab3]
   exact⟨ih,List.nodup_cons.mpr ⟨ac7,.nil⟩,λa ha b hb e=>h (by rw[<- List.mem_singleton.mp hb,<- e];exact ha)⟩
theorem ux(ss:List Str):(A6 ss).length<=ss.length:=by
 induction ss using jm with
 |h0=>exact aak _
 |h1 xs k ih=>
  rw[ft,aaF]
  split
  .exact aaX ih (Nat.le_add_right ..)
  .rw[aaF];exact Nat.add_le_add_right ih _
variable{d:Addr}{fp:List Addr}
theorem pk{R:Result->Shared->Prop}{I:Addr}{wr:List Addr}{G:Array GenState->Array GenState->Prop}{P:Nat->Value->Prop}{St:Nat->Shared->Prop}(hb:ss.length+1<scanBound)
  (W:WalksS prog w A.in1 I fp wr G ss.length P St) (hd:d∉fp) (hP:∀i v (hi:i<ss.length),P i v->∃t,v=.str ss[i] t) :
  ∀(m j:Nat) (z:Shared),ss.length - j=m->j<=ss.length->St j z->yj prog w z.heap d (A6 (ss.take j)) ->
   (∀z',Moved (d::wr) G z z'->yj prog w z'.heap d (A6 (ss.take ss.length))->R (.ok (.ret .none)) z') ->
   adi (model prog w) A (.builtin "set.update.loop" ⟨[.ref d,.ref I],[]⟩) R z:=by
 have dw:d∉wr:=λh=>hd (W.sub _ h)
 have inc:∀b∈wr,b∈d::wr:=λb hb=>aar _ hb
 intro m
 induction m with
 |zero=>
  intro j z hm hj st hs hR
  obtain rfl:j=ss.length:=by omega
  refine abJ F.entry_set_update_loop ?_
  rw[abr adR _]
  show wpAny _ A.in1 (pyNext (.ref I) >>= _) _ _ z
  exact aab (W.done z _ _ st λz' mv=>aaf (hR z' (mv.mono inc) (hs.keep λo g=>mv.heap d _ dw g)))
 |succ m ih=>
  intro j z hm hj st hs hR
  have hl:j<ss.length:=by omega
  refine abJ F.entry_set_update_loop ?_
  rw[abr adR _]
  show wpAny _ A.in1 (pyNext (.ref I) >>= _) _ _ z
  refine aab (W.item j z _ _ hl st λv z' hv BE mv=>?_)
  obtain⟨t,rfl⟩:=hP j v hl hv
  show wpAny _ A.in1 (adg [ac4 ss[j] t] (setAdd d (.str ss[j] t)) >>= _) _ _ z'
  refine aab (aaN ?_)
  unfold setAdd
  refine aaN (aab ((strKind prog w).pyHash (k:=ss[j]) (aee _ _ _ _) ?_))
  have lz:(A6 (ss.take j)).length+1<scanBound:=by
   have q1:=ux (ss.take j)
   have q2:(ss.take j).length<=ss.length:=by rw[aa2];omega
   omega
  refine NW (s:={z' with toks:=z'.toks+1}) (show yj prog w z'.heap d _ from hs.keep λo g=>mv.heap d _ dw g) lz λb h' sb HG=>?_
  rw[<- si hl]at HG
  refine aaf ⟨abP adR _,ih (j+1) _ (by omega) hl (W.frame _ z' _ _ BE (acW _) λb hb o e=>?_) HG λPu Ql QB=>?_⟩
  .rw[sb.2 b λq:b=d=>hd (q ▸ hb)];exact e
  .refine hR Pu (Moved.trans W.gtrans ((mv.mono inc).then_heap (acW _) λb o hb e=>?_) Ql) QB
   rw[sb.2 b λq:b=d=>hb (q ▸ aat)];exact e
theorem mH(a:Value){Q:Value->Shared->Prop}(h:Q (.ref s.heap.objs.size) {s with heap:=s.heap.push {cls:=.type "set",dict:=none,data:=.set #[] 0 (.fresh 0 0 (!w.params.followText "set-order"))}}):
  adi (model prog w) A (.call (.builtin "set.__new__") ⟨[.type "set",a],[]⟩) (wants Q E) s:=by
 refine codeAny_of_tree (?_:wpAny _ A.in1 (checkBuiltinCall "set.__new__" ⟨[.type "set",a],[]⟩ >>= λ_=>again (.builtin "set.__new__" ⟨[.type "set",a],[]⟩)) _ _ s)
 refine aab (wpAny_of_eq (F.newCall_set_1 a) (aaf ⟨abP F.plain_set_new _,abJ F.entry_set_new ?_⟩))
 rw[abr F.plain_set_new _]
 unfold ack.«set.__new__» Builtin.Frozenset.newClass
 have q0:=sub_set_self
 obtain⟨h0,g0,d0,t0,o0⟩:=s
 dsimp only at h⊢
 wp_walk
 refine acD (aaf ?_)
 simp only[newObj]
 exact aab (wpAny_alloc (aaf (aaf h)))
variable{l:Addr}
theorem jU{items:Array Value}{Q:Value->Shared->Prop}(hh:A.handled=none)(hl:s.heap.IsList l items)(hi:acd items.toList ss)(hb:ss.length+1<scanBound)
  (h:∀(h':Heap) (tk:Nat),yj prog w h' s.heap.objs.size (A6 ss)->(∀b o,b<s.heap.objs.size->s.heap.get? b=some o->h'.get? b=some o)->s.heap.objs.size<h'.objs.size->Q (.ref s.heap.objs.size) {s with heap:=h',toks:=tk}) :
  wpAny (model prog w) A (call (.type "set") [.ref l]) Q E s:=by
 obtain⟨c,tl,QR⟩:=F.called_set.mro
 have OJ:=F.called_set.made
 have Qx:=F.called_set.sub
 have hsz:items.size=ss.length:=by rw[<- aay];exact hi.length
 refine wpAny_call (codeAny_of_tree (?_:wpAny _ _ (callAny (.type "set") _) _ _ _))
 refine aaf ⟨Code.quiet_builtin _ (by decide +kernel),abJ F.entry_type_call ?_⟩
 rw[Around.under_plain (weight_type_call_type "set" [.ref l] []) rfl]
 have h1:=F.called_set.notType
 have h2:=F.called_set.canCreate
 have SO:=F.typeCall_set_1 (.ref l)
 repeat (any_goals (first|assumption|wp_step))
 generalize Bj:(!w.params.followText "set-order")=led
 refine adt (mH (.ref l) (E:=E) (Q:=λobj z=>obj=.ref s.heap.objs.size/\z={s with heap:=s.heap.push {cls:=.type "set",dict:=none,data:=.set #[] 0 (.fresh 0 0 led)}}) (by rw[Bj];exact⟨rfl,rfl⟩)) λr z hr=>?_
 cases r with
 |error e=>exact hr
 |ok fl=>
 cases fl with
 |ret obj=>
  obtain⟨rfl,rfl⟩:=hr
  have g0:(s.heap.push {cls:=.type "set",dict:=none,data:=.set #[] 0 (.fresh 0 0 led)}).get? s.heap.objs.size=some {cls:=.type "set",dict:=none,data:=.set #[] 0 (.fresh 0 0 led)}:=aal _ rfl
  have hT:Shared.TypeIs {s with heap:=s.heap.push {cls:=.type "set",dict:=none,data:=.set #[] 0 (.fresh 0 0 led)}} (.ref s.heap.objs.size) "set" := ⟨_,g0,rfl⟩
  have OM:=F.called_set.init.lookup
  have SQ:=F.called_set.init.bind (.ref s.heap.objs.size)
  repeat (any_goals (first|assumption|wp_step))
  refine adt (codeAny_call_builtin (R:=wants (λr z=>r=.none/\∃h' tk,z={s with heap:=h',toks:=tk}/\yj prog w h' s.heap.objs.size (A6 ss)/\(∀b o,b<s.heap.objs.size->s.heap.get? b=some o->h'.get? b=some o)/\s.heap.objs.size<h'.objs.size) E)
   F.called_set.init.plain F.entry_set_init (check_set_init_1 hT ?_)) λr z hr=>?_
  .have tt:(s.heap.push {cls:=.type "set",dict:=none,data:=.set #[] 0 (.fresh 0 0 led)}).IsList l items:=by
    obtain⟨o,e,r⟩:=hl
    exact⟨o,aac _ e,r⟩
   obtain⟨⟨Qg,Ou,Ov,Ms⟩,ho,hc,n0,hd⟩:=id tt
   simp only at hc hd
   subst hc hd
   have a1:=F.sub_list_set
   have a2:=F.sub_list_frozenset
   have a3:(aby "list" == aby "dict")=false:=by decide
   unfold ack.«set.__init__» noKeywords Builtin.Frozenset.updateFrom
   generalize Rv:pyIter=PI
   wp_walk
   subst Rv
   refine acU (s:={s with heap:=s.heap.push {cls:=.type "set",dict:=none,data:=.set #[] 0 (.fresh 0 0 led)}}) tt ?_
   refine aab (wpAny_runValue ?_)
   have xA:l<s.heap.objs.size:=by obtain⟨o,e,_⟩:=hl;exact aaj e
   have Lr:l≠(s.heap.push {cls:=.type "set",dict:=none,data:=.set #[] 0 (.fresh 0 0 led)}).objs.size:=by rw[abC];exact aap (aa7 xA)
   have Nd:s.heap.objs.size∉[(s.heap.push {cls:=.type "set",dict:=none,data:=.set #[] 0 (.fresh 0 0 led)}).objs.size,l]:=by
    rw[abC]
    intro q
    rcases List.mem_cons.mp q with e|q
    .exact absurd e (aap (abw _))
    .exact absurd (List.mem_singleton.mp q) (aca xA)
   have W:=(Walks.list (prog:=prog) (w:=w) (A:=A.in1.in1.in1) (by simp[hh]) (s.heap.push {cls:=.type "set",dict:=none,data:=.set #[] 0 (.fresh 0 0 led)}).objs.size l Lr items).toS
   rw[hsz]at W
   refine pk hb W Nd (λi v Bl hv=>?_) (ss.length - 0) 0 _ (by omega) (aaS _) ⟨⟨_,aal _ rfl,rfl,rfl⟩,⟨_,aac _ ho,rfl,n0,rfl⟩⟩ ?_ ?_
   .obtain⟨t,e⟩:=hi.get i _ (aaa Bl)
    rw[abp]at e
    exact⟨t,aao (hv.symm.trans e)⟩
   .exact⟨_,#[],0,_,[],aac _ g0,⟨rfl,rfl,rfl⟩,rfl,λe he=>by simp at he,.nil,.nil,by decide,rfl,λe=>by rw[<- Bj,e];rfl,λe=>(e rfl).elim⟩
   .intro z mv q
    rw[abd]at q
    obtain⟨h',g',d',D7,Dl⟩:=z
    obtain rfl:g'=s.gens:=mv.gens
    obtain rfl:d'=s.drawn:=mv.drawn
    obtain rfl:Dl=s.os:=mv.os
    refine aaf (aaf ⟨rfl,h',D7,rfl,q,λb o hb e=>?_,?_⟩)
    .refine mv.heap b o ?_ (aac _ (aac _ e))
     rw[abC]
     intro q
     rcases List.mem_cons.mp q with e|q
     .exact absurd e (aap hb)
     .exact absurd (List.mem_singleton.mp q) (aap (aa7 hb))
    .obtain⟨o,_,_,_,_,e,_⟩:=q;exact aaj e
  .cases r with
   |error e=>exact hr
   |ok fl=>
   cases fl with
   |ret r=>
    obtain⟨rfl,h',tk,rfl,q1,q2,q3⟩:=hr
    repeat (any_goals (first|assumption|wp_step))
    exact h _ _ q1 q2 q3
   |_=>exact hr.elim
 |_=>exact hr.elim
theorem xN:Slot "set_iterator" "__next__" "set_iterator.__next__" :=
 .of (owner := "set_iterator") (n := "__next__") (by rw[ae5,ad3];kernel_rfl) (by decide +kernel) (by decide +kernel) (by decide +kernel)
  (by first|exact .inl (by decide +kernel)|exact .inr (by decide +kernel)) (by rw[afs];kernel_rfl)
theorem jQ:entryFor table "set_iterator.__next__" = some ack.«set_iterator.__next__»:=entryFor_of_tree (by kernel_rfl)
theorem kf:Manifest.owners.lookup (String.ofList ("set_iterator".toList.reverse).reverse)=some Manifest.sig_set_iterator:=by kernel_rfl
theorem kT(a:Value):argsOk "set_iterator.__next__" ⟨[a],[]⟩:=by
 unfold argsOk;rw[signature?_of (id := "set_iterator.__next__") (n := "__next__".toList.reverse) (o := "set_iterator".toList.reverse) (by kernel_rfl) kf];kernel_rfl
theorem jS:entryFor table "set.__iter__" = some ack.«frozenset.__iter__»:=entryFor_alias (id' := "frozenset.__iter__") (by kernel_rfl) rfl (by decide +kernel) (by kernel_rfl)
theorem kM{src:Source}{Q:Nat->Shared->Prop}(hn:n≠0)(h:∀i,i<n->∀d,Q i {s with drawn:=d}):wpAny (model prog w) A (choose src n) Q E s :=
 λΓ p hΓ=>⟨hn,h _ (Nat.mod_lt _ (Nat.pos_of_ne_zero hn)) _⟩
theorem io:∀(l:List α) (i:Nat) (h:i<l.length),(l[i]::l.eraseIdx i).Perm l
 |x::r,0,_=>.refl _
 |x::r,i+1,h=>(afv ..).trans ((io r i (Nat.lt_of_succ_lt_succ h)).cons x)
theorem dr:∀(n:Nat) (xs:List α) (s:Shared) (Q:List α->Shared->Prop),xs.length=n->(∀ys d,ys.Perm xs->Q ys {s with drawn:=d})->wpAny (model prog w) A (drawOrder n xs) Q E s
 |0,xs,s,Q,hn,h=>by
  have:xs=[]:=List.length_eq_zero_iff.mp hn
  subst this
  exact aaf (h [] s.drawn .nil)
 |n+1,[],s,Q,hn,h=>by cases hn
 |n+1,x::r,s,Q,hn,h=>by
  unfold drawOrder
  have yq:(x::r).length≠0:=by simp
  refine aab (kM yq λi hi d=>?_)
  rw[aaa hi]
  have hl:((x::r).eraseIdx i).length=n:=by rw[adr hi,hn];rfl
  refine aab (dr n _ _ _ hl λys d' p=>aaf (h _ d' ?_))
  exact(p.cons _).trans (io _ _ hi)
theorem kc(f:Nat->Nat):∀(n k:Nat) (l:List α) (out:Array α),l.length=n->(pickOrder.go f n k l out).toList.Perm (out.toList++l)
 |0,k,l,out,hn=>by
  have:l=[]:=List.length_eq_zero_iff.mp hn
  subst this
  unfold pickOrder.go
  rw[abh]
 |n+1,k,l,out,hn=>by
  unfold pickOrder.go
  have hi:f k % l.length<l.length:=Nat.mod_lt _ (by omega)
  rw[aaa hi]
  dsimp only
  refine(kc f n (k+1) _ _ (by rw[adr hi,hn];rfl)).trans ?_
  rw[aeP,ab8]
  exact(io _ _ hi).append_left _
theorem jC(f:Nat->Nat)(xs:Array α):(ad1 f xs).toList.Perm xs.toList:=by
 have:=kc f xs.size 0 xs.toList #[] (aay ..)
 simpa[ad1]using this
def yd(h:Heap)(it:Addr)(f:Value)(i:Nat)(a:Addr)(n ep:Nat):Prop :=
 ∃o,h.get? it=some o/\o.cls=.type "set_iterator" /\ o.data=.fields #[f,.int i 0,.ref a,.int n 0,.int ep 0]
variable{it:Addr}{f:Value}{i:Nat}
theorem yd.typeIs(x:yd s.heap it f i a n ep):s.TypeIs (.ref it) "set_iterator" := let ⟨o,ho,hc,_⟩:=x;⟨o,ho,hc⟩
def yC(h:Heap)(a:Addr)(es:Array (Int×Value))(ep:Nat)(t:adO):Prop:=∃o,h.get? a=some o/\o.data=.set es ep t/\t.fits es.size=true
theorem e9{Q:Option Value->Shared->Prop}(x:yd s.heap it f i a n ep)
  (h:wpAny (model prog w) A.in1 (ack.«set_iterator.__next__» ⟨[.ref it],[]⟩) (λfin s'=>∃v,fin=.done (.ret v)/\Q (some v) s') (λe s'=>s'.TypeIs e "StopIteration" /\ Q none s') s) :
  wpAny (model prog w) A (pyNext (.ref it)) Q E s:=by
 unfold pyNext
 refine aab (wpAny_attempt (adL (name:=abn "__next__") x.typeIs xN (abN xN x.typeIs jQ (aaJ h ?_ ?_) (kT _))))
 .rintro fin s' ⟨v,rfl,q⟩
  exact⟨v,rfl,aaf q⟩
 .rintro e s' ⟨hT,q⟩
  exact aab (wpAny_isInstance (T := "StopIteration") (b:=true) hT isSubtype_stop (aaf q))
variable{slot:Nat}{v:Value}
theorem j7{nx:Nat}{Q:Option Value->Shared->Prop}(x:yd s.heap it (.int slot 0) i a n ep)(hS:yC s.heap a es ep t)(hn:es.size=n)
  (hx:∀(Q:Option (Value×Nat)->Shared->Prop) (E:Value->Shared->Prop),Q (some (v,nx)) s->wpAny (model prog w) A.in1 (setNext a slot i ep) Q E s)
  (k:∀h',yd h' it (.int nx 0) (i+1) a n ep->acG it s.heap h'->Q (some v) {s with heap:=h'}):wpAny (model prog w) A (pyNext (.ref it)) Q E s:=by
 refine e9 x ?_
 obtain⟨o,ho,hc,hd⟩:=x
 obtain⟨os,Dt,DU,hf⟩:=hS
 unfold ack.«set_iterator.__next__»
 refine aab (m:=slotArgs "__next__" 0 _) (aaf ?_)
 refine aab (aej ho hd ?_)
 dsimp only
 refine aab (acE Dt DU hf ?_)
 rw[if_neg (by rw[hn];simp)]
 simp only[acv]
 refine aab (hx _ _ ?_)
 dsimp only
 refine aab (acZ ho hd (by simp) ?_)
 have h1:=abz (Obj.mapFields (·.setIfInBounds 0 (rawInt nx))) ho (ac5 (abu hd _))
 refine aab (acZ h1 (abu hd _) (by simp) (aaf ⟨v,rfl,k _ ?_ ?_⟩))
 .refine⟨_,abz _ h1 (ac5 (abu (abu hd _) _)),(aeJ ..).trans ((aeJ ..).trans hc),?_⟩
  rw[abu (abu hd _)];simp[rawInt]
 .exact(aaL ..).trans (aaL ..)
theorem iG{h₁:Heap}{R:PySem.Fin->Shared->Prop}{Q:Option Value->Shared->Prop}(hh:A.handled=none)(k:∀h',(∀b o,h₁.get? b=some o->h'.get? b=some o)->Q none {s with heap:=h'}):
  wpAny (model prog w) A.in1 (newExc (.type "StopIteration") [] >>= λe=>raiseNew e) R (λe s'=>s'.TypeIs e "StopIteration" /\ Q none s') {s with heap:=h₁}:=by
 refine aab ?_
 simp only[newExc,newTuple]
 refine aab (abi ?_ (by size_fits))
 refine aab (m:=firstArgMember _ _) (wpAny_of_eq (a:=aa1) (by first|rfl|(simp only[firstArgMember];rfl)) ?_)
 refine abi ?_ (by size_fits)
 simp only[raiseNew]
 refine aab (wpAny_handled ?_)
 rw[show A.in1.handled=none from hh]
 exact aab (aaf (wpAny_throw ⟨⟨_,aal _ rfl,rfl⟩,k _ λb o e=>aac _ (aac _ e)⟩))
theorem g5{Q:Option Value->Shared->Prop}(hh:A.handled=none)(x:yd s.heap it (.int slot 0) i a n ep)(hS:yC s.heap a es ep t)(hn:es.size=n)
  (hx:∀(Q:Option (Value×Nat)->Shared->Prop) (E:Value->Shared->Prop),Q none s->wpAny (model prog w) A.in1 (setNext a slot i ep) Q E s)
  (k:∀h',Heap.ExtBut it s.heap h'->Q none {s with heap:=h'}):wpAny (model prog w) A (pyNext (.ref it)) Q E s:=by
 refine e9 x ?_
 obtain⟨o,ho,hc,hd⟩:=x
 obtain⟨os,Dt,DU,hf⟩:=hS
 unfold ack.«set_iterator.__next__»
 refine aab (m:=slotArgs "__next__" 0 _) (aaf ?_)
 refine aab (aej ho hd ?_)
 dsimp only
 refine aab (acE Dt DU hf ?_)
 rw[if_neg (by rw[hn];simp)]
 simp only[acv]
 refine aab (hx _ _ ?_)
 dsimp only
 refine aab (acZ ho hd (by simp) ?_)
 exact iG hh λh' e=>k h' λb o hb g=>e b o ((aaL ..).extBut b o hb g)
def D4(h:Heap)(T:Addr)(pl:List Nat):Prop:=∃o m,h.get? T=some o/\o.data=.seq (pl.map λ(i:Nat)=>rawInt i).toArray m
variable{T:Addr}{pl:List Nat}
theorem pj{p:Nat}{hv:Int}{Q:Option Value->Shared->Prop}(x:yd s.heap it (.ref T) i a n ep)(hS:yC s.heap a es ep t)(hn:es.size=n)(hT:D4 s.heap T pl)
  (hp:pl[i]?=some p) (he:es[p]?=some (hv,v))
  (k:∀h',yd h' it (.ref T) (i+1) a n ep->acG it s.heap h'->Q (some v) {s with heap:=h'}):wpAny (model prog w) A (pyNext (.ref it)) Q E s:=by
 refine e9 x ?_
 obtain⟨o,ho,hc,hd⟩:=x
 obtain⟨os,Dt,DU,hf⟩:=hS
 obtain⟨oT,m,M7,Nr⟩:=hT
 unfold ack.«set_iterator.__next__»
 refine aab (m:=slotArgs "__next__" 0 _) (aaf ?_)
 refine aab (aej ho hd ?_)
 dsimp only
 refine aab (acE Dt DU hf ?_)
 rw[if_neg (by rw[hn];simp)]
 refine aab (acy M7 Nr ?_)
 have e1:((pl.map λ(i:Nat)=>rawInt i).toArray)[(i:Int).toNat]?=some (.int p 0):=by
  rw[acv,acp,aai,hp];rfl
 dsimp only
 rw[e1]
 dsimp only
 unfold setNextDrawn
 refine aab (aab (acr Dt DU hf ?_))
 dsimp only
 simp only[acv,bne_self_eq_false,abl,↓reduceIte,he]
 refine aaf ?_
 refine aab (acZ ho hd (by simp) (aaf ⟨v,rfl,k _ ⟨_,abz _ ho (ac5 (abu hd _)),(aeJ ..).trans hc,?_⟩ (aaL ..)⟩))
 rw[abu hd];simp[rawInt]
theorem qQ{Q:Option Value->Shared->Prop}(hh:A.handled=none)(x:yd s.heap it (.ref T) i a n ep)(hS:yC s.heap a es ep t)(hn:es.size=n)(hT:D4 s.heap T pl)
  (hp:pl[i]?=none)
  (k:∀h',Heap.ExtBut it s.heap h'->Q none {s with heap:=h'}):wpAny (model prog w) A (pyNext (.ref it)) Q E s:=by
 refine e9 x ?_
 obtain⟨o,ho,hc,hd⟩:=x
 obtain⟨os,Dt,DU,hf⟩:=hS
 obtain⟨oT,m,M7,Nr⟩:=hT
 unfold ack.«set_iterator.__next__»
 refine aab (m:=slotArgs "__next__" 0 _) (aaf ?_)
 refine aab (aej ho hd ?_)
 dsimp only
 refine aab (acE Dt DU hf ?_)
 rw[if_neg (by rw[hn];simp)]
 refine aab (acy M7 Nr ?_)
 have e1:((pl.map λ(i:Nat)=>rawInt i).toArray)[(i:Int).toNat]?=none:=by
  rw[acv,acp,aai,hp];rfl
 dsimp only
 rw[e1]
 dsimp only
 refine aab (acZ ho hd (by simp) ?_)
 have h1:=abz (Obj.mapFields (·.setIfInBounds 0 (rawInt 0))) ho (ac5 (abu hd _))
 refine aab (acZ h1 (abu hd _) (by simp) ?_)
 exact iG hh λh' e=>k h' λb o hb g=>e b o (((aaL ..).trans (aaL ..)).extBut b o hb g)
theorem kh{Q:Option (Value×Nat)->Shared->Prop}(ht:w.params.followText "set-order" = true)(hS:yC s.heap a es ep t)
  (h:Q (((ad1 (w.params.setOrder a ep) es)[i]?).map λe=>(e.2,slot)) s):wpAny (model prog w) A (setNext a slot i ep) Q E s:=by
 obtain⟨o,ho,hd,hf⟩:=hS
 unfold setNext
 refine aab (acr ho hd hf ?_)
 dsimp only
 unfold setsByText
 refine aab (aab (acD (aaf ?_)))
 rw[if_pos (show (model prog w).w.params.followText "set-order" = true from ht),if_neg (by simp)]
 unfold setWalk
 refine aab (aab (acr ho hd hf ?_))
 dsimp only
 unfold setsByText
 refine aab (aab (acD (aaf ?_)))
 rw[if_pos (show (model prog w).w.params.followText "set-order" = true from ht)]
 exact aab (acD (aaf (aaf h)))
theorem ie{Q:Option (Value×Nat)->Shared->Prop}(ht:w.params.followText "set-order" = false)(hS:yC s.heap a es ep t)(hl:t.led=true)(hz:es.size<=1)
  (h:Q (match es[ac1 t.place slot]?,t.place[ac1 t.place slot]? with|some (_,x),some j=>some (x,j+1)|_,_=>none) s):wpAny (model prog w) A (setNext a slot i ep) Q E s:=by
 obtain⟨o,ho,hd,hf⟩:=hS
 unfold setNext
 refine aab (acr ho hd hf ?_)
 dsimp only
 unfold setsByText
 refine aab (aab (acD (aaf ?_)))
 rw[if_neg (show ¬ ((model prog w).w.params.followText "set-order" = true)from by show ¬ (w.params.followText "set-order" = true);rw[ht];exact aaz)]
 refine adZ (λ(Rn:(!t.plain && decide (es.size > 1))=true)=>absurd Rn (by rw[decide_eq_false (by omega),afz];exact aaz)) (λ_=>?_)
 refine aab (?_:wpAny _ _ (if (!t.led && !es.isEmpty)=true then unsupported _ else pure ()) _ _ _)
 rw[if_neg (by rw[hl];simp)]
 refine aaf (aaf ?_)
 exact h
theorem fx:Slot "set_iterator" "__iter__" "set_iterator.__iter__" :=
 .of (owner := "set_iterator") (n := "__iter__") (by rw[ae5,ad3];kernel_rfl) (by decide +kernel) (by decide +kernel) (by decide +kernel)
  (by first|exact .inl (by decide +kernel)|exact .inr (by decide +kernel)) (by rw[afs];kernel_rfl)
theorem jR:entryFor table "set_iterator.__iter__" = some ack.«dict_keyiterator.__iter__»:=entryFor_alias (id' := "dict_keyiterator.__iter__") (by kernel_rfl) rfl (by decide +kernel) (by kernel_rfl)
theorem kU(a:Value):argsOk "set_iterator.__iter__" ⟨[a],[]⟩:=by
 unfold argsOk;rw[signature?_of (id := "set_iterator.__iter__") (n := "__iter__".toList.reverse) (o := "set_iterator".toList.reverse) (by kernel_rfl) kf];kernel_rfl
theorem gZ{Q:Value->Shared->Prop}(x:yd s.heap it f i a n ep)(h:Q (.ref it) s):wpAny (model prog w) A (pyIter (.ref it)) Q E s:=by
 refine wpAny_pyIter_slot x.typeIs fx (abN fx x.typeIs jR (?_:wpAny _ _ (ret (.ref it)) _ _ s) (kU _))
 exact aaf ⟨_,rfl, "set_iterator",_,x.typeIs,xN.lookup,h⟩
theorem yd.keep(x:yd h it f i a n ep)(k:∀o,h.get? it=some o->h'.get? it=some o):yd h' it f i a n ep:=let ⟨o,e,r⟩:=x;⟨o,k o e,r⟩
theorem yC.keep(x:yC h a es ep t)(k:∀o,h.get? a=some o->h'.get? a=some o):yC h' a es ep t:=let ⟨o,e,r⟩:=x;⟨o,k o e,r⟩
theorem D4.keep(x:D4 h T pl)(k:∀o,h.get? T=some o->h'.get? T=some o):D4 h' T pl:=let ⟨o,m,e,r⟩:=x;⟨o,m,k o e,r⟩
theorem IY(hh:A.handled=none)(ht:w.params.followText "set-order" = true)(yq:a≠it):
  Walks prog w A it [it,a,it] [it] ((ad1 (w.params.setOrder a ep) es).toList.map (·.2)).length (λi v=>((ad1 (w.params.setOrder a ep) es).toList.map (·.2))[i]?=some v)
   (λi h=>yd h it (.int ((0:Nat):Int) 0) i a es.size ep/\yC h a es ep t) where
 sub:=λb hb=>by simp at hb;simp[hb]
 frame:=λ_ _ _ st k=>⟨st.1.keep λo e=>k it (by simp) o e,st.2.keep λo e=>k a (by simp) o e⟩
 item:=λi s Q E hi st k=>by
  have Bl:i<(ad1 (w.params.setOrder a ep) es).toList.length:=by rw[aad]at hi;exact hi
  refine j7 (nx:=0) (v:=((ad1 (w.params.setOrder a ep) es).toList[i]).2) st.1 st.2 rfl (λQ E q=>kh ht st.2 ?_) λh' x sb=>k _ h' s.toks ?_ ⟨x,st.2.keep λo e=>sb.extBut a o yq e⟩ λb o hb e=>sb.extBut b o (λz=>hb (by simp[z])) e
  .rw[<- abp,aaa Bl];exact q
  .rw[aai,aaa Bl];rfl
 done:=λs Q E st k=>by
  refine g5 hh st.1 st.2 rfl (λQ E q=>kh ht st.2 ?_) λh' x=>k h' s.toks λb o hb e=>x b o (λz=>hb (by simp[z])) e
  rw[aad,<- abp,aan (aak _)]
  exact q
 self:=λi s Q E st h=>gZ st.1 h
theorem nZ(xs:Array Nat)(hz:xs.size<=1):ac1 xs 0=0:=by
 unfold ac1
 rcases aaO xs.size 1 with h|h
 .have:xs.size=0:=by omega
  rw[this];rfl
 .have:xs.size=1:=by omega
  rw[this]
  unfold adG
  simp only[adk,↓reduceIte,Nat.not_lt_zero]
  unfold adG
  rfl
theorem uI(xs:Array Nat)(p:Nat)(hz:xs.size=1)(hp:xs[0]?=some p):ac1 xs (p+1)=1:=by
 unfold ac1
 rw[hz]
 unfold adG
 have e:xs.getD 0 (p+1)=p:=by rw[adp,hp];rfl
 simp only[adk,↓reduceIte]
 rw[show (0+1) / 2=0 from rfl,e,if_pos (abw p)]
 unfold adG
 rfl
theorem walk1(hh:A.handled=none)(ht:w.params.followText "set-order" = false)(yq:a≠it)(hl:t.led=true)(hz:es.size<=1)(hf:t.fits es.size=true):
  Walks prog w A it [it,a,it] [it] (es.toList.map (·.2)).length (λi v=>(es.toList.map (·.2))[i]?=some v)
   (λi h=>yd h it (.int ((if i=0 then 0 else t.place.getD 0 0+1:Nat):Int) 0) i a es.size ep/\yC h a es ep t):=by
 have FD:t.place.size=es.size:=by
  unfold SetTable.fits at hf
  rw[aaT]at hf
  exact eq_of_beq hf.1
 refine⟨λb hb=>by simp at hb;simp[hb],λ_ _ _ st k=>⟨st.1.keep λo e=>k it (by simp) o e,st.2.keep λo e=>k a (by simp) o e⟩,λi s Q E hi st k=>?_,λs Q E st k=>?_,λi s Q E st h=>gZ st.1 h⟩
 .have h1:es.toList.length=1:=by rw[aad]at hi;rw[aay]at hi ⊢;omega
  have FC:es.size=1:=by rw[<- aay];exact h1
  have Q5:i=0:=by rw[aad,h1]at hi;omega
  subst Q5
  have xA:0<es.toList.length:=by rw[h1];exact adk
  obtain⟨p,hp⟩:∃p,t.place[0]?=some p:=⟨_,abI (by rw[FD,FC];exact adk)⟩
  have hg:t.place.getD 0 0=p:=by rw[adp,hp];rfl
  rw[if_pos rfl]at st
  refine j7 (nx:=p+1) (v:=(es.toList[0]).2) st.1 st.2 rfl (λQ E q=>ie ht st.2 hl hz ?_) λh' x sb=>k _ h' s.toks ?_ ⟨?_,st.2.keep λo e=>sb.extBut a o yq e⟩ λb o hb e=>sb.extBut b o (λz=>hb (by simp[z])) e
  .rw[nZ _ (by rw[FD];exact hz),hp,<- abp,aaa xA];exact q
  .rw[aai,aaa xA];rfl
  .rw[if_neg (by omega),hg];exact x
 .rcases aaO es.size 1 with h|h
  .have h0:es.size=0:=by omega
   rw[aad,aay,h0,if_pos rfl]at st
   refine g5 hh st.1 st.2 h0 (λQ E q=>ie ht st.2 hl hz ?_) λh' x=>k h' s.toks λb o hb e=>x b o (λz=>hb (by simp[z])) e
   rw[nZ _ (by rw[FD];exact hz),adY (by omega)];exact q
  .have FC:es.size=1:=by omega
   rw[aad,aay,FC,if_neg (by decide)]at st
   obtain⟨p,hp⟩:∃p,t.place[0]?=some p:=⟨_,abI (by rw[FD,FC];exact adk)⟩
   have hg:t.place.getD 0 0=p:=by rw[adp,hp];rfl
   rw[hg]at st
   refine g5 hh st.1 st.2 FC (λQ E q=>ie ht st.2 hl hz ?_) λh' x=>k h' s.toks λb o hb e=>x b o (λz=>hb (by simp[z])) e
   rw[uI _ p (by rw[FD];exact FC) hp,adY (by omega)];exact q
theorem IZ(hh:A.handled=none)(yq:a≠it)(hT:T≠it)(hv:vs.length=pl.length)(hp:∀i p:Nat,pl[i]?=some p->∃h v,es[p]?=some (h,v)/\vs[i]?=some v):
  Walks prog w A it [it,a,T] [it] vs.length (λi v=>vs[i]?=some v) (λi h=>yd h it (.ref T) i a es.size ep/\yC h a es ep t/\D4 h T pl) where
 sub:=λb hb=>by simp at hb;simp[hb]
 frame:=λ_ _ _ st k=>⟨st.1.keep λo e=>k it (by simp) o e,st.2.1.keep λo e=>k a (by simp) o e,st.2.2.keep λo e=>k T (by simp) o e⟩
 item:=λi s Q E hi st k=>by
  obtain⟨h,v,e1,e2⟩:=hp i _ (aaa (by rw[<- hv];exact hi))
  exact pj st.1 st.2.1 rfl st.2.2 (aaa (by rw[<- hv];exact hi)) e1 λh' x sb=>k _ h' s.toks e2 ⟨x,st.2.1.keep λo e=>sb.extBut a o yq e,st.2.2.keep λo e=>sb.extBut T o hT e⟩ λb o hb e=>sb.extBut b o (λz=>hb (by simp[z])) e
 done:=λs Q E st k=>qQ hh st.1 st.2.1 rfl st.2.2 (aan (by omega)) λh' x=>k h' s.toks λb o hb e=>x b o (λz=>hb (by simp[z])) e
 self:=λi s Q E st h=>gZ st.1 h
theorem pB(d:α):∀l:List α,(aaR l.length).map (λp=>l.getD p d)=l:=λl=>by
 refine ab7 λi=>?_
 rw[aai]
 rcases aaO i l.length with h|h
 .rw[abT h,aaa h,ad8,aag,aaa h];rfl
 .rw[aan (by rw[ab5];exact h),aan h];rfl
theorem yj.typeIs(x:yj prog w s.heap a ss):s.TypeIs (.ref a) "set" := let ⟨o,_,_,_,_,ho,hc,_⟩:=x;⟨o,ho,hc.1⟩
theorem JQ{Q:Value->Shared->Prop}(hh:A.handled=none)(hS:yj prog w s.heap a ss)
  (h:∀(h':Heap) (d:Drawn) (it T:Addr) (vs:List Value) (ks:List Str) (St:Nat->Heap->Prop),s.heap.objs.size<=it->s.heap.objs.size<=T->acd vs ks->ks.Perm ss->(∀b o,s.heap.get? b=some o->h'.get? b=some o) ->
   Walks prog w A it [it,a,T] [it] vs.length (λi v=>vs[i]?=some v) St->St 0 h'->Q (.ref it) {s with heap:=h',drawn:=d}):wpAny (model prog w) A (pyIter (.ref a)) Q E s:=by
 have hT:=hS.typeIs
 obtain⟨o,es,ep,t,ks,ho,hex,hd,HM,Cw,p,hb,hf,Bj,yt⟩:=hS
 have xA:=aaj ho
 refine wpAny_pyIter_slot hT PySem.F.slot_set_iter (abN PySem.F.slot_set_iter hT jS ?_ (PySem.F.args_set_iter_1 _))
 unfold ack.«frozenset.__iter__» Builtin.Frozenset.slot0 slotArgs
 simp only[List.isEmpty_nil,adT,abl,↓reduceIte,bind_assoc,ab6,bne_self_eq_false]
 unfold Builtin.Frozenset.addrOf Builtin.Frozenset.sizeOf
 refine aab (aaf ?_)
 try dsimp only
 refine aab (aaf ?_)
 refine aab (aab (acE ho hd hf (aaf ?_)))
 have hS:yC s.heap a es ep t:=⟨o,ho,hd,hf⟩
 have Rc:∀(Q:Bool->Shared->Prop) (E:Value->Shared->Prop),Q (!w.params.followText "set-order" && (!t.plain && decide (es.size > 1))) s->wpAny (model prog w) A.in1 (setDrawn a) Q E s:=λQ E q=>by
  unfold setDrawn
  refine aab (acr ho hd hf ?_)
  dsimp only
  unfold setsByText
  exact aab (aab (acD (aaf (aaf q))))
 refine aab (Rc _ _ ?_)
 have plain:∀(vs:List Value) (ks:List Str) (St:Nat->Heap->Prop),acd vs ks->ks.Perm ss->Walks prog w A s.heap.objs.size [s.heap.objs.size,a,s.heap.objs.size] [s.heap.objs.size] vs.length (λi v=>vs[i]?=some v) St ->
   (∀h':Heap,yd h' s.heap.objs.size (.int ((0:Nat):Int) 0) 0 a es.size ep->yC h' a es ep t->St 0 h')->wpAny (model prog w) A.in1 (do
     let first <- pure (rawInt 0)
     let e <- setEpoch a
     let it <- newFields "set_iterator" [first,rawInt 0,aaM a,rawInt es.size,rawInt e]
     ret it) (λfin s'=>∃v,fin=.done (.ret v)/\∃T' r,s'.TypeIs v T'/\typeLookup (.type T') (abn "__next__")=pure (some r)/\Q v s') E s:=by
  intro vs ks St h1 h2 W Bv
  refine aab (aaf ?_)
  refine aab (wpAny_setEpoch_of ho hd hf ?_)
  refine aab (abi (aaf ⟨_,rfl, "set_iterator",_,⟨_,aal _ rfl,rfl⟩,xN.lookup,?_⟩))
  exact h _ s.drawn _ _ vs ks St (aak _) (aak _) h1 h2 (λb o e=>aac _ e) W (Bv _ ⟨_,aal _ rfl,rfl,rfl⟩ (hS.keep λo e=>aac _ e))
 cases ht:w.params.followText "set-order" with
 |true=>
  rw[adT,afy,if_neg aaz]
  obtain⟨k1,a1,a2⟩:=bX ((jC (w.params.setOrder a ep) es).map (·.2)) Cw
  exact plain _ k1 _ a1 (a2.trans p) (IY hh ht (aap xA)) λh' x y=>⟨x,y⟩
 |false=>
  rcases aaO 1 es.size with hz|hz
  .rw[yt (by omega),decide_eq_true hz]
   refine(?_:wpAny _ _ (if true=true then _ else _) _ _ _)
   rw[if_pos rfl]
   refine aab (dr _ _ _ _ ab5 λpl d pp=>?_)
   refine aab ?_
   unfold newTuple
   have hlen:pl.length=es.size:=by rw[pp.length_eq,ab5]
   refine abi ?_ (by
    show ((pl.map λ(i:Nat)=>rawInt i).toArray).size<=sizeLine
    rw[aae,aad,hlen];exact aeE hb)
   refine aab (wpAny_setEpoch_of (aac _ ho) hd hf ?_)
   refine aab (abi (aaf ⟨_,rfl, "set_iterator",_,⟨_,aal _ rfl,rfl⟩,xN.lookup,?_⟩))
   have e0:(pl.map (λp=>(es.toList.getD p (0,.none)).2)).Perm (es.toList.map (·.2)):=by
    have q:=pp.map (λp=>(es.toList.getD p (0,.none)).2)
    rw[<- aay]at q
    have e:=congrArg (List.map (·.2)) (pB ((0:Int),aa1) es.toList)
    rw[aaw]at e
    exact q.trans (by rw[<- e];exact .refl _)
   obtain⟨k1,a1,a2⟩:=bX e0 Cw
   refine h _ d _ s.heap.objs.size _ k1 _ ?_ (aak _) a1 (a2.trans p) (λb o e=>aac _ (aac _ e))
    (IZ (t:=t) (ep:=ep) (es:=es) (pl:=pl) hh ?_ ?_ (aad ..) λi q hq=>?_) ⟨⟨_,aal _ rfl,rfl,rfl⟩,hS.keep λo e=>aac _ (aac _ e),⟨_,_,aac _ (aal _ rfl),rfl⟩⟩
   .rw[abC];exact acW _
   .rw[abC];exact aap (aa7 xA)
   .rw[abC];exact aap (abw _)
   .have hm:q∈aaR es.size:=pp.mem_iff.mp (aaI hq)
    have Lo:q<es.toList.length:=by rw[aay];exact List.mem_range.mp hm
    refine⟨_,_,(by rw[<- abp];exact aaa Lo),?_⟩
    rw[aai,hq,ad8,aag,aaa Lo];rfl
  .rw[decide_eq_false (by omega),afz,afz,if_neg aaz]
   exact plain _ ks _ Cw p (walk1 hh ht (aap xA) (Bj ht) hz hf) λh' x y=>⟨x,y⟩
end L2
namespace L2
open PySem PySem.Spec PyProof.Rows PySem.Calls PyProof.V
variable{prog:aaB}{w:World}{A:Around}{E:Value->Shared->Prop}{s:Shared}
variable{r:Addr}{Q:Bool->Shared->Prop}
theorem rT(hT:s.TypeIs (.ref r) "set")(h:Q false s):wpAny (model prog w) A (afo (.ref r)) Q E s:=by
 unfold afo
 refine aab (wpAny_specialOf hT PySem.F.slot_set_len.lookup ?_)
 generalize hn:("set.__len__" : String)=nm
 wp_delta
 rw[show splitId nm=some ("set", "__len__")from by subst hn;decide +kernel]
 subst hn
 refine aab (wpAny_isInstance (T := "set") (b:=true) hT (by rw[afs];kernel_rfl) ?_)
 refine adZ (λq=>absurd q (by decide)) λ_=>adZ (λ_=>?_) λq=>absurd (by decide +kernel) q
 exact aab (ac2 hT (aaf h))
variable{ss:List Str}
theorem ui{R:Result->Shared->Prop}{S:Addr}(hh:A.handled=none)(hX:yj prog w s.heap r ss)(O0:S≠r)(res:Value)(c₀:Nat)(hS:s.heap.get? S=some {cls:=.type "list",data:=.seq #[] c₀})(hn:ss.length<=sizeLine)
  (hR:∀h' tk d acc c' ks,(∀b o,b≠S->s.heap.get? b=some o->h'.get? b=some o)->h'.get? S=some {cls:=.type "list",dict:=none,data:=.seq acc c',slots:=#[]}->acd acc.toList ks->ks.Perm ss->R (.ok (.ret res)) {s with heap:=h',toks:=tk,drawn:=d}) :
  wpAny (model prog w) A.in1 (ado (.ref S) (.ref r) res)
   (λfin s'=>match fin with|.done f=>R (.ok f) s'|.again c'=>c'.quiet=true/\adi (model prog w) A c' R s') (λe s'=>R (.error e) s') s:=by
 have ON:=aaj hS
 unfold ado
 refine aab (ac2 (T := "set") hX.typeIs ?_)
 have h1:Builtin.List.listSameRef (.ref S) (.ref r)=false:=by simp[Builtin.List.listSameRef,O0]
 have h2:(aby "set" == aby "list")=false:=by decide
 have h3:(aby "set" == aby "tuple")=false:=by decide
 simp only[h1,h2,h3,Bool.or_false,abl,if_false]
 refine aab (JQ hh hX λhp d it T vs ks St l1 l2 a1 a2 kp W st=>?_)
 have hz:vs.length<=sizeLine:=by rw[a1.length,a2.length_eq];exact hn
 have O1:S∉[it,r,T]:=by
  simp only[abZ,ac7,or_false,not_or]
  exact⟨aap (aaE ON l1),O0,aap (aaE ON l2)⟩
 have key:∀(h:Heap) (c₁ tk:Nat),St 0 h->(∀b o,b≠S->s.heap.get? b=some o->h.get? b=some o)->h.get? S=some {cls:=.type "list",data:=.seq #[] c₁} ->
   adi (model prog w) A (.builtin "list.extend.loop" ⟨[.ref S,.ref it,res],[]⟩) R {s with heap:=h,toks:=tk,drawn:=d}:=by
  intro h c₁ tk Bv hk hS₁
  refine codeAny_extend_loopS W.toS hz S O1 res vs.length 0 _ #[] c₁ rfl (aaS _) Bv hS₁ (ItemsOf.nil _) λs' acc c' hm HU HS=>?_
  rw[Moved.eq_with hm]
  have Ra:acc.toList=vs:=by
   refine ab7 λi=>?_
   rcases aaO i vs.length with q|q
   .have hi:i<acc.size:=by rw[HS.1];exact q
    rw[abp,abI hi]
    exact(HS.2 i _ (abI hi)).symm
   .rw[aan q,aan (by rw[aay,HS.1];exact q)]
  refine hR s'.heap s'.toks d acc c' ks (λb o hb e=>hm.heap b o (λq=>?_) (hk b o hb e)) HU (by rw[Ra];exact a1) a2
  rcases List.mem_cons.mp q with z|q
  .exact hb z
  .exact absurd (aaj e) (by rw[List.mem_singleton.mp q];exact Nat.not_lt.mpr l1)
 have hS₁:=kp _ _ hS
 have Rp:yj prog w hp r ss:=hX.keep λo e=>kp _ _ e
 refine aab (aaN (rT Rp.typeIs ?_))
 refine adZ (λ_=>?_) (λ_=>aaf ⟨abP aft _,key _ c₀ _ st (λb o _ e=>kp _ _ e) hS₁⟩)
 refine aab (adc (aab ?_))
 refine(?_:wpAny _ _ (ae4 S (·.push .none) >>= λ_=>ae4 S (·.pop)) _ _ _)
 refine aab (ade hS₁ rfl ?_)
 have hS₂:=abz (abj (·.push aa1)) hS₁ rfl
 refine ade (hz:=by seq_fits) hS₂ rfl ?_
 have hS₃:=abz (abj (·.pop)) hS₂ rfl
 have wN:∀b,b≠S->∀o,hp.get? b=some o->((hp.update S (abj (·.push aa1))).update S (abj (·.pop))).get? b=some o:=λb hb o e=>
  (acS _ _ (abv hb)).trans ((acS _ _ (abv hb)).trans e)
 exact aaf ⟨abP aft _,key _ _ _ (W.frame 0 _ _ st λb hb o e=>wN b (λz=>O1 (z ▸ hb)) o e) (λb o hb e=>wN b hb o (kp _ _ e)) hS₃⟩
theorem sk{R:List Value->Shared->Prop}(hh:A.handled=none)(hX:yj prog w s.heap r ss)(hn:ss.length<=sizeLine)
  (h:∀(h':Heap) (tk:Nat) (d:Drawn) (vs:List Value) (ks:List Str),(∀b o,s.heap.get? b=some o->h'.get? b=some o)->acd vs ks->ks.Perm ss->R vs {s with heap:=h',toks:=tk,drawn:=d}) :
  wpAny (model prog w) A (collect (.ref r)) R E s:=by
 have xA:r<s.heap.objs.size:=by obtain⟨o,_,_,_,_,e,_⟩:=hX;exact aaj e
 unfold collect
 refine aab (wpAny_runValue (abJ entry_proto_collect' ?_))
 rw[abr PySem.F.plain_proto_collect _]
 refine(?_:wpAny _ A.in1 (newList [] >>= λl=>again (.builtin "list.__iadd__" ⟨[l,.ref r],[]⟩)) _ _ s)
 refine aab (abi (aaf ⟨abP PySem.F.plain_list_iadd _,abJ entry_list_iadd' ?_⟩))
 rw[abr PySem.F.plain_list_iadd _]
 have e1:(s.heap.push {cls:=.type "list",data:=.seq ([]:List Value).toArray}).get? s.heap.objs.size=some {cls:=.type "list",data:=.seq #[]}:=aal _ rfl
 refine(?_:wpAny _ A.in1 (ado (.ref s.heap.objs.size) (.ref r) (.ref s.heap.objs.size)) _ _ _)
 have key:=ui (A:=A) (s:={s with heap:=s.heap.push {cls:=.type "list",data:=.seq ([]:List Value).toArray}})
  (R:=λq s'=>∃h' tk d acc c' ks,q=.ok (.ret (.ref s.heap.objs.size))/\s'={s with heap:=h',toks:=tk,drawn:=d}/\(∀b o,s.heap.get? b=some o->h'.get? b=some o) /\
   h'.get? s.heap.objs.size=some {cls:=.type "list",dict:=none,data:=.seq acc c',slots:=#[]}/\acd acc.toList ks/\ks.Perm ss)
  hh (hX.keep λo e=>aac _ e) (aca xA) (.ref s.heap.objs.size) 0 e1 hn
  λh' tk d acc c' ks k1 k2 k3 k4=>⟨h',tk,d,acc,c',ks,rfl,rfl,λb o e=>k1 b o (aap (aaj e)) (aac _ e),k2,k3,k4⟩
 refine aaJ key (λfin s' x=>?_) λe s' x=>?_
 .cases fin with
  |done f=>
   obtain⟨h',tk,d,acc,c',ks,e,rfl,k1,k2,k3,k4⟩:=x
   cases e
   exact aab (wpAny_load k2 (aaf (h h' tk d _ ks k1 k3 k4)))
  |again c₁=>
   refine⟨x.1,adt x.2 λq s₂ y=>?_⟩
   obtain⟨h',tk,d,acc,c',ks,rfl,rfl,k1,k2,k3,k4⟩:=y
   exact aab (wpAny_load k2 (aaf (h h' tk d _ ks k1 k3 k4)))
 .obtain⟨_,_,_,_,_,_,e',_⟩:=x
  cases e'
end L2
namespace L2
open PySem PySem.Spec PyProof.Rows
variable{prog:aaB}{w:World}{A:Around}{E:Value->Shared->Prop}{s:Shared}
variable{x:Value}{Q:Value->Shared->Prop}
theorem oe(hc:wpAny (model prog w) A.in1 (collect x) (λvs s1=>∃ss:List Str,acd vs ss/\vs.length<64 /\
   (∀(h2:Heap) (out:List Value) (zr:List Str) (n:Nat),(∀b o,s1.heap.get? b=some o->h2.get? b=some o)->h2.get? s1.heap.objs.size=some (seqObj "list" out.toArray n)->acd out zr->zr.Perm ss->sortedS zr=true->Q (.ref s1.heap.objs.size) {s1 with heap:=h2})) E s) :
  wpAny (model prog w) A (call (.builtin "sorted") [x]) Q E s:=by
 refine adC afc aeQ aeR (args_sorted1 _) ?_
 unfold ack.«sorted»
 refine aab (m:=checkCount "sorted" 1 1 _) (aaf (aab (aaJ hc (λvs s1 hv=>?_) λ_ _ e=>e)))
 obtain⟨ss,hS,zS,k⟩:=hv
 refine aab (acs ?_ (by rw[aaA];omega))
 have Io:(s1.heap.push (seqObj "list" vs.toArray 0)).get? s1.heap.objs.size=some (seqObj "list" vs.toArray 0):=aal _ rfl
 refine aab (aaN (abN adz ⟨_,Io,rfl⟩ adh (list_sort_treeK strKind_oneLt Io hS.keysOf (λv₁ v₂ rest e=>keyKind_strs (by rw[<- e];exact hS)) zS λst p q=>⟨_,rfl,?_⟩) (aek _)))
 obtain⟨zr,b1,b2,b3⟩:=sorted_out_str hS p q
 obtain⟨n,at2⟩:=sortedHeap_at (out:=(arrOf st).map (·.2)) Io
 refine aaf ⟨_,rfl,k _ ((arrOf st).map (·.2)).toList zr n (λb o e=>?_) (by rw[ada];exact at2) b1 b2 b3⟩
 have lt:=aaj e
 rw[sortedHeap_old (aap lt) (by rw[size_push'];exact aa7 lt)]
 exact aac _ e
variable{X:Cx}{pins:List (Addr×Obj)}{H:Hp}
theorem Inv.RO{σ:List (Option V)}(I:Inv X pins σ H s)(d:Drawn):Inv X pins σ H {s with drawn:=d} :=
 ⟨I.ok,I.os,I.bare,I.base,I.loc,I.cell,I.free,I.yA,I.pin,I.wU,I.len⟩
def BY(P:aaB)(w:World)(a:Addr)(ss:List Str):HO:=.ext λh=>yj P w h a ss
variable{P:aaB}{h:Heap}{a:Addr}{ss:List Str}
theorem Hc(x:yj P w h a ss):xa P w H h a (BY P w a ss) :=
 ⟨x,(by obtain⟨o,_,_,_,_,e,_⟩:=x;exact⟨o,e⟩),λh1 h2 y k=>yj.keep y k⟩
def Ho(P:aaB)(w:World):List V->Hp->VK->Prop:=λxs H Q=>∃(p:Addr) (ss:List Str),xs=[.ref p]/\H p=some (.lst (ss.map V.str))/\ss.length<=1000/\∀l,H l=none->Q (.ref l) (upd H l (BY P w l (A6 ss)))
theorem oY(hc:X.calm=true):wX X (.type "set") (Ho X.prog X.w):=by
 intro pins s σ H xs us Q I r h
 obtain⟨p,ss,rfl,hq,hl,k⟩:=h
 obtain⟨u,rfl,ru⟩:=r.one
 cases ru
 obtain⟨_,gE,n,rv,g⟩:=I.wU p _ hq
 refine jU (I.ok.hd hc) ⟨_,g,rfl,n,rfl⟩ (by simpa using iE rv) (by unfold scanBound;omega) λh' tk q1 q2 q3=>?_
 exact⟨.ref s.heap.objs.size,_,I.laid (t':=tk) (o:=BY X.prog X.w s.heap.objs.size (A6 ss)) (λb o e=>q2 b o (aaj e) e) (aak _) (Hc q1),rfl,k _ (I.wU.fresh (aak _))⟩
def Hj(P:aaB)(w:World):List V->Hp->VK->Prop:=λxs H Q=>∃(a:Addr) (ss:List Str),xs=[.ref a]/\H a=some (BY P w a ss)/\ss.length<64 /\
 ∀(l:Addr) (ts:List Str),H l=none->ts.Perm ss->ts.Pairwise (λa b=>¬ xq b a)->Q (.ref l) (upd H l (.lst (ts.map V.str)))
theorem oQ(hc:X.calm=true):wX X (.builtin "sorted") (Hj X.prog X.w):=by
 intro pins s σ H xs us Q I r h
 obtain⟨a,ss,rfl,ha,zS,k⟩:=h
 obtain⟨u,rfl,ru⟩:=r.one
 cases ru
 obtain⟨x,_,_⟩:=I.wU a _ ha
 refine oe (sk (A:=X.A.in1) (I.ok.hd hc) x (by rw[aaA];omega) λh1 tk d vs ks kk a1 a2=>?_)
 refine⟨ks,a1,by rw[a1.length,a2.length_eq];exact zS,λh2 out zr n k2 e2 o1 o2 o3=>?_⟩
 have I1:Inv X pins σ H {s with heap:=h1,toks:=tk}:=I.kept kk
 have I2:=I1.laid (t':=tk) (a:=h1.objs.size) (o:=.lst (zr.map V.str)) (λb o q=>k2 b o q) (aak _) ⟨by rw[aad,o2.length_eq,a2.length_eq,aaA];omega,out,n,dt o1,e2⟩
 exact⟨.ref h1.objs.size,_,I2.RO d,rfl,k _ zr (I1.wU.fresh (aak _)) (o2.trans a2) (dL o3)⟩
end L2
namespace Q
open PySem L2 PyProof.Rows
def iq(fa:WA):WE:=λenv P=>fa env λxs e=>match xs with
 |[.lst ys]=>∃ss,ys.mapM Bq=some ss/\ss.length<=1000/\(A6 ss).length<64/\∀ts,Ba (A6 ss) ts->P (.lst (ts.map .str)) e
 |_=>False
variable{ob:xV}{X:Cx}{a b c e:Expr}{es:List Expr}{f g h:WE}{fa:WA}{pos CL p p1 p2:Pos}{x:Str}
theorem oO(hc:X.calm=true)(hg:Gl X "sorted")(hm:X.mg "sorted" = none)(Q7:Gl X "set")(QT:X.mg "set" = none)(ha:BU ob X [e] fa)(Rb:aam [e] X.env=(false,eval e X.env)::aam [] X.env:=by rfl)
  (he:aam [.Call (.Name "set" p2) [e] [] CL] X.env=(false,eval (.Call (.Name "set" p2) [e] [] CL) X.env)::aam [] X.env:=by rfl) (M4:(backTo CL (aam [] X.env)).any (·.1)=false:=by rfl) (yt:(backTo pos (aam [] X.env)).any (·.1)=false:=by rfl) :
  C8 ob X (.Call (.Name "sorted" p) [.Call (.Name "set" p2) [e] [] CL] [] pos) (iq fa):=by
 obtain⟨t,ht,k⟩:=ha.ex
 refine⟨_,bF (oQ hc) hg hm aeq (aP (fK (oY hc) Q7 QT PyProof.Rows.boot_set ht (by decide) (by decide) Rb M4) aV he) (by decide) (by decide) he yt,λZ F σ H env P Q K hf kk=>k Z F σ H env _ _ K hf λxs e1 vs F1 H1 p s1 K1 r1=>?_⟩
 split at p
 .obtain⟨ss,hs,hl,zS,p⟩:=p
  obtain⟨v,rfl,r⟩:=r1.one
  obtain⟨q,vs,rfl,h1,h2⟩:=r.lst K1.sF
  have:=cX jl hs h2
  subst this
  refine⟨q,ss,rfl,h1,hl,λl hn=>⟨l,_,rfl,ag,zS,λm ts hm hp hw=>?_⟩⟩
  have sH:dO H1 (upd H1 l (BY X.prog X.w l (A6 ss))):=ay hn
  have K2:=K1.move aj (ai K1.sF sH) sH λ_ h=>.inl h
  exact kk _ e1 _ F1 _ (p ts ⟨hp,hw⟩) s1 (λ_=>by simp) (K2.own hm ⟨_,ag,dy ts⟩)
 .exact p.elim
end Q
namespace L2
open PySem PySem.Spec PyProof.Rows PyProof.Rows.KTD
variable{prog:aaB}{w:World}{A:Around}{E:Value->Shared->Prop}{s:Shared}
variable{X:Cx}
end L2
namespace Q
open PySem L2 PyProof.Rows PyProof.Rows.KTD
variable{ob:xV}{X:Cx}{e ke:Expr}{es:List Expr}{fk:WE}{fa:WA}{x y tb:Str}{p p1 p2 p3 py pos P9 CL P8:Pos}
end Q
namespace L2
open PySem PySem.Spec PyProof.Rows
variable{X:Cx}
end L2
namespace Q
open PySem L2 PyProof.Rows
variable{ob:xV}{X:Cx}{e ke:Expr}{es:List Expr}{fa:WA}{fk:WE}{x:Str}{pos p p1 apos xg CL:Pos}
variable{P:aaB}{w:World}{K:aah}{mg:Str->Option Value}{base:Heap}
variable{k:Nat}{yT:Addr}{fd:abA}{ps:List Str}{DO:FdOT}
end Q
namespace L2
open PySem PySem.Spec PyProof.Rows
variable{X:Cx}{e st:Expr}{te PH:TE}{pos p2:Pos}
end L2
namespace Q
open PySem L2 PyProof.Rows
variable{ob:xV}{X:Cx}{e:Expr}{f:WE}{pos:Pos}
end Q
namespace L2
open PySem PySem.Spec PyProof.Rows
variable{X:Cx}{o e:Expr}{to te:TE}{apos pos:Pos}
end L2
namespace Q
open PySem L2 PyProof.Rows
variable{ob:xV}{X:Cx}{a b:Expr}{f g:WE}{apos pos:Pos}
end Q
namespace L2
open PySem PySem.Spec PyProof.Rows PySem.W
section
open PySem.SeqAt
open PySem.AutoSeq1 (wpAny_loadPart')
open PySem.MeetsSeq PySem.MeetsSeq2 PySem.MeetsSeq3
end
variable{prog:aaB}{w:World}{A:Around}{R:Result->Shared->Prop}
variable{E:Value->Shared->Prop}{s:Shared}
variable{X:Cx}{lq d x:Str}{wY p p1 p2 p3 p4 zd Bs pos:Pos}{P c:Addr}{params:Arguments}{scope:Scope}{e:Expr}{te:TE}{i k:Nat}{kd:_}
end L2
namespace Q
open PySem L2 PyProof.Rows PySem.W
variable{X:Cx}{lq d x:Str}{wY p p1 p2 p3 p4 zd Bs pos:Pos}{T c:Addr}{params:Arguments}{scope:Scope}{e:Expr}{f:WE}{i j k:Nat}{ob:xV}{kd:_}
end Q
namespace L2
open PySem PySem.Spec PyProof.Rows
end L2
namespace Q
open PySem L2 PyProof.Rows PySem.W
variable{X:Cx}{lq d x:Str}{wY p p1 p2 p3 p4 zd Bs pos:Pos}{T c:Addr}{params:Arguments}{scope:Scope}{e:Expr}{f:WE}{i j k:Nat}{ob:xV}{kd:_}
end Q
namespace L2
open PySem PySem.Spec PyProof.Rows
variable{prog:aaB}{w:World}{A:Around}{E:Value->Shared->Prop}{s:Shared}
variable{X:Cx}{e l:Expr}{te:TE}{tl:TO}{pos p2 p3:Pos}{c:Int}{j:_}
end L2
namespace Q
open PySem L2 PyProof.Rows
end Q
namespace L2
open PySem PySem.Spec PyProof.Rows
variable{prog:aaB}{w:World}{A:Around}{R:Result->Shared->Prop}
end L2
namespace Q
open PySem L2 PyProof.Rows
variable{ob:xV}{X:Cx}
end Q
namespace L2
open PySem PySem.Spec PyProof.Rows PySem.W
variable{prog:aaB}{w:World}{A:Around}{E:Value->Shared->Prop}{s:Shared}
variable{X:Cx}{pins:List (Addr×Obj)}{σ:St}{H:Hp}
variable{k:Nat}{f:Addr}{fd:abA}{ps:List Str}{sp:Sp}
variable{e:Expr}{te:TE}{x:Str}{p p1 p2 pos zd Bs:Pos}{kd:_}
end L2
namespace Q
open PySem L2 PyProof.Rows
variable{ob:xV}{X:Cx}{k:Nat}{fa:Addr}{fd:abA}{ps:List Str}{D:Fd}{e:Expr}{f:WE}{x:Str}{p p1 p2 pos zd Bs:Pos}{kd:_}
end Q
namespace Q
open PySem L2
variable{ob:xV}{X:Cx}{k:Nat}{yT:Addr}{fd:abA}{ps:List Str}{D:Fd}{x y:Str}{p p1 pos:Pos}{e:Expr}{f:WE}
end Q
namespace L2
open PySem PySem.Spec PyProof.Rows PySem.W
def Kz(tp:Bool)(h:Heap)(it l:Addr)(j:Nat):Prop:=if tp=true then h.IsTupleIter it l j else h.IsListIter it l j
variable{prog:aaB}{w:World}{A:Around}{E:Value->Shared->Prop}{R:Result->Shared->Prop}
variable{X:Cx}{k:Nat}{f:Addr}{fd:abA}{ps:List Str}{sp:Sp}
variable{lq d x:Str}{wY p p1 p2 p3 p4 zd Bs pos:Pos}{P c:Addr}{params:Arguments}{scope:Scope}{e:Expr}{te:TE}{i:Nat}{kd:_}
end L2
namespace Q
open PySem L2 PyProof.Rows PySem.W
variable{X:Cx}{lq d x:Str}{wY p p1 p2 p3 p4 zd Bs pos:Pos}{T c:Addr}{params:Arguments}{scope:Scope}{e:Expr}{f:WE}{i j k:Nat}{ob:xV}{kd:_}
variable{fa:Addr}{fd:abA}{ps:List Str}{D:Fd}
end Q
namespace L2
open PySem PySem.Spec PyProof.Rows
variable{prog:aaB}{w:World}{A:Around}{E:Value->Shared->Prop}{s:Shared}
structure Sh(f1 f2:Bool)(h:Heap)(z u o i1 i2 t1 t2:Addr)(n:Nat):Prop where
 zz:IsZip h z u o .none
 uu:IsPair h u (.ref i1) (.ref i2)
 oo:∃a b,IsPair h o a b
 a1:Kz f1 h i1 t1 n
 a2:Kz f2 h i2 t2 n
variable{X:Cx}
end L2
namespace Q
open PySem L2
variable{ob:xV}{X:Cx}{a b:Expr}{fa:WA}{pos p:Pos}
end Q
namespace L2
open PySem PySem.Spec PyProof.Rows
variable{X:Cx}{tg elt iter PR JR:Expr}{scope:Scope}{pos:Pos}{wi Su:TI}{g:TG}{te:TE}{N:List Str}{js:List (Option Nat)}{kk:Nat}
end L2
namespace Q
open PySem L2 PyProof.Rows
variable{M:Md}{Z:Zn}{F H:Hp}{σ:L2.St}{env:En}
variable{ob:xV}{X:Cx}{tg elt iter PR JR:Expr}{scope:Scope}{pos:Pos}{fi SU:WA}{T:Ec}{f:WE}{N:List Str}{js:List (Option Nat)}{kk:Nat}
end Q
namespace L2
open PySem PySem.Spec PyProof.Rows
variable{X:Cx}{pos:Pos}
end L2
namespace Q
open PySem L2
variable{ob:xV}{X:Cx}{a b c:Expr}{fa:WA}{pos:Pos}
end Q
namespace L2
open PySem PySem.Spec PyProof.Rows
variable{X:Cx}{pins:List (Addr×Obj)}{σ:St}{H:Hp}{s:Shared}
variable{tg elt iter:Expr}{ifs:List Expr}{scope:Scope}{pos:Pos}{wi:TI}{g:TG}{tc:TT}{te:TE}{N:List Str}{js:List (Option Nat)}{cx:Str}
end L2
namespace Q
open PySem L2
variable{ob:xV}{X:Cx}{tg elt iter kx vx:Expr}{ifs:List Expr}{scope:Scope}{pos:Pos}{fi:WA}{T:Ec}{c:WT}{f fk:WE}{N:List Str}{js:List (Option Nat)}
end Q
namespace L2
open PySem PySem.Spec PyProof.Rows PySem.W
def KG(is:List Int)(j i:Nat):Prop:=i<j/\∀m,m<j->is.getD m 0<=is.getD i 0
theorem rL(a d:Value):argsOk "max" {pos:=[a],kw:=[(abn "default",d)]}:=by
 first|exact rfl|kernel_rfl
theorem rK(l d:Value):ack.«max» ⟨[l],[(abn "default",d)]⟩=(do
  let it <- pyIter l
  let b <- newList []
  again (Code.builtin "max.loop" ⟨[it,.none,b],[(abn "default",d)]⟩)):=by rfl
variable{prog:aaB}{w:World}{A:Around}{R:Result->Shared->Prop}
variable{l it b:Addr}{vs:List Value}
theorem rJ{d:Value}{is:List Int}(hv:∀i,i<vs.length->∃t,vs.getD i .none=.int (is.getD i 0) t)(hA:A.in1.handled=none)(hu:A.in1.units<cLine)
  (Qh:l≠it) (Qi:l≠b) (JI:b≠it) :
  ∀(k j:Nat) (s:Shared),vs.length - j=k->j<=vs.length->s.heap.IsList l vs.toArray->s.heap.IsListIter it l j ->
  ((j=0/\∃c,s.heap.get? b=some (seqObj "list" #[] c))\/∃i c,KG is j i/\s.heap.get? b=some (seqObj "list" #[vs.getD i .none,vs.getD i .none] c)) ->
  (∀v h' tk,((vs.length=0/\v=d)\/∃i,KG is vs.length i/\v=vs.getD i .none)->(∀c o,c≠it->c≠b->s.heap.get? c=some o->h'.get? c=some o)->R (.ok (.ret v)) {s with heap:=h',toks:=tk}) ->
  adi (model prog w) A (.builtin "max.loop" ⟨[.ref it,.none,.ref b],[(abn "default",d)]⟩) R s:=by
 intro k
 induction k with
 |zero=>
  intro j s hk hj hl hi hb hR
  have ej:j=vs.length:=by omega
  subst ej
  refine abJ PySem.F.entry_max_loop ?_
  rw[abr abV _]
  show wpAny _ A.in1 (seqItems? (.ref b) >>= _) _ _ s
  rcases hb with ⟨e0,c,hb⟩|⟨i,c,mx,hb⟩
  .refine aab (acy hb rfl ?_)
   show wpAny _ A.in1 (tryCatch (pyNext (.ref it)) _ >>= _) _ _ s
   refine aab (acY (ac3 hA hi hl (by rw[acp,aan (aak _)]) λh' kk=>?_))
   show wpAny _ A.in1 (rule _ >>= _) _ _ _
   exact aab (adc (aaf (hR d h' s.toks (.inl ⟨e0,rfl⟩) λc o h1 h2 e=>kk _ _ h1 e)))
  .refine aab (acy hb rfl ?_)
   show wpAny _ A.in1 (tryCatch (pyNext (.ref it)) _ >>= _) _ _ s
   refine aab (acY (ac3 hA hi hl (by rw[acp,aan (aak _)]) λh' kk=>?_))
   show wpAny _ A.in1 (ae4 b _ >>= _) _ _ _
   have Rj:=kk _ _ JI hb
   have s1:=aaL h' b (abj λ_=>(#[]:Array Value))
   refine aab (ade Rj rfl ?_ (by show 2<=sizeLine;decide) (aaS _))
   show wpAny _ A.in1 (letGo _ _ >>= _) _ _ _
   exact aab (aeo (aaf (hR _ _ s.toks (.inr ⟨i,mx,rfl⟩) λc o h1 h2 e=>(s1.2 c h2).trans (kk _ _ h1 e))))
 |succ k ih=>
  intro j s hk hj hl hi hb hR
  have xA:j<vs.length:=by omega
  have ev:vs.toArray[j]?=some (vs.getD j .none):=by rw[acp,aaa xA,aag,aaa xA];rfl
  have fin:∀(h3:Heap),(∀c o,c≠it->c≠b->s.heap.get? c=some o->h3.get? c=some o)->h3.IsListIter it l (j+1)->(∃i c,KG is (j+1) i/\h3.get? b=some (seqObj "list" #[vs.getD i .none,vs.getD i .none] c)) ->
    adi (model prog w) A (.builtin "max.loop" ⟨[.ref it,.none,.ref b],[(abn "default",d)]⟩) R {s with heap:=h3}:=λh3 kk Q4 Ri=>by
   refine ih (j+1) {s with heap:=h3} (by omega) xA ?_ Q4 (.inr Ri) λv h4 PL hv g=>hR v h4 PL hv λc o c1 c2 e=>g c o c1 c2 (kk c o c1 c2 e)
   obtain⟨o,e,r⟩:=hl
   exact⟨o,kk _ _ Qh Qi e,r⟩
  refine abJ PySem.F.entry_max_loop ?_
  rw[abr abV _]
  show wpAny _ A.in1 (seqItems? (.ref b) >>= _) _ _ s
  rcases hb with ⟨e0,c,hb⟩|⟨i,c,mx,hb⟩
  .refine aab (acy hb rfl ?_)
   show wpAny _ A.in1 (tryCatch (pyNext (.ref it)) _ >>= _) _ _ s
   refine aab (acY (acP hi hl ev λh1 I1 sb=>?_))
   have k1:∀c o,c≠it->s.heap.get? c=some o->h1.get? c=some o:=λc o hc e=>(sb.2 c hc).trans e
   refine aab (aaf ?_)
   show wpAny _ A.in1 (ae4 b _ >>= _) _ _ _
   have Cz:=k1 _ _ JI hb
   have s2:=aaL h1 b (abj λ_=>#[vs.getD j .none,vs.getD j .none])
   refine aab (ade Cz rfl ?_ (aaS _) (by show 2<=sizeLine+1;decide))
   refine aaf ⟨abP abV _,fin _ (λc o c1 c2 e=>(s2.2 c c2).trans (k1 c o c1 e)) ?_ ⟨j,_,⟨abw j,λm hm=>?_⟩,acn Cz λ_=>#[vs.getD j .none,vs.getD j .none]⟩⟩
   .obtain⟨o,e,r⟩:=I1
    exact⟨o,(s2.2 it JI.symm).trans e,r⟩
   .have:m=j:=by omega
    rw[this];exact afn _
  .have HL:i<vs.length:=aaE mx.1 hj
   refine aab (acy hb rfl ?_)
   show wpAny _ A.in1 (tryCatch (pyNext (.ref it)) _ >>= _) _ _ s
   refine aab (acY (acP hi hl ev λh1 I1 sb=>?_))
   have kk:∀c o,c≠it->s.heap.get? c=some o->h1.get? c=some o:=λc o hc e=>(sb.2 c hc).trans e
   have Cz:=kk _ _ JI hb
   obtain⟨t1,e1⟩:=hv j xA
   obtain⟨t2,e2⟩:=hv i HL
   refine aab (aaf ?_)
   show wpAny _ A.in1 (tryCatch (adg _ (richCompare .Gt (vs.getD j .none) (vs.getD i .none) >>= _)) _ >>= _) _ _ _
   refine aab (acY (aaN (aab ?_)))
   have cmp:∀{Q:Value->Shared->Prop} {E:Value->Shared->Prop} {s:Shared},Q (.bool (decide (is.getD i 0<is.getD j 0))) s->wpAny (model prog w) A.in1 (richCompare .Gt (vs.getD j .none) (vs.getD i .none)) Q E s:=λ{Q E s} hq=>by
    rw[e1,e2]
    exact(gt_int hq:wpAny (model prog w) _ (abb .Gt (.int _ t1) (.int _ t2)) Q E s)
   refine cmp ?_
   show wpAny _ A.in1 (adg _ (truthy (.bool _)) >>= _) _ _ _
   refine aab (aaN (adE ?_))
   refine aab (aeo (aaf ?_))
   by_cases hg:is.getD i 0<is.getD j 0
   .rw[decide_eq_true hg]
    show wpAny _ A.in1 (ae4 b _ >>= _) _ _ _
    have s2:=aaL h1 b (abj λ_=>#[vs.getD j .none,vs.getD j .none])
    refine aab (ade Cz rfl ?_ (by show 2<=sizeLine;decide) (by show 2<=sizeLine+1;decide))
    refine aab (aeo ?_)
    refine aaf ⟨abP abV _,fin _ (λc o c1 c2 e=>(s2.2 c c2).trans (kk c o c1 e)) ?_ ⟨j,_,⟨abw j,λm hm=>?_⟩,acn Cz λ_=>#[vs.getD j .none,vs.getD j .none]⟩⟩
    .obtain⟨o,e,r⟩:=I1
     exact⟨o,(s2.2 it JI.symm).trans e,r⟩
    .by_cases z:m=j
     .rw[z];exact afn _
     .exact Int.le_trans (mx.2 m (by omega)) (Int.le_of_lt hg)
   .rw[decide_eq_false hg]
    show wpAny _ A.in1 (letGo _ _ >>= _) _ _ _
    refine aab (aeo ?_)
    exact aaf ⟨abP abV _,fin _ (λc o c1 c2 e=>kk c o c1 e) I1 ⟨i,_,⟨aa7 mx.1,λm hm=>by
     by_cases z:m=j
     .rw[z];exact Int.not_lt.mp hg
     .exact mx.2 m (by omega)⟩,Cz⟩⟩
def Gv(X:Cx)(n:Int)(Q:VK):VK:=λv H1=>∃(p:Addr) (is:List Int),v=.ref p/\yf X.K H1 p (is.map V.int)/\(is.length=0->Q (.int n) H1)/\∀m,KG is is.length m->Q (.int (is.getD m 0)) H1
def Jc(X:Cx)(n:Int)(te:TE):TE:=λσ H Q=>te σ H (Gv X n Q)
variable{X:Cx}{p p4 zd pos:Pos}{e:Expr}{te:TE}{n:Int}{kd:_}
theorem tm(hu:X.A.units+1<cLine)(Lx:X.calm=true)(hg:Gl X "max")(hm:X.mg "max" = none)(he:PE X e te)
  (hs:aam [e] X.env=(false,eval e X.env)::aam [] X.env:=by rfl)
  (h1:backTo pos (aam [e] X.env)=(false,eval e X.env)::backTo pos (aam [] X.env):=by rfl) (h2:(backTo pos (aam [e] X.env)).any (·.1)=false:=by rfl) :
  PE X (.Call (.Name "max" p) [e] [⟨some "default",.Constant (.int n) kd p4,zd⟩] pos) (Jc X n te):=by
 intro pins s σ H Q I h
 refine acl (ed I hg hm boot_max ?_)
 refine callWith_kw (xH ((aP he aV hs) pos pins s σ H (λvs H1=>match vs with|[v]=>Gv X n Q v H1|_=>False) I h) λus s1 ⟨vs,H1,I1,r1,q1⟩=>?_) h1 h2
 dsimp only at q1
 split at q1
 case h_2=>exact q1.elim
 obtain⟨l,is,rfl,hl,q0,qm⟩:=q1
 obtain⟨u,rfl,ru⟩:=r1.one
 cases ru
 refine xH ((m7 aB pG) pos pins s1 σ H1 (λvs H2=>vs=[.int n]/\H2=H1) I1 ⟨rfl,rfl⟩) λws s2 ⟨zs,H2,I2,rz,q2⟩=>?_
 obtain⟨rfl,rfl⟩:=q2
 obtain⟨u,rfl,ru⟩:=rz.one
 obtain⟨t,rfl⟩:=ru
 show wpAny _ _ (call (.builtin "max") [.ref l] [(abn "default",.int n t)]) _ _ _
 obtain⟨gE,rv,pl,hz⟩:=I2.list hl
 have OL:=pl.isList
 have hlen:gE.length=is.length:=by have:=rv.length;rw[aad]at this;exact this.symm
 have Lg:∀j,j<gE.length->∃t,gE.getD j aa1=.int (is.getD j 0) t:=λj hj=>by
  have AD:j<is.length:=by omega
  obtain⟨u,hu,ru⟩:=rv.get (i:=j) (show (is.map V.int)[j]?=some (.int (is.getD j 0))by rw[aai,aaa AD,aag,aaa AD];rfl)
  obtain⟨t,rfl⟩:=ru
  exact⟨t,by rw[aag,hu];rfl⟩
 refine kmb_tree PySem.F.kind_max PySem.F.plain_max PySem.F.entry_max (rL _ _) ?_
 rw[rK]
 refine aab (acU OL (aab (acs ?_ (aaS _))))
 have hsz:(s2.heap.push {cls:=aby "list_iterator",data:=adS #[aaM l,ad4 0 0]}).objs.size=s2.heap.objs.size+1:=abC ..
 have old:∀b o,s2.heap.get? b=some o->((s2.heap.push {cls:=aby "list_iterator",data:=adS #[aaM l,ad4 0 0]}).push (seqObj "list" #[] 0)).get? b=some o:=λb o g=>aac _ (aac _ g)
 have lt:∀b o,s2.heap.get? b=some o->b≠s2.heap.objs.size/\b≠(s2.heap.push {cls:=aby "list_iterator",data:=adS #[aaM l,ad4 0 0]}).objs.size:=λb o g=>by
  have:=aaj g
  rw[hsz]
  exact⟨aap this,aap (aa7 this)⟩
 refine aaf ⟨abP abV _,?_⟩
 obtain⟨ol,el,rl⟩:=id OL
 refine rJ (l:=l) (it:=s2.heap.objs.size) (b:=(s2.heap.push {cls:=aby "list_iterator",data:=adS #[aaM l,ad4 0 0]}).objs.size) (vs:=gE) (is:=is) Lg (I2.ok.hd Lx) (by show X.A.units+1<cLine;exact hu) (lt _ _ el).1 (lt _ _ el).2 (by rw[hsz];exact Nat.succ_ne_self _) gE.length 0 _ (by omega) (aaS _)
  ⟨ol,old _ _ el,rl⟩ ⟨_,aac _ (aal _ rfl),rfl,rfl⟩ (.inl ⟨rfl,0,aal _ rfl⟩) λv h' tk hv g=>?_
 have I3:Inv X pins σ H2 {s2 with heap:=h',toks:=tk}:=I2.kept λc o e=>g c o (lt c o e).1 (lt c o e).2 (old c o e)
 rcases hv with ⟨e0,rfl⟩|⟨i,mx,rfl⟩
 .exact⟨.int n,H2,I3,⟨t,rfl⟩,q0 (by omega)⟩
 .obtain⟨t',et⟩:=Lg i mx.1
  rw[et]
  rw[hlen]at mx
  exact⟨.int _,H2,I3,⟨t',rfl⟩,qm i mx⟩
end L2
namespace Q
open PySem L2 PyProof.Rows PySem.W
def EZ(n:Int)(f:WE):WE:=λenv P=>f env λx e=>match x with
 |.lst ys=>∃is:List Int,ys.mapM x6=some is/\(is.length=0->P (.int n) e)/\∀m,KG is is.length m->P (.int (is.getD m 0)) e
 |_=>False
variable{K:aah}{F:Hp}
theorem de:∀{xs:List PV} {vs:List V} {is:List Int},xs.mapM x6=some is->iF K F vs xs->vs=is.map V.int
 |[],vs,is,h,r=>by simp at h;subst h;cases r;rfl
 |x::xs,vs,is,h,r=>by
  rw[abq]at h
  cases ea:x6 x with
  |none=>rw[ea]at h;cases h
  |some a=>
   rw[ea]at h
   cases el:xs.mapM x6 with
   |none=>rw[el]at h;cases h
   |some bs=>
    rw[el]at h
    have h:some (a::bs)=some is:=h
    cases h
    cases r with
    |cons r1 r2=>
     rw[de el r2]
     unfold x6 at ea
     split at ea
     .cases ea
      cases r1
      rfl
     .cases ea
variable{X:Cx}{p p4 zd pos:Pos}{e:Expr}{f:WE}{n:Int}{ob:xV}{kd:_}
theorem uo(hu:X.A.units+1<cLine)(Lx:X.calm=true)(hg:Gl X "max")(hm:X.mg "max" = none)(ha:xu ob X e f)
  (hs:aam [e] X.env=(false,eval e X.env)::aam [] X.env:=by rfl)
  (h1:backTo pos (aam [e] X.env)=(false,eval e X.env)::backTo pos (aam [] X.env):=by rfl) (h2:(backTo pos (aam [e] X.env)).any (·.1)=false:=by rfl) :
  xu ob X (.Call (.Name "max" p) [e] [⟨some "default",.Constant (.int n) kd p4,zd⟩] pos) (EZ n f):=by
 obtain⟨te,MW,MH⟩:=ha.ex
 refine⟨_,tm hu Lx hg hm MW hs h1 h2,λZ F σ H env Pp Q K hf kk=>?_⟩
 refine MH Z F σ H env _ _ K hf λy e1 v F1 H1 p s1 K1 r1=>?_
 split at p
 case h_2=>exact p.elim
 obtain⟨is,hi,p0,pm⟩:=p
 cases r1 with
 |lst g1 g2=>
  have e:=de hi g2
  subst e
  refine⟨_,is,rfl,.inl (.inl (K1.sF _ _ g1)),λz=>kk _ e1 _ F1 H1 (p0 z) s1 K1 (.int _),λm mx=>kk _ e1 _ F1 H1 (pm m mx) s1 K1 (.int _)⟩
end Q
namespace L2
open PySem PySem.Spec PyProof.Rows
variable{X:Cx}
def Hm(K:aah):List V->Hp->VK->Prop:=λxs H Q=>∃(p:Addr) (is:List Int),xs=[.ref p]/\yf K H p (is.map V.int)/\is.length<64 /\
 ∀(l:Addr) (MM:List Int),H l=none->MM.Perm is->MM.Pairwise (·<=·)->Q (.ref l) (upd H l (.lst (MM.map V.int)))
theorem oV:wX X (.builtin "sorted") (Hm X.K):=by
 intro pins s σ H xs us Q I r h
 obtain⟨p,ss,rfl,hq,zS,k⟩:=h
 obtain⟨u,rfl,ru⟩:=r.one
 cases ru
 obtain⟨gE,rv,pl,hz⟩:=I.list hq
 have hS:=i0 rv
 have hl:=rv.length
 rw[aad]at hl
 refine sorted_ints pl.isList hS (by omega) λout zr a1 a2 a3=>?_
 obtain⟨e,he⟩:=sortedAll_at s.heap gE out
 have hn:H (s.heap.objs.size+1)=none:=I.wU.fresh (acW _)
 refine⟨.ref (s.heap.objs.size+1),_,I.laid (t':=s.toks) (a:=s.heap.objs.size+1) (o:=.lst (zr.map V.int)) (λb o q=>sortedAll_old q) (acW _) ?_,rfl,k _ zr hn a2 a3⟩
 refine⟨by rw[aad,a2.length_eq,aaA];omega,out.toList,e,fB a1,?_⟩
 rw[ada]
 exact he
end L2
namespace Q
open PySem L2 PyProof.Rows
def BP(fa:WA):WE:=λenv P=>fa env λxs e=>match xs with
 |[.lst ys]=>∃is,ys.mapM x6=some is/\is.length<64/\∀ts:List Int,ts.Perm is->ts.Pairwise (·<=·)->P (.lst (ts.map .int)) e
 |_=>False
def neN:PV->PV->Option PV
 |.nE,.nE=>some (.bl false)
 |x,y=>neT x y
def Hs:PV->PV->Option PV
 |.lst xs,.lst ys=>(xs.mapM x6).bind λis=>(ys.mapM x6).bind λjs=>if is=js then some (.bl false)else none
 |_,_=>none
def Gm(K:aah):R2:=λv u H Q=>∃(p q:Addr) (is:List Int),v=.ref p/\u=.ref q/\yf K H p (is.map V.int)/\yf K H q (is.map V.int)/\Q (.bl false) H
variable{ob:xV}{X:Cx}{a b c e:Expr}{es:List Expr}{f g h:WE}{fa:WA}{pos p:Pos}{x:Str}
theorem mf(hg:Gl X "sorted")(hm:X.mg "sorted" = none)(ha:BU ob X (e::es) fa)
  (he:aam (e::es) X.env=(false,eval e X.env)::aam es X.env:=by rfl) (yt:(backTo pos (aam es X.env)).any (·.1)=false:=by rfl):C8 ob X (.Call (.Name "sorted" p) (e::es) [] pos) (BP fa):=by
 obtain⟨t,ht,k⟩:=ha.ex
 refine⟨_,bF oV hg hm aeq ht (by decide) (by decide) he yt,λZ F σ H env P Q K hf kk=>k Z F σ H env _ _ K hf λxs e1 vs F1 H1 p s1 K1 r1=>?_⟩
 split at p
 .obtain⟨ss,hs,hl,p⟩:=p
  obtain⟨v,rfl,r⟩:=r1.one
  obtain⟨q,vs,rfl,h1,h2⟩:=r.lst K1.sF
  have:=de hs h2
  subst this
  exact⟨q,ss,rfl,.inl (.inl h1),hl,λl ts hn hp hw=>kk _ e1 _ F1 _ (p ts hp hw) s1 (λ_=>by simp) (K1.own hn ⟨_,ag,cB ts⟩)⟩
 .exact p.elim
theorem vg(hu:X.A.units+60<cLine):ya X (abb .NotEq) (λx y H Q=>Fw X.K x y H Q\/Jt x y H Q):=ya.or (iQ hu) sB
theorem tG:Bo ob X (λx y H Q=>Fw X.K x y H Q\/Jt x y H Q) neN:=by
 refine bt (P:=λ_ _ _ _=>True) λF H v u x y z sF rx ry hz=>?_
 unfold neN at hz
 split at hz
 .cases hz
  have e1:=rx.nE
  have e2:=ry.nE
  subst e1 e2
  exact⟨_,λ_=>.bl _,λQ q=>.inr ⟨rfl,q⟩⟩
 .unfold neT at hz
  split at hz
  .rw[aax]at hz
   obtain⟨k,hk,rfl⟩:=hz
   exact⟨_,λ_=>.bl _,λQ q=>.inl ⟨F,_,_,k,sF,rx.CH,ry.CH,hk,q⟩⟩
  .cases hz
theorem tK(hu:X.A.units+1<cLine):ya X (abb .NotEq) (Gm X.K):=by
 intro pins s σ H x y v u Q I rx ry h
 obtain⟨p,q,is,rfl,rfl,h1,h2,hq⟩:=h
 cases rx
 cases ry
 obtain⟨gE,rv,pl,_⟩:=I.list h1
 obtain⟨yh,IC,Qa,_⟩:=I.list h2
 have l1:=rv.length
 have l2:=IC.length
 have t:=SeqAt.RcNeAt.lists (A:=X.A) (s:=s) (e:=λ_=>true) pl.isList Qa.isList (by simp only[aae];omega) (by omega) (λj j1 j2=>by
  simp only[aae]at j1 j2
  have jx:j<is.length:=by rw[aad]at l1;omega
  have hz:(is.map V.int)[j]?=some (.int is[j]):=by rw[aai,aaa jx];rfl
  obtain⟨u1,q5,t1,rfl⟩:=rv.get hz
  obtain⟨u2,q7,t2,rfl⟩:=IC.get hz
  have g1:gE.toArray[j]=.int is[j] t1:=by simpa[aaa j1]using q5
  have g2:yh.toArray[j]=.int is[j] t2:=by simpa[aaa j2]using q7
  rw[g1,g2]
  have:=SeqAt.EqAt.int_int (A:=X.A.in1) (s:=s) is[j] t1 is[j] t2
  rwa [beq_self_eq_true]at this)
 rw[show (aaR gE.toArray.size).all (λ_=>true)=true by simp]at t
 exact t X.prog X.w X.xe _ ⟨.bl false,H,I,rfl,hq⟩
theorem rC:Bo ob X (Gm X.K) Hs:=by
 refine bt (P:=λ_ _ _ _=>True) λF H v u x y z sF rx ry hz=>?_
 unfold Hs at hz
 split at hz
 .rw[adQ]at hz
  obtain⟨is,hi,hz⟩:=hz
  rw[adQ]at hz
  obtain⟨js,hj,hz⟩:=hz
  split at hz
  .rename_i e
   subst e
   cases hz
   obtain⟨p,vs,rfl,h1,h2⟩:=rx.lst sF
   obtain⟨q,ws,rfl,g1,g2⟩:=ry.lst sF
   have e1:=de hi h2
   have e2:=de hj g2
   subst e1 e2
   exact⟨_,λ_=>.bl _,λQ hq=>⟨p,q,is,rfl,rfl,.inl (.inl h1),.inl (.inl g1),hq⟩⟩
  .cases hz
 .cases hz
end Q
namespace L2
open PySem PySem.Spec PyProof.Rows
variable{X:Cx}{pins:List (Addr×Obj)}{σ:St}{H:Hp}{s:Shared}{d:Addr}{kvs:List (Key×V)}{o:Obj}
theorem Inv.Mb{H1:Hp}{s1:Shared}(I0:Inv X pins σ H s)(e0:H d=some (.dK kvs))(I:Inv X pins σ H1 s1)(e:H1 d=some (.yG o (.dK kvs))):Inv X pins σ (upd H1 d (.dK kvs)) s1:=by
 have nt:∀xs,X.H₀ d≠some (.tup xs):=λxs q=>by have:=I0.base.Al d xs q;rw[e0]at this;cases this
 have nf:∀u v,X.H₀ d≠some (.yG u v):=λu v q=>by have:=I0.base.A0 d u v q;rw[e0]at this;cases this
 have nb:∀ps,X.H₀ d≠some (.Fo ps):=λps q=>by obtain⟨m,this⟩:=I0.base.Bg d ps q;rw[e0]at this;cases this
 have nn:∀b,H1 b=none->b≠d:=λb q z=>by rw[z,e]at q;cases q
 refine⟨I.ok,I.os,I.bare,⟨I.base.keep,I.base.slot,λb u q n hx=>?_,I.base.there,λb xs q=>?_,λb u v q=>?_,λb ps q=>?_⟩,I.loc,I.cell,?_,λx c q=>?_,λp hp=>?_,λb u q=>?_,I.len⟩
 .have:=I.base.free b u q n hx
  rw[af (nn b this)];exact this
 .rw[af (λz=>nt xs (by rw[<- z];exact q))];exact I.base.Al b xs q
 .rw[af (λz=>nf u v (by rw[<- z];exact q))];exact I.base.A0 b u v q
 .rw[af (λz=>nb ps (by rw[<- z];exact q))];exact I.base.Bg b ps q
 .rw[af (nn _ I.free)];exact I.free
 .have:=I.yA x c q
  rw[af (nn c this)];exact this
 .obtain⟨a1,a2,a3⟩:=I.pin p hp
  exact⟨a1,by rw[af (nn _ a2)];exact a2,a3⟩
 .have st:∀c v,H1 c=some v->xa X.prog X.w H1 s1.heap c v->xa X.prog X.w (upd H1 d (.dK kvs)) s1.heap c v:=λc v hc ok=>
   ok.AH (λ_ _ _ g=>g) (λx hx=>by rw[af (λz=>by rw[z,e]at hx;cases hx)];exact hx) λx xs hx=>by rw[af (λz=>by rw[z,e]at hx;cases hx)];exact hx
  by_cases z:b=d
  .subst z
   rw[ag]at q;cases q
   have ok:xa X.prog X.w H1 s1.heap b (.dK kvs):=Rd.ok (.inr ⟨o,e⟩) I.wU
   exact ok.AH (λ_ _ _ g=>g) (λx hx=>by rw[af (λz=>by rw[z,e]at hx;cases hx)];exact hx) λx xs hx=>by rw[af (λz=>by rw[z,e]at hx;cases hx)];exact hx
  .rw[af z]at q
   exact st b u q (I.wU b u q)
variable{e:Expr}{te:TE}
theorem tj(he:PE X e te):PE X e (λσ H Q=>∃d kvs,H d=some (.dK kvs)/\te σ H λv H1=>∃o,H1 d=some (.yG o (.dK kvs))/\Q v (upd H1 d (.dK kvs))):=by
 intro pins s σ H Q I h
 obtain⟨d,kvs,hd,h⟩:=h
 refine xH (he pins s σ H _ I h) λv s1 ⟨x,H1,I1,r1,o,q1,q2⟩=>?_
 exact⟨x,_,I.Mb hd I1 q1,r1,q2⟩
def KL(d:Addr)(o:Obj)(kvs:List (Key×V)):It :=
 ⟨λi H=>H d=some (.yG o (.dK kvs))/\i<kvs.length,
  λi H v H'=>H'=H/\∃k x,v=kV k/\kvs[i]?=some (k,x),
  λi H=>H d=some (.yG o (.dK kvs))/\kvs.length<=i⟩
variable{P:aaB}{w:World}{K:aah}{tg:Expr}{it:Addr}{vs:List (Key×Value)}{ep:Nat}
theorem o8{es:Array DictEntry}(r:KV kvs vs)(hx:o.ExactDict)(AY:o.data=.dict es ep)(hk:KeysOf (aA P w) es)(hp:Pairs (aA P w) es.toList vs)(hn:(vs.map (·.1)).Nodup):
  Turn P w K tg (KL d o kvs) [it] it (λn h=>h.IsKeyIter it d n vs.length ep) where
 mem:=by simp
 obj:=λn h st c hc=>by
  rw[List.mem_singleton.mp hc]
  obtain⟨q,e,c,dd⟩:=st
  exact⟨q,e,λv z=>by rw[dd]at z;cases z⟩
 keep:=λn h h' ⟨q,e,c,dd⟩ k=>⟨q,k it (by simp) _ e,c,dd⟩
 item:=by
  intro X hP hw hK hc n pins s σ H E I hf st hg
  subst hP hw hK
  obtain⟨hd,xA⟩:=hg
  have ho:s.heap.get? d=some o:=(I.wU d _ hd).1
  have D:s.heap.DictAt (aA X.prog X.w) d vs ep:=⟨o,es,ho,hx,AY,hk,hp,hn⟩
  obtain⟨⟨k,x⟩,Kc⟩:∃q,kvs[n]?=some q:=⟨_,aaa xA⟩
  obtain⟨u,hu,ru⟩:=pZ r Kc
  obtain⟨f0,f1,f2,f3,f4,f5⟩:=hf it (by simp)
  refine wpAny_pyNext_dict_item st D hu λkey h' q1 BE sb=>?_
  have rk:RelV (kV k) key:=by
   rcases aM q1 with ⟨i,t,rfl,rfl⟩|⟨y,t,rfl,rfl⟩
   .exact⟨t,rfl⟩
   .exact⟨t,rfl⟩
  have I1:Inv X pins σ H {s with heap:=h'}:=I.turned (t':=s.toks) (λb o hb e=>(sb.2 b hb).trans e) f0 f1 f3 f4 f5
  obtain⟨o',e,c,dd⟩:=id BE
  exact⟨key,rfl,kW (s:={s with heap:=h'}) e c dd (by decide) ⟨kV k,H,I1,rk,⟨rfl,k,x,rfl,Kc⟩,BE,λb hb=>(hf b hb).1⟩⟩
 done:=by
  intro X hP hw hK hc n pins s σ H E I hf st hg
  subst hP hw hK
  obtain⟨hd,hle⟩:=hg
  have ho:s.heap.get? d=some o:=(I.wU d _ hd).1
  have D:s.heap.DictAt (aA X.prog X.w) d vs ep:=⟨o,es,ho,hx,AY,hk,hp,hn⟩
  have hl:=r.length
  obtain⟨f0,f1,f2,f3,f4,f5⟩:=hf it (by simp)
  exact wpAny_pyNext_dict_end (I.ok.hd hc) st D (aan (by omega)) λh' eb=>⟨rfl,I.turned (t':=s.toks) (λb o hb e=>eb b o hb e) f0 f1 f3 f4 f5⟩
 self:=λ_ _ _ _ _ st h=>wpAny_pyIter_keyiter st h
def GA(to:TE):TI:=λσ H R=>to σ H λv H1=>∃d kvs,v=.ref d/\H1 d=some (.dK kvs)/\∀o,R (KL d o kvs) (upd H1 d (.yG o (.dK kvs)))
variable{to:TE}
theorem tf{o:Expr}(ho:PE X o to):PI X tg o (GA to):=by
 intro pins s σ H R I h
 refine xH (ho pins s σ H _ I h) λv s1 ⟨x,H1,I1,r1,q1⟩=>?_
 obtain⟨d,kvs,ex,hd,q1⟩:=q1
 subst ex
 cases r1
 obtain⟨hz,MY,vs,rel,dd⟩:=gn I1.wU hd
 obtain⟨o,es,ep,ho,hx,AY,hk,hp,hn⟩:=dd
 have D:s1.heap.DictAt (aA X.prog X.w) d vs ep:=⟨o,es,ho,hx,AY,hk,hp,hn⟩
 refine wpAny_pyIter_dict MY D ?_
 have I2:Inv X pins σ H1 {s1 with heap:=s1.heap.push {cls:=.type "dict_keyiterator",data:=.fields #[.ref d,.int 0 0,.int vs.length 0,.int ep 0]}} :=
  I1.kept (t':=s1.toks) λb u e=>aac _ e
 have I3:=I2.Fs hd (o:=o) (aac _ ho)
 have Dw:H1 s1.heap.objs.size=none:=I1.wU.fresh (aak _)
 refine⟨_,[_],_,_,_,rfl,I3,o8 (it:=s1.heap.objs.size) rel hx AY hk hp hn,⟨_,aal _ rfl,rfl,rfl⟩,λb hb=>?_,q1 o⟩
 rw[List.mem_singleton.mp hb]
 exact I1.DW (aak _) (by rw[af (λz=>by rw[z,hd]at Dw;cases Dw)];exact Dw)
end L2
namespace Q
open PySem L2 PyProof.Rows
variable{ob:xV}{X:Cx}{tg elt iter kx vx:Expr}{ifs:List Expr}{scope:Scope}{pos:Pos}{fi:WA}{T:Ec}{c:WT}{f fk:WE}{N:List Str}{js:List (Option Nat)}
variable{Z:Zn}{F H:Hp}{σ:L2.St}{env:En}{P:PV->En->Prop}{o:Obj}{vs:List (Key×V)}
theorem rO{Q:VK}{d:Addr}{kvs:List (Key×PV)}{Lz:Nat->List Addr}(hj:BH js=true)(hT:za js T=true)(K:lT (md ob X) Z F σ H env)(L0:Slots (md ob X) Z F σ H env Lz)(hd:H d=some (.yG o (.dK vs)))(Ry:F d=none)(Nc:∀i,d∉Lz i)(rk:lE X.K F vs kvs)(hf:xX (Ax T) c f js P (kvs.map λq=>kP q.1) env [])
  (kk:∀x bY v F' H' fp,P x bY->dO F F'->(∀xs,x≠.set xs)->lT (md ob X) Z F' (σ++[some v]) H' (bY++[some ⟨1,x⟩])->Slots (md ob X) Z F' (σ++[some v]) H' (bY++[some ⟨1,x⟩]) fp->H' d=some (.yG o (.dK vs))->F' d=none->(∀i,d∉fp i)->Q v H') (l:Addr) (hl:H l=none) :
  ∃W:Nat->Nat->List V->Hp->Prop,(∃m,W 0 m [] (upd H l (.lst [])))/\∀i m ys H2,W i m ys H2 ->
  ((KL d o vs).stop i H2/\Q (.ref l) H2)\/((KL d o vs).go i H2/\∀x H3,(KL d o vs).yld i H2 x H3->BC X.K T x (xm js σ) H3 λσ4 H4=>Gj (md ob X) c σ4 H4 λb H5=>
   if b=true then EB (md ob X) f σ4 H5 λy H6=>H6 l=some (.lst ys)/\ys.length<sizeLine/\∃m',m'<m/\W (i+1) m' (ys++[y]) (upd H6 l (.lst (ys++[y])))else ∃m',m'<m/\W (i+1) m' ys H5):=by
 generalize Fz:(kvs.map λq=>kP q.1)=xs at hf
 have SA:xs.length=vs.length:=by rw[<- Fz,aad,rk.len]
 refine⟨λi m ys H'=>m=xs.length - i/\H' l=some (.lst ys)/\∃F' bY y4 fp,dO F F'/\lT (md ob X) Z F' σ H' bY/\Slots (md ob X) Z F' σ H' bY fp/\F' l=none/\(∀i,l∉fp i)/\(H' d=some (.yG o (.dK vs))/\F' d=none/\∀i,d∉fp i)/\iF X.K F' ys y4/\xX (Ax T) c f js P (xs.drop i) bY y4,?_,?_⟩
 .have L:=L0
  have ld:d≠l:=λz=>by rw[z,hl]at hd;cases hd
  have hF:F l=none:=dO.none_of K.sF hl
  have hn:∀i,l∉Lz i:=λi h=>(L.al i l h).1 hl
  obtain⟨K1,L1⟩:=K.yQ (o:=.lst []) L hF (K.h0 hl) hn
  exact⟨_,rfl,ag,F,env,[],Lz,aj,K1,L1,hF,hn,⟨by rw[af ld];exact hd,Ry,Nc⟩,.nil,hf⟩
 rintro i m ys H2 ⟨rfl,BJ,F',bY,y4,fp,s,K',L',GI,hn,⟨hd2,Kk,GF⟩,ry,hg⟩
 have h0:Z.H₀ l=none:=K.h0 hl
 by_cases xA:i<xs.length
 .rw[acB xA]at hg
  refine .inr ⟨⟨hd2,by omega⟩,λv H3 y=>?_⟩
  obtain⟨rfl,k,w,rfl,hk⟩:=y
  have r2:Rep X.K F' (kV k) xs[i]:=by
   have hz:kvs[i]?=some (k,kvs[i]'(by rw[<- Fz,aad]at xA;exact xA)|>.2):=by
    have hi:i<kvs.length:=by rw[<- Fz,aad]at xA;exact xA
    have e1:kvs[i]?=some kvs[i]:=aaa hi
    obtain⟨w',q1,q2⟩:=rk.get (k:=kvs[i].1) (x:=kvs[i].2) e1
    rw[hk]at q1
    cases q1
    exact e1
   have e:xs[i]?=some (kP k):=by rw[<- Fz,aai,hz];rfl
   rw[aaa xA]at e
   rw[aao e]
   exact qe k
  obtain⟨F2,s2,K2,sH,nw,Pf⟩:∃F2,dO F' F2/\lT (md ob X) Z F2 σ H3 bY/\dO H3 H3/\(∀a,F2 a≠none->F' a≠none\/H3 a=none)/\F2=F':=⟨F',aj,K',aj,λa h=>.inl h,rfl⟩
  have r2:Rep X.K F2 (kV k) xs[i]:=Pf ▸ r2
  have FL:F2 d=none:=Pf ▸ Kk
  have Fl:Slots (md ob X) Z F2 σ H3 bY fp:=L'.move s2 (λ_ c o _ e=>sH c o e) nw
  have Kn:F2 l=none:=by
   cases e:F2 l with
   |none=>rfl
   |some o=>
    rcases nw l (by rw[e];simp)with q|q
    .exact absurd GI q
    .rw[BJ]at q;cases q
  have DS:H3 l=some (.lst ys):=BJ
  have Kb:=iu hj K2 Fl
  have hσ4:∀{σ4:L2.St},(∀(k j:Nat),js[k]?=some (some j)->σ4[k]?=(xm js σ)[k]?)->True:=λ_=>trivial
  have Iz:=bT (K:=X.K) hT (kV k) (xm js σ) H3 _ (lg (M:=md ob X) (Q:=λσ4 H4=>H4=H3/\∃b1,lT (md ob X) (Zb js bY fp F2 H3) F2 σ4 H3 b1/\c b1 λok b2=>if ok=true then f b2 λy b3=>y4.length<=100000/\xX (Ax T) c f js P (xs.drop (i+1)) (xC js bY b3) (y4++[y])else xX (Ax T) c f js P (xs.drop (i+1)) (xC js bY b2) y4) Kb r2 hg λe4 σ4 p4 K4=>⟨rfl,e4,K4,p4⟩)
  have mono:∀(Q1 Q2:L2.St->Hp->Prop),(∀a b,Q1 a b->Q2 a b)->BC X.K T (kV k) (xm js σ) H3 Q1->BC X.K T (kV k) (xm js σ) H3 Q2:=by
   have B9:∀(l:List Nat),∀x σ H (Q Q':L2.St->Hp->Prop),(∀a b,Q a b->Q' a b)->Am l x σ H Q->Am l x σ H Q':=by
    intro l
    induction l with
    |nil=>exact λx σ H Q Q' h q=>⟨q.1,h _ _ q.2⟩
    |cons i l ih=>exact gh er ih
   intro Q1 Q2 hq q
   cases T with
   |nm i=>exact hq _ _ q
   |tp l=>
    obtain⟨a,xs,e1,e2,e3,e4⟩:=q
    exact⟨a,xs,e1,e2,e3,B9 l _ _ _ _ _ hq e4⟩
  refine mono _ _ ?_ Iz
  rintro σ4 H4 ⟨⟨rfl,b1,K4,p4⟩,hlen,xO⟩
  refine⟨_,F2,b1,_,K4,p4,λb b2 F5 H5 p5 s5 K5=>?_⟩
  have again:∀{F6 H6:Hp} {b3:En} {ys':List V} {AF:List PV},dO F2 F6->lT (md ob X) (Zb js bY fp F2 H4) F6 σ4 H6 b3->xX (Ax T) c f js P (xs.drop (i+1)) (xC js bY b3) AF->iF X.K F6 ys' AF ->
    H6 l=some (.lst ys)/\(∃m',m'<xs.length - i/\m'=xs.length - (i+1)/\(upd H6 l (.lst ys')) l=some (.lst ys')/\∃F' bY y4 fp,dO F F'/\lT (md ob X) Z F' σ (upd H6 l (.lst ys')) bY/\Slots (md ob X) Z F' σ (upd H6 l (.lst ys')) bY fp/\F' l=none/\(∀i,l∉fp i)/\((upd H6 l (.lst ys')) d=some (.yG o (.dK vs))/\F' d=none/\∀i,d∉fp i)/\iF X.K F' ys' y4/\xX (Ax T) c f js P (xs.drop (i+1)) bY y4):=λ{F6 H6 b3 ys' AF} s6 K6 p6 r6=>by
   obtain⟨CB,L6,KJ,zD⟩:=fY hj K2 Fl K6 xO
   have Eb:H6 l=some (.lst ys):=K6.sG l _ DS λz=>by
    obtain⟨_,j,_,_,_,hm⟩:=bS z
    exact hn j hm
   have GH:F6 l=none:=by
    cases e:F6 l with
    |none=>rfl
    |some o=>
     rcases K6.nw l (by rw[e];simp)with q|q
     .exact absurd Kn q
     .exact absurd q (by show H4 l≠none;rw[DS];simp)
   have Ea:∀i,l∉CB i:=λi h=>by
    rcases zD i l h with ⟨i',q⟩|q
    .exact hn i' q
    .rw[DS]at q;cases q
   have Nu:H6 d=some (.yG o (.dK vs)):=K6.sG d _ hd2 λz=>by
    obtain⟨_,j,_,_,_,hm⟩:=bS z
    exact GF j hm
   have NC:F6 d=none:=by
    cases e:F6 d with
    |none=>rfl
    |some o=>
     rcases K6.nw d (by rw[e];simp)with q|q
     .exact absurd FL q
     .exact absurd q (by show H4 d≠none;rw[hd2];simp)
   have Nb:∀i,d∉CB i:=λi h=>by
    rcases zD i d h with ⟨i',q⟩|q
    .exact GF i' q
    .rw[hd2]at q;cases q
   have ld:d≠l:=λz=>by rw[z,Eb]at Nu;cases Nu
   obtain⟨K7,L7⟩:=KJ.yQ (o:=.lst ys') L6 GH h0 Ea
   exact⟨Eb,_,by omega,rfl,ag,F6,_,_,CB,ai s (ai s2 s6),K7,L7,GH,Ea,⟨by rw[af ld];exact Nu,NC,Nb⟩,r6,p6⟩
  cases b with
  |false=>
   refine Ar ?_
   obtain⟨Ka,m',h1,h2,h3,F',bY,y4,fp,q1,q2,q3,q4⟩:=again (ys':=ys) s5 K5 p5 ((ry.mono s2).mono s5)
   have e:upd H5 l (.lst ys)=H5:=by
    funext a
    by_cases z:a=l
    .subst z;rw[ag,Ka]
    .rw[af z]
   rw[e]at h3 q2 q3 q4
   exact⟨m',h1,h2,h3,F',bY,y4,fp,q1,q2,q3,q4⟩
  |true=>
   refine AV ⟨_,F5,b2,_,K5,p5,λy b3 v6 F6 H6 p6 s6 K6 r6=>?_⟩
   obtain⟨Eb,q⟩:=again (ys':=ys++[v6]) (ai s5 s6) K6 p6.2 ((((ry.mono s2).mono s5).mono s6).app (.cons r6 .nil))
   refine⟨Eb,?_,q⟩
   have:=p6.1
   rw[ry.len,aaA];omega
 .rw[acR (by omega)]at hg
  have L9:=L'.push (s:=⟨1,.lst y4⟩) (v:=.ref l) (l:=[l]) (by simp) K'.len (.inr (.inl ⟨rfl,l,rfl,rfl,h0,ys,BJ,ry⟩)) (λa ha=>by
   simp at ha;subst ha
   exact⟨by rw[BJ];simp,GI⟩) λj a ha=>by
   simp at ha;subst ha
   exact hn j
  refine .inl ⟨⟨hd2,by omega⟩,kk _ bY _ F' H2 _ hg s (λ_=>by simp) (K'.slots (by simp[K'.len]) L9) L9 hd2 Kk λj h=>?_⟩
  split at h
  .simp at h
   rw[h,BJ]at hd2;cases hd2
  .exact GF j h
def FU(i:Nat)(T:Ec)(c:WT)(f:WE)(js:List (Option Nat)):WE:=λenv P=>match env[i]? with
 |some (some ⟨1,.xv kvs⟩)=>xX (Ax T) c f js (λy e=>P y (e.set i (some ⟨1,.xv kvs⟩))) (kvs.map λq=>kP q.1) (env.set i none) []
 |_=>False
variable{x:Str}{p:Pos}
theorem vW(i:Nat)(ho:PE X (.Name x p) (xx i))(hg:∀C s₀ H₀ ex pn,PG (rW X scope N C s₀ H₀ ex pn) tg (BC X.K T))(ht:∀C s₀ H₀ ex pn,IV ob (rW X scope N C s₀ H₀ ex pn) ifs c)(he:∀C s₀ H₀ ex pn,xu ob (rW X scope N C s₀ H₀ ex pn) elt f)
  (hj:BH js=true:=by rfl) (hT:za js T=true:=by rfl)
  (hc:X.calm=true:=by rfl) (hx:X.xe=(λ_ _=>False):=by rfl) (Ad:Ao X.env scope=true:=by rfl) (xO:yO X.N scope N js=true:=by rfl) (xk:scope.kind=.function:=by rfl) (hs:∀y,aa4 (.Name x p) X.env y=pure y:=by intro _;rfl) :
  C8 ob X (.ListComp elt [⟨tg,.Name x p,ifs,0⟩] scope pos) (FU i T c f js):=by
 refine⟨_,tj (oj (wi:=GA (xx i)) (g:=BC X.K T) (tc:=Gj (md ob X) c) (te:=EB (md ob X) f) (js:=js) (tf ho) hg (λC s₀ H₀ ex pn=>(ht C s₀ H₀ ex pn).ex) (λC s₀ H₀ ex pn=>(he C s₀ H₀ ex pn).pe) (bT hT) hc hx Ad xO xk hs),λZ F σ H env P Q K hf kk=>?_⟩
 unfold FU at hf
 split at hf
 case h_2=>exact hf.elim
 rename_i kvs ei
 obtain⟨fp,L⟩:=K.sl
 obtain⟨v,hv,ok⟩:=L.at' i _ ei
 rcases ok with ⟨e,_⟩|⟨_,d,rfl,Lu,h0,vs,hd,rk⟩|⟨e,_⟩|⟨e,_⟩
 .cases e
 case inr.inr.inl=>rcases e with e|e<;>cases e
 case inr.inr.inr=>cases e
 have ha:=L.al i d (by rw[Lu];simp)
 have di:d∉(λj=>if j=i then []else fp j) i:=by simp
 have dn:∀j,d∉(λj=>if j=i then []else fp j) j:=λj h=>by
  dsimp only at h
  split at h
  .simp at h
  .rename_i z
   exact L.dj j i d z h (by rw[Lu];simp)
 have L1:Slots (md ob X) Z F σ H (env.set i none) (λj=>if j=i then []else fp j):=by
  refine⟨λj s h=>?_,λj b h=>?_,λj k b AW h z=>?_,λj b t e1 e2 e3=>?_⟩
  .by_cases z:j=i
   .subst z
    rw[aa8]at h
    simp only[if_true]at h
    split at h<;>cases h
   .rw[aau (abv z)]at h
    rw[if_neg z]
    exact L.at' j s h
  .split at h
   .simp at h
   .exact L.al j b h
  .split at h
   .simp at h
   .split at z
    .simp at z
    .exact L.dj j k b AW h z
  .by_cases z:j=i
   .subst z
    rw[aa8]at e2
    simp only[if_true]at e2
    split at e2<;>cases e2
   .rw[aau (abv z)]at e2
    exact L.oa j b t e1 e2 e3
 have K1:lT (md ob X) Z F σ H (env.set i none):=K.slots (by simp[K.len]) L1
 refine⟨d,vs,hd,_,hv,d,vs,rfl,hd,λo l hl=>?_⟩
 obtain⟨K2,Fl⟩:=K1.yQ (o:=.yG o (.dK vs)) L1 ha.2 h0 dn
 refine rO (Q:=λv H1=>∃o,H1 d=some (.yG o (.dK vs))/\Q v (upd H1 d (.dK vs))) hj hT K2 Fl ag ha.2 dn rk hf (λx e2 v F2 H2 O7 p2 s2 Fb K3 L3 Rg FL QP=>⟨o,Rg,?_⟩) l hl
 have il:i<σ.length:=(List.getElem?_eq_some_iff.mp hv).1
 have el:e2.length=σ.length:=by have:=K3.len;simp at this;exact this
 refine kk x _ v F2 _ p2 s2 Fb ?_
 have LD:∀j,d∉O7 j:=QP
 have en:(e2.set i (some (⟨1,.xv kvs⟩:Sl)))++[some (⟨1,x⟩:Sl)]=(e2++[some (⟨1,x⟩:Sl)]).set i (some (⟨1,.xv kvs⟩:Sl)):=by
  rw[List.set_append_left _ _ (by rw[el];exact il)]
 rw[en]
 refine⟨λa u e=>?_,λb u h1 h2=>?_,λb h=>?_,K3.gr,K3.nw,by simpa using K3.len,λj=>if j=i then [d]else O7 j,λj s h=>?_,λj b h=>?_,λj k b AW h z=>?_,λj b t e1 Kq e3=>?_⟩
 .rw[af (aq e FL)];exact K3.sF a u e
 .rw[af (aq h1 h0)];exact K3.sG b u h1 h2
 .by_cases q:b=d
  .subst q;rw[ag];simp
  .rw[af q];exact K3.pr b h
 .by_cases z:j=i
  .subst z
   rw[abF (by simp;omega)]at h
   cases h
   refine⟨.ref d,by rw[aav il];exact hv,?_⟩
   rw[if_pos rfl]
   exact .inr (.inl ⟨rfl,d,rfl,rfl,h0,vs,ag,rk.mono s2⟩)
  .rw[aau (abv z)]at h
   rw[if_neg z]
   obtain⟨v',g1,g2⟩:=L3.at' j s h
   exact⟨v',g1,g2.mono aj λc hc=>af λq:c=d=>LD j (by rw[<- q];exact hc)⟩
 .split at h
  .simp at h
   subst h
   exact⟨by rw[ag];simp,FL⟩
  .have:=L3.al j b h
   refine⟨?_,this.2⟩
   rw[af (λq:b=d=>LD j (by rw[<- q];exact h))];exact this.1
 .split at h
  .rename_i q
   simp at h
   subst h
   split at z
   .rename_i q2;exact AW (q.trans q2.symm)
   .exact LD k z
  .split at z
   .simp at z
    subst z
    exact LD j h
   .exact L3.dj j k b AW h z
 .by_cases z:j=i
  .subst z
   rw[abF (by simp;omega)]at Kq
   cases Kq
   cases e3
  .rw[aau (abv z)]at Kq
   exact L3.oa j b t e1 Kq e3
end Q
namespace Pre
open PySem L2
def top(i:Nat):Stmt:=PySem.Challenge.pw_cheaptree_k17_whole_places_called_otherw.main.body.getD i (.Pass ⟨0,0,0,0⟩)
abbrev jp:Stmt:=top 1
abbrev dM:Stmt:=top 2
abbrev fE:Stmt:=top 3
abbrev g9:Stmt:=top 4
abbrev CK:Stmt:=top 5
abbrev cJ:Stmt:=top 7
abbrev cI:Stmt:=top 8
abbrev fF:Stmt:=top 9
abbrev dP:Stmt:=top 11
abbrev ju:Stmt:=top 12
abbrev hE:Stmt:=top 13
abbrev jo:Stmt:=top 14
abbrev Ew:Stmt:=top 16
abbrev jt:Stmt:=top 17
abbrev Hd:Stmt:=top 18
abbrev yE:Stmt:=top 20
abbrev Dh:Stmt:=top 21
abbrev CJ:Stmt:=top 22
abbrev Ey:Stmt:=top 23
abbrev Ex:Stmt:=top 24
abbrev Hg:Stmt:=top 25
abbrev dN:Stmt:=top 26
abbrev jv:Stmt:=top 27
abbrev Hh:Stmt:=top 28
structure Named(K:aah)(mg:Str->Option Value)(x:Str)(f:Addr):Prop where
 mg:mg x=some (.ref f)
 kp:abH K (.ref f)=true
structure Df(K:aah)(mg:Str->Option Value)(name:Str)(st:Stmt)(ps:List Str) where
 f:Addr
 fd:abA
 F:C6 K name name st f fd
 b:Binds K fd ps []
 n:Named K mg name f
abbrev MF:Nat:=15
abbrev MG:Nat:=29
section
set_option genInjectivity false
set_option genSizeOf false
structure Ev(K:aah)(mg:Str->Option Value) where
 BL:Df K mg "is_open" jp ["net", "tie"]
 zf:Df K mg "ties_by_name" dM ["net"]
 zT:Df K mg "open_ties" fE ["net"]
 A2:Df K mg "waiting" g9 ["net"]
 CV:Df K mg "ranks" CK ["net"]
 yb:Df K mg "cheaper_first" cJ ["net", "names"]
 yH:Df K mg "without_round" cI ["net", "names"]
 zU:Df K mg "cheapest" fF ["net"]
 zg:Df K mg "neighbours" dP ["net"]
 BN:Df K mg "came_by" ju ["beside", "start"]
 A3:Df K mg "reached" hE ["beside", "start"]
 BK:Df K mg "pieces" jo ["net"]
 EV:Df K mg "only" Ew ["net", "names"]
 BM:Df K mg "cost_of" jt ["net", "names"]
 Ib:Df K mg "way" Hd ["net", "forest", "one", "other"]
 zw:Df K mg "_law_begin" yE ["_law_script"]
 Dx:Df K mg "_law_next" Dh ["_law_state", "_law_many"]
 xS:Df K mg "_law_words" CJ ["_law_state", "_law_many"]
 EX:Df K mg "_law_cost" Ey ["_law_state", "_law_sort"]
 EW:Df K mg "_law_ends" Ex ["_law_state", "_law_family", "_law_many", "_law_k"]
 Ic:Df K mg "_law_net" Hg ["_law_state", "_law_most", "_law_ties_most"]
 xl:Df K mg "_law_other_words" dN ["_law_state", "_law_net_here"]
 BO:Df K mg "_law_called" jv ["_law_net_here", "_law_words_here", "_law_times", "_law_more"]
 CW:Df K mg "law" Hh ["_law_script"]
 wZ:Addr
 yU:∃c,yb.fd.code=.ref c/\abO K c wZ=true
 E3:mg "abs" = none
 C0:mg "dict" = none
 Ah:mg "len" = none
 E2:mg "list" = none
 DA:mg "max" = none
 zG:mg "range" = none
 E1:mg "set" = none
 xt:mg "sorted" = none
 GR:mg "sum" = none
 xJ:mg "tuple" = none
end
variable{K:aah}{a:Addr}{H:Hp}
theorem t7{l:Addr}{xs:List V}{js:List (Option Nat)}{σ:St}{QQ:Hp->Prop}{g:TG}{tc:TT}{te:TE}(Pv:Nat->List V->Hp->Prop)(h0:Pv 0 [] H)(hl:∀i ys H,i<=xs.length->Pv i ys H->yf K H a xs)
  (hs:∀i x ys H (N:List V->Hp->Prop),xs[i]?=some x->Pv i ys H->(∀ys' H',Pv (i+1) ys' H'->N ys' H')->g x (xm js σ) H λσ4 H4=>tc σ4 H4 λb H5=>if b=true then te σ4 H5 λy H6=>H6 l=some (.lst ys)/\ys.length<sizeLine/\N (ys++[y]) (upd H6 l (.lst (ys++[y])))else N ys H5)
  (hd:∀ys H,Pv xs.length ys H->QQ H) :
  ∃W:Nat->Nat->List V->Hp->Prop,(∃m,W 0 m [] H)/\∀i m ys H2,W i m ys H2 ->
  ((Fm K a).stop i H2/\QQ H2)\/((Fm K a).go i H2/\∀x H3,(Fm K a).yld i H2 x H3->g x (xm js σ) H3 λσ4 H4=>tc σ4 H4 λb H5=>
   if b=true then te σ4 H5 λy H6=>H6 l=some (.lst ys)/\ys.length<sizeLine/\∃m',m'<m/\W (i+1) m' (ys++[y]) (upd H6 l (.lst (ys++[y])))else ∃m',m'<m/\W (i+1) m' ys H5):=by
 refine⟨λi m ys H=>m=xs.length - i/\i<=xs.length/\Pv i ys H,⟨xs.length,by simp,aaS _,h0⟩,?_⟩
 rintro i m ys H2 ⟨rfl,hi,p⟩
 have q:=hl i ys H2 hi p
 by_cases xA:i<xs.length
 .refine .inr ⟨⟨xs,xs[i],q,by simp[xA]⟩,λx H3 y=>?_⟩
  obtain⟨e,y⟩:=y
  subst e
  exact hs i x ys _ (λys' H'=>∃m',m'<xs.length - i/\m'=xs.length - (i+1)/\i+1<=xs.length/\Pv (i+1) ys' H') (y xs q) p λys' H' h=>⟨_,by omega,rfl,xA,h⟩
 .have e:i=xs.length:=by omega
  subst e
  exact .inl ⟨⟨xs,q,aak _⟩,hd ys _ p⟩
theorem tU:(["_law_cell"]:List Str).Nodup:=by decide +kernel
variable{P:aaB}{w:World}{mg:Str->Option Value}{base:Heap}
theorem sq{xs:List V}(h:H a=some (.lst xs)):yf K H a xs:=.inl (.inl h)
theorem Es:az ["_law_state", "_law_many", "_law_digit"] ["_law_state", "_law_many"] (ap Dh):=⟨rfl,rfl,rfl,by decide +kernel,rfl,by decide +kernel,by decide +kernel⟩
variable{fd:abA}
theorem tQ{f:Addr}(F:C6 K "_law_next" "_law_next" Dh f fd):w4 P w K mg base ye 1 f fd ["_law_state", "_law_many"] Ep:=by
 refine F.ok Es (λvs H Q E h=>?_) (λxn A outer s H vs Q E hr h=>?_)
 .obtain⟨a,b,m,rfl,_⟩:=h
  rfl
 .obtain⟨a,b,m,rfl,S,m0,m1,k⟩:=h
  have hu:=hr.GY
  refine⟨_,bE (lw aaU (PW.pt (pw_and (dW (ib hu) (br xE (pv 0) aB (λ_ _=>rfl)) (fJ aV) (zQ _)) (pw_and1 (dW wG (br xE (br xE (pv 0) aB (λ_ _=>rfl)) aB (λ_ _=>rfl)) aB (zQ _)))))
    (cR (ga (oq acL ad6 ad5 lN (br xE (pv 0) aB (λ_ _=>rfl)) (aP aB aV)))))
   (bE (sx (dW (ib hu) (br xE (pv 0) aB (λ_ _=>rfl)) (fJ aV) (zQ _))
    (bE (cY (i:=2) Es.nd rfl (Or.inl rfl) (bc da (br xE (br xE (pv 0) aB (λ_ _=>rfl)) aB (λ_ _=>rfl)) (pv 1)))
    (bE (iO (bc jH (br xE (br xE (pv 0) aB (λ_ _=>rfl)) aB (λ_ _=>rfl)) (pv 1)) (lC (br xE (pv 0) aB (λ_ _=>rfl)) aB g6))
    (cR (cZ (pv 2)))))
    m6)
   (bE (iO (bc da (bc fL (bc iR (br xE (pv 0) aB (λ_ _=>rfl)) aB) aB) aB) (lC (pv 0) aB g6))
   (cR (cZ (bc da (bc jH (bc da (bc iR (br xE (pv 0) aB (λ_ _=>rfl)) (br xE (pv 0) aB (λ_ _=>rfl))) aB) aB) (pv 1)))))),?_⟩
  refine⟨λn σ' H'=>σ'=[some (.ref a),some (.int m),none]/\Cu a b H H'/\∃(ns:List Int) (z:Int),H' a=some (.lst [.ref b,.int z])/\H' b=some (.lst (ns.map V.int))/\(∀n∈ns,0<=n)/\0<=z/\z<2305843009213693951/\ns.length=n,?_,?_⟩
  .obtain⟨ns,z,h1,h2,h3,h4,h5⟩:=S.st
   exact⟨_,rfl,Cu.refl a b H,ns,z,h1,h2,h3,h4,h5,rfl⟩
  rintro n σ' H' ⟨rfl,hB,ns,z,ha,hb,hn,z0,z1,hl⟩
  have S':BS H' a b:=⟨ns,z,ha,hb,hn,z0,z1⟩
  have behind:∀(H1:Hp),Cu a b H H1->BS H1 a b->Em (Jd (El (An (BF K) (An (AM K) (xx 0) (tC (.int 0))) (G3 DI))) (Em (DJ (An (rI (λ_ j=>0<j) λi j=>.int (i % j)) (An (AM K) (An (AM K) (xx 0) (tC (.int 0))) (tC (.int 0))) (xx 1)) (yL 2))
    (Em (DJ (An (rI Iw λi j=>.int (i / j)) (An (AM K) (An (AM K) (xx 0) (tC (.int 0))) (tC (.int 0))) (xx 1)) (HW (An (AM K) (xx 0) (tC (.int 0))) (tC (.int 0)) Dj)) (G2 (xx 2)))) Gf)
    (Em (DJ (An (rI (λ_ j=>0<j) λi j=>.int (i % j)) (An (D8 λi j=>.int (i+j)) (An (rI D5 λi j=>.int (i*j)) (An (AM K) (xx 0) (tC (.int 1))) (tC (.int 6364136223846793))) (tC (.int 1442695040888963))) (tC (.int 2305843009213693951))) (HW (xx 0) (tC (.int 1)) Dj))
     (G2 (An (rI (λ_ j=>0<j) λi j=>.int (i % j)) (An (rI Iw λi j=>.int (i / j)) (An (rI (λ_ j=>0<j) λi j=>.int (i % j)) (An (rI D5 λi j=>.int (i*j)) (An (AM K) (xx 0) (tC (.int 1))) (An (AM K) (xx 0) (tC (.int 1)))) (tC (.int 2305843009213693921))) (tC (.int 65537))) (xx 1))))
    {nx:=λ_ H'=>Q .nE H',rt:=Q} [some (.ref a),some (.int m),none] H1:=by
   intro H1 CU S1
   have yq:=S1.ne
   obtain⟨ns,z,ha,hb,hn,z0,z1⟩:=S1.st
   refine⟨_,rfl,a,_,_,_,rfl,rfl,sq ha,av (j:=0) rfl,aaS _,λp hp=>?_⟩
   have FJ:∀o,(upd H1 p o) a=some (.lst [.ref b,.int z]):=λo=>by rw[af (aq ha hp)];exact ha
   have CA:∀o,(upd H1 p o) b=some (.lst (ns.map V.int)):=λo=>by rw[af (aq hb hp)];exact hb
   have S2:=S1.grow (o:=.lst []) hp
   have B2:=CU.grow (o:=.lst []) hp
   refine⟨b,p,_,rfl,rfl,sq (CA _),sq ag,_,rfl,?_⟩
   cases ns with
   |nil=>
    refine Ar ?_
    refine⟨_,rfl,a,_,_,_,rfl,rfl,sq (FJ _),av (j:=1) rfl,_,_,rfl,rfl,.inr ⟨by decide,by decide⟩,_,_,rfl,rfl,_,_,rfl,rfl,(by show (0:Int)<_;decide),_,rfl,a,_,_,1,rfl,rfl,FJ _,rfl,?_⟩
    have z2:0<=(z*6364136223846793+1442695040888963) % 2305843009213693951:=ab9 _ (by decide)
    have z3:(z*6364136223846793+1442695040888963) % 2305843009213693951<2305843009213693951:=abM _ (by decide)
    have S3:=S2.Hb z2 z3
    have B3:Cu a b H (upd (upd H1 p (.lst [])) a (.lst [.ref b,.int ((z*6364136223846793+1442695040888963) % 2305843009213693951)])):=B2.Hb
    refine⟨_,rfl,a,_,_,_,rfl,rfl,sq ag,av (j:=1) rfl,_,rfl,a,_,_,_,rfl,rfl,sq ag,av (j:=1) rfl,_,_,rfl,rfl,.inl ⟨by omega,by omega⟩,_,_,rfl,rfl,(by show (0:Int)<_;decide),_,_,rfl,rfl,⟨by decide,by decide⟩,_,rfl,_,_,rfl,rfl,m0,?_⟩
    exact k _ _ (ab9 _ (by omega)) (abM _ m0) S3 B3
   |cons x r=>
    refine AV ?_
    have x0:0<=x:=hn x aat
    refine⟨_,rfl,a,_,_,_,rfl,rfl,sq (FJ _),av (j:=0) rfl,b,_,_,_,rfl,rfl,sq (CA _),av (j:=0) rfl,_,rfl,_,_,rfl,rfl,m0,?_⟩
    refine⟨_,rfl,a,_,_,_,rfl,rfl,sq (FJ _),av (j:=0) rfl,b,_,_,_,rfl,rfl,sq (CA _),av (j:=0) rfl,_,rfl,_,_,rfl,rfl,⟨m0,m1⟩,_,rfl,a,_,_,_,rfl,rfl,sq (FJ _),av (j:=0) rfl,b,_,_,0,rfl,rfl,CA _,(by simp[D9]),_,rfl,?_⟩
    refine k _ _ (ab9 _ (by omega)) (abM _ m0) (S2.Ft (ns:=x / m::r) λn hm=>?_) B2.Ft
    rcases List.mem_cons.mp hm with rfl|hm
    .exact Int.ediv_nonneg x0 (by omega)
    .exact hn n (aar _ hm)
  refine⟨_,rfl,a,_,_,_,rfl,rfl,sq ha,av (j:=0) rfl,aaS _,λp hp=>?_⟩
  have FJ:∀o,(upd H' p o) a=some (.lst [.ref b,.int z]):=λo=>by rw[af (aq ha hp)];exact ha
  have CA:∀o,(upd H' p o) b=some (.lst (ns.map V.int)):=λo=>by rw[af (aq hb hp)];exact hb
  have S2:=S'.grow (o:=.lst []) hp
  have B2:=hB.grow (o:=.lst []) hp
  refine⟨b,p,_,rfl,rfl,sq (CA _),sq ag,_,rfl,?_⟩
  cases ns with
  |nil=>
   refine Ar (Ar ?_)
   exact behind _ B2 S2
  |cons x r=>
   refine AV ?_
   refine⟨_,rfl,a,_,_,_,rfl,rfl,sq (FJ _),av (j:=0) rfl,b,_,_,_,rfl,rfl,sq (CA _),av (j:=0) rfl,rfl,_,rfl,?_⟩
   refine JS (λ_=>?_) (λ_=>behind _ B2 S2)
   refine⟨λσ' LL=>σ'=[some (.ref a),some (.int m),none]/\Cu a b H LL/\LL a=some (.lst [.ref b,.int z])/\LL b=some (.lst (r.map V.int)),λσ' LL h=>⟨r.length,by rw[<- hl,aa3];exact abw _,h.1,h.2.1,r,z,h.2.2.1,h.2.2.2,λn hm=>hn n (aar _ hm),z0,z1,rfl⟩,?_⟩
   refine⟨_,rfl,a,_,_,_,rfl,rfl,sq (FJ _),av (j:=0) rfl,.inl ⟨rfl,_,yf.of (CA _)⟩,b,_,0,0,_,rfl,rfl,CA _,by decide,by decide,?_,rfl,rfl,B2.Ft,by rw[af S'.ne];exact FJ _,ag⟩
   simp[ae9]
structure Bt(mg:Str->Option Value):Prop where
 len:mg "len" = none
 abs:mg "abs" = none
 range:mg "range" = none
 max:mg "max" = none
 sorted:mg "sorted" = none
 tuple:mg "tuple" = none
theorem Ay:az ["_law_script", "_law_seed", "_law_cell"] ["_law_script"] (ap yE):=⟨rfl,rfl,rfl,by decide +kernel,rfl,by decide +kernel,by decide +kernel⟩
theorem rE{f:Addr}(F:C6 K "_law_begin" "_law_begin" yE f fd)(B:Bt mg):w4 P w K mg base ye 1 f fd ["_law_script"] (f8 K):=by
 refine F.ok Ay (λvs H Q E h=>?_) (λxn A outer s H vs Q E hr h=>?_)
 .obtain⟨a,ns,rfl,_⟩:=h
  rfl
 .obtain⟨a,ns,rfl,hS,hlen,k⟩:=h
  refine⟨_,bE (cY (i:=1) Ay.nd rfl (Or.inl rfl) (bc fL (bF fW (by rfl) B.len acz (aP (pv 0) aV)) aB))
   (bE (pD aaU rfl (m8 (hZ jn (pv 0) jB (jA aB))) (aI (i:=2) Ay.nd rfl (Or.inl rfl))
    (cR (cY (i:=1) Ay.nd rfl (Or.inl rfl) (bc da (bc fL (bc fL (bc iR (pv 1) aB) (bc da (pv 2) (bc lI aB aB))) aB) aB))))
   (cR (cZ (fJ (aP (oj (N:=["_law_cell"]) (js:=[none]) (m8 (hZ jn (pv 0) jB (jA aB))) (λ_ _ _ _ _=>aI (i:=0) tU rfl (Or.inl rfl))
    (λ_ _ _ _ _=>pJ (dW wF (bF ir (by rfl) B.abs ad7 (aP (pv 0) aV)) (bc lI aB aB) (zQ _)))
    (λ_ _ _ _ _=>bF ir (by rfl) B.abs ad7 (aP (pv 0) aV)) gg) (aP (pv 1) aV)))))),?_⟩
  refine⟨_,rfl,a,_,rfl,.inl hS,_,_,rfl,rfl,?_⟩
  have cut:∀(H':Hp),dO H H'->zW (ns.map V.int) none (some 63)=ns.map V.int:=λ_ _=>by
   unfold zW
   rw[HT.BZ]
   have e:HT.xM (ns.map V.int).length (ns.map V.int).length (some 63)=(ns.map V.int).length:=by
    have:=HT.Di (ns.map V.int).length (ns.map V.int).length 63
    refine this.trans ?_
    rw[aad];omega
   rw[e,Nat.sub_zero,List.drop_zero,abd]
  have grow:∀{H':Hp} {p:Addr} {o:HO},dO H H'->H' p=none->dO H (upd H' p o):=λ{H' p o} hs hp c u h=>by
   have q:=hs c u h
   rw[af (aq q hp)];exact q
  refine⟨_,rfl,63,rfl,a,_,rfl,hS,λp hp=>?_⟩
  rw[cut H (dO.refl H)]
  have Lp:yf K (upd H p (.lst (ns.map V.int))) p (ns.map V.int):=sq ag
  refine⟨p,rfl,⟨_,Lp⟩,r8 (K:=K) (a:=p) (xs:=ns.map V.int) (λi σ H2=>∃(z:Int) (v:Option V),σ=[some (.ref a),some (.int z),v]/\H2=upd H p (.lst (ns.map V.int))/\0<=z/\z<2305843009213693951)
   ⟨_,none,rfl,rfl,by show (0:Int)<=((ns.map V.int).length:Nat)+3;omega,by show ((ns.map V.int).length:Nat)+(3:Int)<_;rw[aad];omega⟩ (λi σ H2 _ ⟨_,_,_,e,_⟩=>by rw[e];exact Lp) ?_ ?_⟩
  .rintro i y σ H2 hi ⟨z,v,rfl,rfl,z0,z1⟩
   obtain⟨c,rfl⟩:∃c,y=V.int c:=by
    rw[aai]at hi
    cases e:ns[i]? with
    |none=>rw[e]at hi;cases hi
    |some c=>rw[e]at hi;exact⟨c,(aao hi).symm⟩
   refine⟨_,rfl,_,_,rfl,rfl,.inr ⟨by decide,by decide⟩,_,rfl,_,_,rfl,rfl,⟨by decide,by decide,by decide⟩,_,_,rfl,rfl,(by show (0:Int)<10 ^ 30;decide),_,_,rfl,rfl,_,_,rfl,rfl,_,_,rfl,rfl,(by show (0:Int)<_;decide),?_⟩
   exact⟨_,_,rfl,rfl,ab9 _ (by decide),abM _ (by decide)⟩
  .rintro σ H2 ⟨z,v,rfl,rfl,z0,z1⟩
   have FC:dO H (upd H p (.lst (ns.map V.int))):=grow (dO.refl H) hp
   refine⟨_,rfl,63,rfl,a,_,rfl,FC.seq hS,λp2 GC=>?_⟩
   rw[cut H (dO.refl H)]
   have HG:dO H (upd (upd H p (.lst (ns.map V.int))) p2 (.lst (ns.map V.int))):=grow FC GC
   refine⟨p2,rfl,⟨_,sq ag⟩,λl hl=>?_⟩
   generalize FK:upd (upd H p (.lst (ns.map V.int))) p2 (.lst (ns.map V.int))=H3 at HG hl ⊢
   have J2:H3 p2=some (.lst (ns.map V.int)):=by rw[<- FK];exact ag
   refine t7 (K:=K) (a:=p2) (l:=l) (xs:=ns.map V.int) (λi ys H4=>∃ms:List Int,ys=ms.map V.int/\(∀n∈ms,0<=n)/\ms.length<=i/\H4=upd H3 l (.lst ys))
    ⟨[],rfl,(λ_ h=>nomatch h),aak _,rfl⟩ (λi ys H4 _ ⟨_,_,_,_,e⟩=>by rw[e];exact sq (by rw[af (aq J2 hl)];exact J2)) ?_ ?_
   .rintro i x ys H4 N hi ⟨ms,rfl,hm,QS,rfl⟩ hN
    obtain⟨c,rfl⟩:∃c,x=V.int c:=by
     rw[aai]at hi
     cases e:ns[i]? with
     |none=>rw[e]at hi;cases hi
     |some c=>rw[e]at hi;exact⟨c,(aao hi).symm⟩
    have HL:i<(ns.map V.int).length:=(List.getElem?_eq_some_iff.mp hi).1
    rw[aad]at HL
    refine⟨_,rfl,_,rfl,_,_,rfl,rfl,⟨by decide,by decide,by decide⟩,_,_,rfl,rfl,_,rfl,?_⟩
    refine JS (λ_=>?_) (λ_=>hN _ _ ⟨ms,rfl,hm,by omega,rfl⟩)
    refine⟨_,rfl,c,rfl,ag,by rw[aad,aaA];omega,hN _ _ ⟨ms++[if c<0 then -c else c],by simp,λn hn=>?_,by rw[aaF,aea];omega,by rw[sM]⟩⟩
    rcases List.mem_append.mp hn with q|q
    .exact hm n q
    .have:n=if c<0 then -c else c:=by simpa using q
     rw[this];split<;>omega
   .rintro ys H4 ⟨ms,rfl,hm,QS,rfl⟩
    refine⟨_,rfl,(by show 2<=sizeLine;decide),λq hq=>?_⟩
    have J8:l≠q:=λe=>by rw[e,ag]at hq;cases hq
    refine k q l _ ((grow HG hl).free hq) (HG.free hl) ⟨ms,z,ag,by rw[af J8,ag],hm,z0,z1⟩ (grow (grow HG hl) hq)
end Pre
namespace Pre
open PySem L2 Q
structure xT(x:Str):Prop where
 lo:1<=x.cps.toList.length
 hi:x.cps.toList.length<=8
 ok:∀c∈x.cps.toList,97<=c/\c<=122
def ch(i:Nat):Str:=⟨#[97+i]⟩
def wl(b s t f n k:Nat):List Nat:=if n<8/\s=6 then aaG (k+1) (97+b)else (aaG t (97+b)++[97+(f+5*k) % 26,97+(f+k / 26) % 26])++aaG (s - t) (97+b)
def wd(b s t f n k:Nat):Str:=⟨(wl b s t f n k).toArray⟩
variable{b s t f n k:Nat}
theorem sL(hb:b<26)(hs:s<7)(ht:t<=s)(hk:k<n):xT (wd b s t f n k):=by
 have e:(wd b s t f n k).cps.toList=wl b s t f n k:=by simp[wd]
 refine⟨?_,?_,?_⟩
 .rw[e];unfold wl;split
  .simp
  .simp;omega
 .rw[e];unfold wl;split
  .simp;omega
  .simp;omega
 .rw[e];unfold wl
  intro c hc
  split at hc
  .have:=adJ hc
   omega
  .rcases List.mem_append.mp hc with h|h
   .rcases List.mem_append.mp h with h|h
    .have:=adJ h;omega
    .simp only[abZ,ac7,or_false]at h
     have:=Nat.mod_lt (f+5*k) (show 0<26 by decide)
     have:=Nat.mod_lt (f+k / 26) (show 0<26 by decide)
     omega
   .have:=adJ h;omega
theorem nr(f a b:Nat)(h:(f+a) % 26=(f+b) % 26):a % 26=b % 26:=by omega
theorem uL:∀k:Nat,k<60->∀k':Nat,k'<60->(5*k) % 26=(5*k') % 26->(k / 26) % 26=(k' / 26) % 26->k=k':=by decide +kernel
theorem uK{k':Nat}(hk:k<60)(QZ:k'<60)(h:wd b s t f n k=wd b s t f n k'):k=k':=by
 have e:wl b s t f n k=wl b s t f n k':=by
  have:=congrArg (λx:Str=>x.cps.toList) h
  simpa[wd]using this
 unfold wl at e
 split at e
 .have:=congrArg acX e
  rw[ab0,ab0]at this
  exact aaW this
 .have e1:=List.append_cancel_right e
  have e2:=List.append_cancel_left e1
  simp only[List.cons.injEq,and_true]at e2
  exact uL k hk k' QZ (nr f _ _ (Nat.add_left_cancel e2.1)) (nr f _ _ (Nat.add_left_cancel e2.2))
def D6(b s t f n:Nat)(m:Nat):List Str:=(aaR m).map (wd b s t f n)
theorem o6{m:Nat}(hm:m<=60):(D6 b s t f n m).Nodup:=by
 unfold D6
 rw[acw,aeL]
 have:=(List.nodup_iff_pairwise_ne.mp (adV (n:=m)))
 refine abL (λ{x y} hx hy yq e=>?_) this
 exact yq (uK (by have:=List.mem_range.mp hx;omega) (by have:=List.mem_range.mp hy;omega) e)
theorem qJ(hb:b<26)(hs:s<7)(ht:t<=s):∀x∈D6 b s t f n n,xT x:=λx hx=>by
 obtain⟨k,hk,rfl⟩:=List.mem_map.mp hx
 exact sL hb hs ht (List.mem_range.mp hk)
theorem qK(b s t f n m:Nat):D6 b s t f n (m+1)=D6 b s t f n m++[wd b s t f n m]:=by
 unfold D6
 rw[afi,aaH];rfl
variable{x y:Str}
theorem jk(h:x.cps.toList=y.cps.toList):x=y:=by
 obtain⟨x⟩:=x
 obtain⟨y⟩:=y
 exact congrArg Str.mk (Array.toList_inj.mp h)
theorem iK(b m:Nat):(Ap (ch b) m).cps.toList=aaG m (97+b):=by
 unfold Ap ch
 induction m with
 |zero=>rfl
 |succ m ih=>
  simp only[abo,abQ]at ih ⊢
  simpa using ih
theorem fw(x y:Str):(x++y).cps.toList=x.cps.toList++y.cps.toList:=by
 show (x.cps++y.cps).toList=_
 simp
def Ip:Str := "abcdefghijklmnopqrstuvwxyz"
theorem wz:∀i:Nat,i<26->Ip.cps.toList[i]?=some (97+i):=by decide +kernel
structure tO where
 nm:Str
 one:Str
 wN:Str
 cost:Int
def t0:tO:=⟨⟨#[]⟩,⟨#[]⟩,⟨#[]⟩,0⟩
structure E5(t:tO):Prop where
 nm:xT t.nm
 one:xT t.one
 wN:xT t.wN
 lt:xq t.one t.wN
 lo : -(10 ^ 30)<t.cost
 hi:t.cost<10 ^ 30
structure zq(ps:List Str)(ts:List tO):Prop where
 rise:ps.Pairwise xq
 word:∀x∈ps,xT x
 names:(ts.map tO.nm).Pairwise xq
 tie:∀t∈ts,E5 t
theorem iW(h1:¬ xq y x)(h2:x≠y):xq x y:=by
 unfold xq at *
 rcases List.le_iff_lt_or_eq.mp (List.not_lt.mp h1)with z|z
 .exact z
 .exact absurd (jk z) h2
variable{l:List Str}
theorem uN(hp:l.Perm [x,y])(hs:l.Pairwise λa b=>¬ xq b a)(hn:x≠y):∃u v,l=[u,v]/\xq u v/\(u=x\/u=y)/\(v=x\/v=y):=by
 have hl:=hp.length_eq
 match l,hl with
 |[u,v],_=>
  have hu:u=x\/u=y:=by simpa using hp.mem_iff.mp (show u∈[u,v]by simp)
  have hv:v=x\/v=y:=by simpa using hp.mem_iff.mp (show v∈[u,v]by simp)
  have nd:[u,v].Nodup:=hp.nodup_iff.mpr (by simp[hn])
  have yq:u≠v:=by simpa using nd
  refine⟨u,v,rfl,iW ?_ yq,hu,hv⟩
  have:=List.rel_of_pairwise_cons hs (show v∈[v]by simp)
  exact this
theorem f9(hs:l.Pairwise λa b=>¬ xq b a)(hn:l.Nodup):l.Pairwise xq:=by
 have:=List.nodup_iff_pairwise_ne.mp hn
 exact(hs.and this).imp λ⟨h1,h2⟩=>iW h1 h2
def oF(t:tO):PV:=.tup [.str t.nm,.str t.one,.str t.wN,.int t.cost]
def eQ(ps:List Str)(ts:List tO):PV:=.tup [.tup (ps.map .str),.tup (ts.map oF)]
def cG:Ai:=λc xs P=>c=.nE/\∃n:Nat,xs=[.int n]/\n<=60/\∀ws:List Str,ws.length=n->ws.Nodup->(∀x∈ws,xT x)->P (.lst (ws.map .str)) .nE
def iA:Ai:=λc xs P=>c=.nE/\∃q:Int,xs=[.int q]/\∀c:Int,-(10 ^ 30)<c->c<10 ^ 30->P (.int c) .nE
def jY:Ai:=λc xs P=>c=.nE/\∃M T:Int,xs=[.int M,.int T]/\0<=M/\M<=40/\0<=T/\T<=50/\∀(ps:List Str) (ts:List tO) (W:List Str),zq ps ts->(ps.length:Int)<=M->(ts.length:Int)<=T->(W.length:Int)<=M+2->(∀x∈ps,x∈W)->(∀t∈ts,t.one∈W/\t.wN∈W)->P (eQ ps ts) .nE
def iz:Ai:=λc xs P=>c=.nE/\∃f m k:Int,xs=[.int f,.int m,.int k]/\2<=m/\m<=100/\∀i j:Int,0<=i->i<m->0<=j->j<m->i≠j->P (.tup [.int i,.int j]) .nE
variable{P:aaB}{w:World}{K:aah}{mg:Str->Option Value}{base:Heap}
theorem vB(Y:Ev K mg):Bt mg:=⟨Y.Ah,Y.E3,Y.zG,Y.DA,Y.xt,Y.xJ⟩
theorem aG(Y:Ev K mg):w4 P w K mg base ye 1 Y.Dx.f Y.Dx.fd ["_law_state", "_law_many"] (E8 ⟨P,w,K,zA K⟩ 2 aC):=rH (tQ Y.Dx.F)
theorem ql(Y:Ev K mg):w4 P w K mg base ye 1 Y.zw.f Y.zw.fd ["_law_script"] (f8 K):=rE Y.zw.F (vB Y)
end Pre
namespace Pre
open PySem L2
def xh(ps:List Str)(t:tO):Bool:=decide (t.one∈ps) && decide (t.wN∈ps)
variable{ps:List Str}{t:tO}
theorem yy:xh ps t=true↔t.one∈ps/\t.wN∈ps:=by unfold xh;simp
def yY(ns:List Str)(t:tO):Bool:=decide (t.nm∈ns)
variable{ns:List Str}
theorem rG:yY ns t=true↔t.nm∈ns:=by unfold yY;simp
variable{x y:Str}
theorem fN(h:xq x y):x≠y:=λe=>by subst e;exact aen _ h
variable{ts:List tO}
theorem bu(h:zq ps ts):(ts.map tO.nm).Nodup:=List.nodup_iff_pairwise_ne.mpr (h.names.imp λz=>fN z)
variable{α:Type}{i:Nat}
theorem gP{f:α->Bool}{ts:List α}(hi:i<ts.length):(ts.take (i+1)).filter f=(ts.take i).filter f++(if f ts[i]=true then [ts[i]]else []):=by
 rw[abB,aaa hi,List.filter_append]
 congr 1
 show List.filter f [ts[i]]=_
 rw[ac8]
 rfl
def ends(p:Str)(t:tO):List (Str×Str):=(if t.one=p then [(t.nm,t.wN)]else [])++(if t.wN=p then [(t.nm,t.one)]else [])
def xj(ps:List Str)(ts:List tO)(p:Str):List (Str×Str):=(ts.filter (xh ps)).flatMap (ends p)
theorem so(hi:i<ts.length)(p:Str):xj ps (ts.take (i+1)) p=xj ps (ts.take i) p++(if xh ps ts[i]=true then ends p ts[i]else []):=by
 unfold xj
 rw[gP (f:=xh ps) hi,List.flatMap_append]
 congr 1
 split<;>simp
theorem mQ(p:Str)(t:tO):(ends p t).length<=2:=by
 unfold ends
 split<;>split<;>simp
theorem oI(ps:List Str)(ts:List tO)(p:Str):(xj ps ts p).length<=2*ts.length:=by
 unfold xj
 have h1:∀us:List tO,(us.flatMap (ends p)).length<=2*us.length:=λus=>by
  induction us with
  |nil=>simp
  |cons t r ih=>
   rw[List.flatMap_cons,aaF,aa3]
   have:=mQ p t
   omega
 have h2:=h1 (ts.filter (xh ps))
 have h3:=aa9 (xh ps) ts
 omega
inductive xP (g:Str->List (Str×Str)) (s:Str):Str->Prop where
 |refl:xP g s s
 |step {x y nm:Str}:xP g s x->(nm,y)∈g x->xP g s y
abbrev Cs:=List (Str×Option (Str×Str))
abbrev yx(cs:Cs):List Str:=cs.map (·.1)
structure zY(g:Str->List (Str×Str))(start:Str)(cs:Cs):Prop where
 nd:(yx cs).Nodup
 tree:∀(i:Nat) (c:Str×Option (Str×Str)),cs[i]?=some c->(i=0/\c=(start,none))\/(0<i/\∃nm x,c.2=some (nm,x)/\(nm,c.1)∈g x/\x∈yx (cs.take i))
 ne:cs≠[]
variable{g:Str->List (Str×Str)}{cs:Cs}
theorem zY.start{start:Str}(x:zY g start cs):start∈yx cs:=by
 cases cs with
 |nil=>exact absurd rfl x.ne
 |cons c r=>
  rcases x.tree 0 c rfl with ⟨_,e⟩|⟨e,_⟩
  .subst e;exact aat
  .exact absurd e (aba _)
theorem zY.sound{start:Str}(x:zY g start cs):∀(i:Nat),∀y∈yx (cs.take i),xP g start y
 |0,y,h=>by simp at h
 |i+1,y,h=>by
  rw[abB]at h
  unfold yx at h
  rw[aaH]at h
  rcases List.mem_append.mp h with h|h
  .exact zY.sound x i y h
  .cases e:cs[i]? with
   |none=>rw[e]at h;simp at h
   |some c=>
    rw[e]at h
    have hy:y=c.1:=by simpa using h
    subst hy
    rcases x.tree i c e with ⟨_,e⟩|⟨_,nm,z,e1,e2,e3⟩
    .subst e;exact .refl
    .exact .step (zY.sound x i z e3) e2
theorem zY.iff{start:Str}(x:zY g start cs)(cl:∀y∈yx cs,∀q∈g y,q.2∈yx cs):y∈yx cs↔xP g start y:=by
 constructor
 .intro h
  refine x.sound cs.length y ?_
  rw[abd];exact h
 .intro h
  induction h with
  |refl=>exact x.start
  |step _ h ih=>exact cl _ ih _ h
variable{nm:Str}
theorem zY.snoc{start:Str}(h:zY g start cs)(hy:y∉yx cs)(hx:x∈yx cs)(hg:(nm,y)∈g x):zY g start (cs++[(y,some (nm,x))]):=by
 refine⟨?_,λi c hc=>?_,by simp⟩
 .unfold yx
  rw[aaH,ab3]
  refine⟨h.nd,by simp,λa ha b hb=>?_⟩
  have:b=y:=by simpa using hb
  rw[this]
  intro z
  exact hy (by rw[<- z];exact ha)
 .rcases adI i cs.length with z|z|z
  .rw[aav z]at hc
   rw[aeZ (by omega)]
   exact h.tree i c hc
  .subst z
   rw[acx (aak _),Nat.sub_self]at hc
   have e:c=(y,some (nm,x)):=by simpa using hc.symm
   subst e
   refine .inr ⟨?_,nm,x,rfl,hg,?_⟩
   .cases cs with
    |nil=>exact absurd rfl h.ne
    |cons _ _=>simp
   .rw[aeZ (aak _),abd];exact hx
  .rw[aan (by rw[aaF];simp;omega)]at hc
   cases hc
theorem bi[DecidableEq α]:∀{xs ys:List α},xs.Nodup->(∀x∈xs,x∈ys)->xs.length<=ys.length
 |[],_,_,_=>aaS _
 |x::r,ys,nd,h=>by
  obtain⟨n1,n2⟩:=List.nodup_cons.mp nd
  have hx:=h x aat
  have:=bi (xs:=r) (ys:=ys.erase x) n2 λz hz=>by
   have Qq:z≠x:=λe=>n1 (by rw[<- e];exact hz)
   exact(List.mem_erase_of_ne Qq).mpr (h z (aar _ hz))
  rw[List.length_erase_of_mem hx]at this
  have hp:=List.length_pos_of_mem hx
  rw[aa3]
  omega
variable{z:Str}
theorem lP(a:xq x y)(b:xq y z):xq x z:=List.lt_trans a b
theorem cn(x:Str):¬ xq x x:=aen _
theorem lQ(a:xq x y):¬ xq y x:=λb=>cn x (lP a b)
theorem jK(x y:Str):xq x y\/x=y\/xq y x:=by
 by_cases h:xq y x
 .exact .inr (.inr h)
 .by_cases e:x=y
  .exact .inr (.inl e)
  .exact .inl (iW h e)
theorem ll:∀{xs ys:List Str},xs.Pairwise xq->ys.Pairwise xq->(∀z,z∈xs↔z∈ys)->xs=ys
 |[],[],_,_,_=>rfl
 |[],y::ys,_,_,h=>absurd ((h y).mpr aat) (by simp)
 |x::xs,[],_,_,h=>absurd ((h x).mp aat) (by simp)
 |x::xs,y::ys,hx,hy,h=>by
  obtain⟨x1,x2⟩:=List.pairwise_cons.mp hx
  obtain⟨y1,y2⟩:=List.pairwise_cons.mp hy
  have e:x=y:=by
   rcases List.mem_cons.mp ((h x).mp aat)with e|e
   .exact e
   .rcases List.mem_cons.mp ((h y).mpr aat)with e'|e'
    .exact e'.symm
    .exact absurd (x1 y e') (lQ (y1 x e))
  subst e
  rw[ll x2 y2 λz=>?_]
  constructor
  .intro hz
   rcases List.mem_cons.mp ((h z).mp (aar _ hz))with e|e
   .subst e;exact absurd (x1 z hz) (cn z)
   .exact e
  .intro hz
   rcases List.mem_cons.mp ((h z).mpr (aar _ hz))with e|e
   .subst e;exact absurd (y1 z hz) (cn z)
   .exact e
theorem bU{xs:List Str}(h:xs.Pairwise xq):xs.Nodup:=List.nodup_iff_pairwise_ne.mpr (h.imp λz=>fN z)
open Classical in
noncomputable def rb(g:Str->List (Str×Str))(s y:Str):Bool:=decide (xP g s y)
variable{s:Str}
theorem xW:rb g s y=true↔xP g s y:=by unfold rb;simp
theorem xP.Cd(h:xP g s y)(hs:s∈ps)(Bw:∀p∈ps,∀q∈g p,q.2∈ps):y∈ps:=by
 induction h with
 |refl=>exact hs
 |step _ h ih=>exact Bw _ ih _ h
noncomputable def root(ps:List Str)(g:Str->List (Str×Str))(s:Str):Bool:=!ps.any λp=>decide (xq p s) && rb g p s
theorem AK:root ps g s=true↔∀p∈ps,xP g p s->¬ xq p s:=by
 unfold root
 rw[Bool.not_eq_true',List.any_eq_false]
 constructor
 .intro h p hp hr hl
  exact h p hp (by rw[aaT,xW];exact⟨decide_eq_true hl,hr⟩)
 .intro h p hp z
  rw[aaT,xW]at z
  exact h p hp z.2 (of_decide_eq_true z.1)
noncomputable def Cv(ps:List Str)(g:Str->List (Str×Str)):List (List Str):=(ps.filter (root ps g)).map λs=>ps.filter (rb g s)
variable{p:Str}
theorem zH{q:Str}:(nm,q)∈xj ps ts p↔∃t∈ts,xh ps t=true/\nm=t.nm/\((t.one=p/\t.wN=q)\/(t.wN=p/\t.one=q)):=by
 unfold xj
 rw[List.mem_flatMap]
 constructor
 .rintro⟨t,ht,h⟩
  obtain⟨h1,h2⟩:=List.mem_filter.mp ht
  unfold ends at h
  rcases List.mem_append.mp h with z|z
  .split at z
   .rename_i e
    have:(nm,q)=(t.nm,t.wN):=by simpa using z
    cases this
    exact⟨t,h1,h2,rfl,.inl ⟨e,rfl⟩⟩
   .simp at z
  .split at z
   .rename_i e
    have:(nm,q)=(t.nm,t.one):=by simpa using z
    cases this
    exact⟨t,h1,h2,rfl,.inr ⟨e,rfl⟩⟩
   .simp at z
 .rintro⟨t,h1,h2,rfl,h3⟩
  refine⟨t,List.mem_filter.mpr ⟨h1,h2⟩,?_⟩
  unfold ends
  rcases h3 with ⟨e1,e2⟩|⟨e1,e2⟩
  .exact abE _ (by rw[if_pos e1,e2];simp)
  .exact aaC _ (by rw[if_pos e1,e2];simp)
theorem gy:∀q∈xj ps ts p,q.2∈ps:=λ⟨nm,q⟩ h=>by
 obtain⟨t,h1,h2,h3,h4⟩:=zH.mp h
 obtain⟨o1,o2⟩:=yy.mp h2
 rcases h4 with ⟨a,b⟩|⟨a,b⟩
 .rw[<- b];exact o2
 .rw[<- b];exact o1
structure C5(ps:List Str)(os:List tO)(g:Str->List (Str×Str)):Prop where
 mem:∀p nm q,(nm,q)∈g p↔∃t∈os,nm=t.nm/\((t.one=p/\t.wN=q)\/(t.wN=p/\t.one=q))
 Cd:∀t∈os,t.one∈ps/\t.wN∈ps
variable{os:List tO}
theorem C5.sym(G:C5 ps os g){q:Str}(h:(nm,q)∈g p):(nm,p)∈g q:=by
 obtain⟨t,a,b,c⟩:=(G.mem _ _ _).mp h
 refine(G.mem _ _ _).mpr ⟨t,a,b,?_⟩
 rcases c with ⟨x,y⟩|⟨x,y⟩
 .exact .inr ⟨y,x⟩
 .exact .inl ⟨y,x⟩
theorem xP.trans(a:xP g x y)(b:xP g y z):xP g x z:=by
 induction b with
 |refl=>exact a
 |step _ h ih=>exact .step ih h
theorem C5.B5(G:C5 ps os g)(h:xP g x y):xP g y x:=by
 induction h with
 |refl=>exact .refl
 |step _ h ih=>exact xP.trans (.step .refl (G.sym h)) ih
theorem gz(ps:List Str)(ts:List tO):C5 ps (ts.filter (xh ps)) (xj ps ts):=by
 refine⟨λp nm q=>?_,λt ht=>yy.mp (List.mem_filter.mp ht).2⟩
 rw[zH]
 constructor
 .rintro⟨t,a,b,c⟩;exact⟨t,List.mem_filter.mpr ⟨a,b⟩,c⟩
 .rintro⟨t,a,c⟩
  obtain⟨a,b⟩:=List.mem_filter.mp a
  exact⟨t,a,b,c⟩
theorem kD(ps ns:List Str)(ts:List tO):(ts.filter (xh ps)).filter (yY ns)=(ts.filter (yY ns)).filter (xh ps):=by
 rw[aeB,aeB]
 exact abR λt _=>Bool.and_comm _ _
variable{Dl:List tO}{g':Str->List (Str×Str)}
theorem sT(G:C5 ps os g)(G':C5 ps Dl g')(h:∀t∈os,t∈Dl)(r:xP g x y):xP g' x y:=by
 induction r with
 |refl=>exact .refl
 |step _ e ih=>
  obtain⟨t,a,b,c⟩:=(G.mem _ _ _).mp e
  exact .step ih ((G'.mem _ _ _).mpr ⟨t,h t a,b,c⟩)
theorem i8{p q:α->Bool}:∀{l:List α},(∀x∈l,p x=true->q x=true)->(l.filter p).Sublist (l.filter q)
 |[],_=>List.Sublist.refl _
 |x::l,h=>by
  have ih:=i8 (l:=l) λy hy=>h y (by simp[hy])
  rw[ac8,ac8]
  cases e:p x with
  |false=>
   rw[if_neg (by simp)]
   split
   .exact ih.cons _
   .exact ih
  |true=>
   rw[if_pos rfl,if_pos (h x (by simp) e)]
   exact ih.cons_cons _
theorem qU(G:C5 ps os g){r:Str}(hr:r∈ps)(hs:s∈ps)(h1:root ps g r=true)(h2:root ps g s=true)(h:xP g r s):r=s:=by
 rw[AK]at h1 h2
 rcases jK r s with z|z|z
 .exact absurd z (h2 r hr h)
 .exact z
 .exact absurd z (h1 s hs (G.B5 h))
theorem ij(G:C5 ps os g)(G':C5 ps Dl g')(h:∀u,u∈Dl↔u∈os\/u=t)(r:xP g' x y):xP g x y\/(xP g x t.one/\xP g t.wN y)\/(xP g x t.wN/\xP g t.one y):=by
 induction r with
 |refl=>exact .inl .refl
 |step _ e ih=>
  obtain⟨u,a,b,c⟩:=(G'.mem _ _ _).mp e
  rcases(h u).mp a with a|rfl
  .have e':=(G.mem _ _ _).mpr ⟨u,a,b,c⟩
   rcases ih with ih|⟨i1,i2⟩|⟨i1,i2⟩
   .exact .inl (.step ih e')
   .exact .inr (.inl ⟨i1,.step i2 e'⟩)
   .exact .inr (.inr ⟨i1,.step i2 e'⟩)
  .rcases c with ⟨c1,c2⟩|⟨c1,c2⟩
   .subst c1 c2
    rcases ih with ih|⟨i1,i2⟩|⟨i1,i2⟩
    .exact .inr (.inl ⟨ih,.refl⟩)
    .exact .inr (.inl ⟨i1,.refl⟩)
    .exact .inl i1
   .subst c1 c2
    rcases ih with ih|⟨i1,i2⟩|⟨i1,i2⟩
    .exact .inr (.inr ⟨ih,.refl⟩)
    .exact .inl i1
    .exact .inr (.inr ⟨i1,.refl⟩)
theorem pU(nd:ps.Nodup)(G:C5 ps os g)(G':C5 ps Dl g')(h:∀u,u∈Dl↔u∈os\/u=t)(hc:xP g t.one t.wN)(r:xP g' x y):xP g x y:=by
 rcases ij G G' h r with z|⟨z1,z2⟩|⟨z1,z2⟩
 .exact z
 .exact z1.trans (hc.trans z2)
 .exact z1.trans ((G.B5 hc).trans z2)
end Pre
namespace Pre
open PySem L2 Q
def xb(q:Str×Str):PV:=.tup [.str q.1,.str q.2]
def yl(ps:List Str)(g:Str->List (Str×Str)):PV:=.xv (ps.map λp=>(aaq p,.lst ((g p).map xb)))
def BQ:Option (Str×Str)->PV
 |none=>.nE
 |some q=>xb q
def x9(cs:Cs):PV:=.xv (cs.map λc=>(aaq c.1,BQ c.2))
structure Nt(ps:List Str)(ts:List tO):Prop where
 rise:ps.Pairwise xq
 ne:∀t∈ts,t.one≠t.wN
 pl:ps.length<=60
 tl:ts.length<=1000
def bI(ps:List Str)(ts:List tO):List Str:=(ts.filter (xh ps)).map tO.nm
def bQ:Fd:=λxs P=>∃(ps:List Str) (ts:List tO) (t:tO),xs=[eQ ps ts,oF t]/\P (.bl (xh ps t))
def bA:Fd:=λxs P=>∃(ps:List Str) (ts:List tO),xs=[eQ ps ts]/\ts.length<=1000/\P (.tup ((bI ps ts).map .str))
def bL:Fd:=λxs P=>∃(ps:List Str) (ts:List tO),xs=[eQ ps ts]/\Nt ps ts/\P (yl ps (xj ps ts))
def cw:Fd:=λxs P=>∃(ps:List Str) (g:Str->List (Str×Str)) (start:Str),xs=[yl ps g,.str start]/\ps.Nodup/\start∈ps/\(∀p∈ps,∀q∈g p,q.2∈ps)/\ps.length<=1000 /\
 ∀cs,zY g start cs->(∀y∈yx cs,y∈ps)->(∀y∈yx cs,∀q∈g y,q.2∈yx cs)->P (x9 cs)
def dS:Fd:=λxs P=>∃(ps:List Str) (g:Str->List (Str×Str)) (start:Str),xs=[yl ps g,.str start]/\ps.Pairwise xq/\start∈ps/\(∀p∈ps,∀q∈g p,q.2∈ps)/\ps.length<=60/\P (.tup ((ps.filter (rb g start)).map .str))
def Cc(ps:List Str)(L:Str->Str):PV:=.xv (ps.map λp=>(aaq p,.str (L p)))
def zZ(ps ns:List Str)(ts:List tO):List tO:=(ts.filter (xh ps)).filter (yY ns)
def cN:Fd:=λxs P=>∃(ps:List Str) (ts:List tO),xs=[eQ ps ts]/\Nt ps ts/\P (.tup ((Cv ps (xj ps ts)).map λq=>.tup (q.map .str)))
variable{ps:List Str}{ts:List tO}
theorem cE:∀{l:List tO},(l.map tO.nm).Nodup->∀{a b:tO},a∈l->b∈l->a.nm=b.nm->a=b
 |t::l,h,a,b,ha,hb,e=>by
  rw[aas,afj]at h
  rcases List.mem_cons.mp ha with h1|h1
  .rcases List.mem_cons.mp hb with h2|h2
   .exact h1.trans h2.symm
   .exact absurd (h1 ▸ e ▸ aaZ (f:=tO.nm) h2) h.1
  .rcases List.mem_cons.mp hb with h2|h2
   .exact absurd (h2 ▸ e ▸ aaZ (f:=tO.nm) h1) h.1
   .exact cE h.2 h1 h2 e
theorem lW(ps ns:List Str)(ts:List tO):C5 ps (zZ ps ns ts) (xj ps (ts.filter (yY ns))):=by
 unfold zZ
 rw[kD]
 exact gz ps _
def zk(t u:tO):Prop:=t.cost<u.cost\/(t.cost=u.cost/\xq t.nm u.nm)
theorem gv(t:tO):¬ zk t t:=by
 rintro(h|⟨_,h⟩)
 .omega
 .exact cn _ h
variable{t u:tO}
theorem mt{v:tO}(h:zk t u)(k:zk u v):zk t v:=by
 rcases h with h|⟨h1,h2⟩<;>rcases k with k|⟨k1,k2⟩
 .exact .inl (by omega)
 .exact .inl (by omega)
 .exact .inl (by omega)
 .exact .inr ⟨by omega,lP h2 k2⟩
theorem uG(h:t.nm≠u.nm):zk t u\/zk u t:=by
 rcases Int.lt_trichotomy t.cost u.cost with z|z|z
 .exact .inl (.inl z)
 .rcases jK t.nm u.nm with w|w|w
  .exact .inl (.inr ⟨z,w⟩)
  .exact absurd w h
  .exact .inr (.inr ⟨z.symm,w⟩)
 .exact .inr (.inl z)
theorem wx(h:zk t u):¬ zk u t:=λk=>gv t (mt h k)
instance (t u:tO):Decidable (zk t u):=inferInstanceAs (Decidable (t.cost<u.cost\/(t.cost=u.cost/\xq t.nm u.nm)))
def below(os:List tO)(t:tO):List tO:=os.filter λu=>decide (zk u t)
variable{os:List tO}
theorem xI:u∈below os t↔u∈os/\zk u t:=by
 unfold below
 rw[ad9,decide_eq_true_eq]
def Min(ps:List Str)(os:List tO)(t:tO):Prop:=¬ xP (xj ps (below os t)) t.one t.wN
theorem Av(h:∀u∈os,xh ps u=true):C5 ps os (xj ps os):=by
 have:=gz ps os
 rwa [List.filter_eq_self.mpr h]at this
variable{x y:Str}
theorem cQ{Dl:List tO}(h:∀u∈os,xh ps u=true)(h':∀u∈Dl,xh ps u=true)(k:∀u∈os,u∈Dl)(r:xP (xj ps os) x y):xP (xj ps Dl) x y:=sT (Av h) (Av h') k r
theorem lv(h:∀u∈os,xh ps u=true)(ht:t∈os):xP (xj ps os) t.one t.wN:=.step .refl (((Av h).mem _ _ _).mpr ⟨t,ht,rfl,.inl ⟨rfl,rfl⟩⟩)
def less(os:List tO)(t:tO):List tO:=os.filter λu=>decide (u.nm≠t.nm)
theorem yo:u∈less os t↔u∈os/\u.nm≠t.nm:=by
 unfold less
 rw[ad9,decide_eq_true_eq]
theorem lm{L B:List tO}(hL:∀u∈L,xh ps u=true)(ht:t∈L)(hB:∀u∈B,u∈L):∀D:List tO,(D.map tO.nm).Nodup->(∀d∈D,d∈L/\(∀u∈B,u.nm≠d.nm)/\t.nm≠d.nm/\¬ xP (xj ps (less L d)) d.one d.wN)->xP (xj ps (B++D)) t.one t.wN->xP (xj ps B) t.one t.wN
 |[],_,_,r=>by rwa [abh]at r
 |d::D,nd,hD,r=>by
  rw[aas,afj]at nd
  have NF:=λu hu=>hD u (aar d hu)
  obtain⟨d1,d2,d3,d4⟩:=hD d aat
  have K9:∀u∈B++D,xh ps u=true:=λu hu=>hL u (by
   rcases List.mem_append.mp hu with z|z
   .exact hB u z
   .exact(NF u z).1)
  have Mw:∀u∈B++d::D,xh ps u=true:=λu hu=>by
   rcases List.mem_append.mp hu with z|z
   .exact K9 u (abE _ z)
   .rcases List.mem_cons.mp z with rfl|z
    .exact hL _ d1
    .exact K9 u (aaC _ z)
  have hm:∀u,u∈B++d::D↔u∈B++D\/u=d:=λu=>by
   simp only[ab4,abZ]
   constructor
   .rintro(h|h|h)
    .exact .inl (.inl h)
    .exact .inr h
    .exact .inl (.inr h)
   .rintro((h|h)|h)
    .exact .inl h
    .exact .inr (.inr h)
    .exact .inr (.inl h)
  have Mv:∀u∈less L d,xh ps u=true:=λu hu=>hL u (yo.mp hu).1
  have up:∀{x y:Str},xP (xj ps (B++D)) x y->xP (xj ps (less L d)) x y:=cQ K9 Mv λu hu=>yo.mpr (by
   rcases List.mem_append.mp hu with z|z
   .exact⟨hB u z,d2 u z⟩
   .exact⟨(NF u z).1,λe=>nd.1 (by rw[<- e];exact aaZ z)⟩)
  have te:xP (xj ps (less L d)) t.one t.wN:=lv Mv (yo.mpr ⟨ht,d3⟩)
  have G:=Av Mv
  rcases ij (Av K9) (Av Mw) hm r with z|⟨z1,z2⟩|⟨z1,z2⟩
  .exact lm hL ht hB D nd.2 NF z
  .exact absurd ((G.B5 (up z1)).trans (te.trans (G.B5 (up z2)))) d4
  .exact absurd ((up z2).trans ((G.B5 te).trans (up z1))) d4
def Kr(ps:List Str)(X:List tO)(G:Str->Str):Prop:=∀x∈ps,∀y∈ps,G x=G y↔xP (xj ps X) x y
theorem Kr.nil:Kr ps [] id:=λx _ y _=>by
 constructor
 .intro e
  have:x=y:=e
  subst this
  exact .refl
 .intro r
  induction r with
  |refl=>rfl
  |step _ e _=>cases e
variable{X:List tO}
theorem Kr.step{G:Str->Str}(oX:∀u∈X,xh ps u=true)(ot:xh ps t=true)(pn:ps.Nodup)(h:Kr ps X G):
  (G t.one=G t.wN->Kr ps (X++[t]) G)/\(G t.one≠G t.wN->Kr ps (X++[t]) λp=>if G p=G t.wN then G t.one else G p):=by
 have Mu:∀u∈X++[t],xh ps u=true:=λu hu=>by
  rcases List.mem_append.mp hu with z|z
  .exact oX u z
  .rw[List.mem_singleton.mp z];exact ot
 have A:=Av oX
 have A':=Av Mu
 have hm:∀u,u∈X++[t]↔u∈X\/u=t:=λu=>by rw[ab4,adw]
 have up:∀{x y:Str},xP (xj ps X) x y->xP (xj ps (X++[t])) x y:=cQ oX Mu λu hu=>abE _ hu
 have te:xP (xj ps (X++[t])) t.one t.wN:=lv Mu (by simp)
 obtain⟨o1,o2⟩:=yy.mp ot
 refine⟨λe x hx y hy=>(h x hx y hy).trans ⟨up,pU pn A A' hm ((h _ o1 _ o2).mp e)⟩,λe x hx y hy=>?_⟩
 constructor
 .intro q
  by_cases x1:G x=G t.wN<;>by_cases y1:G y=G t.wN
  .exact up ((h x hx y hy).mp (x1.trans y1.symm))
  .simp only[if_pos x1,if_neg y1]at q
   exact(up ((h x hx _ o2).mp x1)).trans ((A'.B5 te).trans (up ((h _ o1 y hy).mp q)))
  .simp only[if_neg x1,if_pos y1]at q
   exact(up ((h x hx _ o1).mp q)).trans (te.trans (up ((h _ o2 y hy).mp y1.symm)))
  .simp only[if_neg x1,if_neg y1]at q
   exact up ((h x hx y hy).mp q)
 .intro r
  show (if G x=G t.wN then G t.one else G x)=if G y=G t.wN then G t.one else G y
  rcases ij A A' hm r with z|⟨z1,z2⟩|⟨z1,z2⟩
  .rw[(h x hx y hy).mpr z]
  .have a:=(h x hx _ o1).mpr z1
   have b:=(h _ o2 y hy).mpr z2
   rw[if_neg (by rw[a];exact e),if_pos b.symm,a]
  .have a:=(h x hx _ o2).mpr z1
   have b:=(h _ o1 y hy).mpr z2
   rw[if_pos a,if_neg (by rw[<- b];exact e),b]
theorem Kr.min{G:Str->Str}(oX:∀u∈X,xh ps u=true)(oo:∀u∈os,xh ps u=true)(ot:xh ps t=true)(h:Kr ps X G)(hm:∀u,u∈X↔u∈below os t):G t.one≠G t.wN↔Min ps os t:=by
 obtain⟨o1,o2⟩:=yy.mp ot
 have oB:∀u∈below os t,xh ps u=true:=λu hu=>oo u (xI.mp hu).1
 unfold Min
 rw[Ne,h _ o1 _ o2]
 exact⟨λk r=>k (cQ oB oX (λu hu=>(hm u).mpr hu) r),λk r=>k (cQ oX oB (λu hu=>(hm u).mp hu) r)⟩
abbrev ME:Str := "cheaper_first.<locals>.<lambda>"
abbrev x4(T:Addr):PV:=yR ME MF MG T
open Classical in
noncomputable def yZ(ps:List Str)(os:List tO)(t:tO):Bool:=decide (Min ps os t)
noncomputable def xK(ps:List Str)(ts:List tO):List Str:=((ts.filter (xh ps)).filter (yZ ps (ts.filter (xh ps)))).map tO.nm
theorem zc:yZ ps os t=true↔Min ps os t:=by unfold yZ;simp
theorem m4:∀{a b:List Str},a.Perm b->a.Pairwise xq->b.Pairwise xq->a=b
 |[],b,p,_,_=>(List.nil_perm.mp p).symm
 |x::a,[],p,_,_=>by have:=p.length_eq;simp at this
 |x::a,y::b,p,ha,hb=>by
  have e:x=y:=afw λne=>by
   rw[List.pairwise_cons]at ha hb
   have h1:x∈b:=by
    rcases List.mem_cons.mp (p.mem_iff.mp aat)with z|z
    .exact absurd z ne
    .exact z
   have h2:y∈a:=by
    rcases List.mem_cons.mp (p.mem_iff.mpr aat)with z|z
    .exact absurd z.symm ne
    .exact z
   exact cn _ (lP (ha.1 y h2) (hb.1 x h1))
  subst e
  rw[m4 (aem _ |>.mp p) (List.pairwise_cons.mp ha).2 (List.pairwise_cons.mp hb).2]
def bw:Fd:=λxs P=>∃(ps:List Str) (ts:List tO),xs=[eQ ps ts]/\ts.length<=1000/\(ts.map tO.nm).Nodup/\P (.xv (ts.map λt=>(aaq t.nm,oF t)))
def fZ:Fd:=λxs P=>∃(ps:List Str) (ts:List tO),xs=[eQ ps ts]/\ts.length<=1000/\(ts.map tO.nm).Nodup/\P (.xv (ts.map λt=>(aaq t.nm,.tup [.int t.cost,.str t.nm])))
def bP(T:Addr):Ai:=λc xs P=>c=x4 T/\∃(ps:List Str) (ts us:List tO),xs=[eQ ps ts,.tup ((us.map tO.nm).map .str)]/\ts.length<=1000/\(ts.map tO.nm).Nodup/\us.length<64/\(us.map tO.nm).Nodup/\(∀u∈us,u∈ts) /\
 ∀vs:List tO,vs.Perm us->vs.Pairwise zk->P (.lst ((vs.map tO.nm).map .str)) (x4 T)
def bO:Fd:=λxs P=>∃(ps:List Str) (ts vs:List tO),xs=[eQ ps ts,.lst ((vs.map tO.nm).map .str)]/\zq ps ts/\ps.length<=60/\ts.length<=60/\vs.Perm (ts.filter (xh ps))/\vs.Pairwise zk/\P (.tup ((xK ps ts).map .str))
def cf(T:Addr):Ai:=λc xs P=>c=x4 T/\∃(ps:List Str) (ts:List tO),xs=[eQ ps ts]/\zq ps ts/\ps.length<=60/\ts.length<=60/\P (.tup ((xK ps ts).map .str)) (x4 T)
variable{α:Type}
theorem dk{g:WG}{fk ff:WE}{js:List (Option Nat)}{P:PV->En->Prop}{env:En}(f:α->Str)(v:α->PV)(X:α->PV):∀{l done:List α},((done++l).map f).Nodup ->
  (∀a∈l,∀R:PV->PV->En->Prop,R (.str (f a)) (v a) env->g (X a) (Bn js env) λb1=>fk b1 λkk b3=>ff b3 λy b4=>R kk y (xC js env b4))->done.length+l.length<=100000 ->
  P (.xv ((done++l).map λx=>((aaq (f x):Key),v x))) env->zV g Bh fk ff js P (l.map X) env (done.map λx=>((aaq (f x):Key),v x))
 |[],done,_,_,_,k=>by rw[abh]at k;exact k
 |a::l,done,nd,h,hl,k=>by
  have Ce:done.length+l.length+1<=100000:=by simpa[abY]using hl
  rw[aas]
  simp only[zV,Bh,if_true]
  refine h a (by simp) (λkk y e=>(done.map λx=>((aaq (f x):Key),v x)).length<=100000/\opt (zC kk) λkey=>zV g Bh fk ff js P (l.map X) e (zO (done.map λx=>((aaq (f x):Key),v x)) key y)) ⟨by rw[aad];omega,ae (z:=aaq (f a)) rfl ?_⟩
  have hn:f a∉done.map f:=λz=>by
   rw[aaH,ab3]at nd
   exact nd.2.2 _ z _ (by simp) rfl
  rw[hJ hn]
  have e:(done.map λx=>((aaq (f x):Key),v x))++[(aaq (f a),v a)]=(done++[a]).map λx=>((aaq (f x):Key),v x):=by rw[aaH];rfl
  rw[e]
  refine dk f v X (by rwa [ab8]) (λb hb=>h b (aar _ hb)) (by simp;omega) ?_
  rw[ab8];exact k
def Ends(t:tO)(a c:Str):Prop:=(t.one=a/\t.wN=c)\/(t.wN=a/\t.one=c)
def Wk(os:List tO):Str->List Str->Str->Prop
 |a,[],b=>a=b
 |a,n::ns,b=>∃t∈os,t.nm=n/\∃c,Ends t a c/\Wk os c ns b
variable{a c:Str}
theorem Ends.sym(h:Ends t a c):Ends t c a:=by
 rcases h with ⟨h1,h2⟩|⟨h1,h2⟩
 .exact .inr ⟨h2,h1⟩
 .exact .inl ⟨h2,h1⟩
theorem Ends.one{d:Str}(hn:t.one≠t.wN)(h:Ends t a c)(k:Ends t a d):c=d:=by
 rcases h with ⟨h1,h2⟩|⟨h1,h2⟩<;>rcases k with ⟨k1,k2⟩|⟨k1,k2⟩
 .exact h2.symm.trans k2
 .exact absurd (h1.trans k1.symm) hn
 .exact absurd (k1.trans h1.symm) hn
 .exact h2.symm.trans k2
theorem Ends.two{e f:Str}(h:Ends t a c)(k:Ends t e f):(e=a/\f=c)\/(e=c/\f=a):=by
 rcases h with ⟨h1,h2⟩|⟨h1,h2⟩<;>rcases k with ⟨k1,k2⟩|⟨k1,k2⟩
 .exact .inl ⟨k1.symm.trans h1,k2.symm.trans h2⟩
 .exact .inr ⟨k1.symm.trans h2,k2.symm.trans h1⟩
 .exact .inr ⟨k1.symm.trans h2,k2.symm.trans h1⟩
 .exact .inl ⟨k1.symm.trans h1,k2.symm.trans h2⟩
theorem gY{n:Str}:∀{l:List Str},n∈l->∃p q,l=p++n::q/\n∉p
 |x::l,h=>by
  by_cases e:x=n
  .exact⟨[],l,by rw[e];rfl,by simp⟩
  .obtain⟨p,q,rfl,hp⟩:=gY ((List.mem_cons.mp h).resolve_left λz=>e z.symm)
   exact⟨x::p,q,rfl,λz=>by rcases List.mem_cons.mp z with z|z;exact e z.symm;exact hp z⟩
theorem Wk.app:∀{ns ms:List Str} {a b c:Str},Wk os a ns b->Wk os b ms c->Wk os a (ns++ms) c
 |[],_,_,_,_,h,k=>by cases h;exact k
 |n::ns,_,_,_,_,⟨t,ht,e,c,q,h⟩,k=>⟨t,ht,e,c,q,h.app k⟩
theorem Wk.rev:∀{ns:List Str} {a b:Str},Wk os a ns b->Wk os b ns.reverse a
 |[],_,_,h=>Eq.symm h
 |n::ns,a,_,⟨t,ht,e,c,q,h⟩=>by
  rw[List.reverse_cons]
  exact h.rev.app ⟨t,ht,e,a,q.sym,rfl⟩
theorem Wk.cut:∀{ns ms:List Str} {a c:Str},Wk os a (ns++ms) c->∃b,Wk os a ns b/\Wk os b ms c
 |[],_,a,_,h=>⟨a,rfl,h⟩
 |n::ns,_,_,_,⟨t,ht,e,c,q,h⟩=>by
  obtain⟨b,h1,h2⟩:=h.cut
  exact⟨b,⟨t,ht,e,c,q,h1⟩,h2⟩
def KP(os:List tO):Prop:=∀a n ns,Wk os a (n::ns) a->n∉ns->False
theorem o5(nd:(os.map tO.nm).Nodup)(ne:∀t∈os,t.one≠t.wN)(ac:KP os):∀{ns ms:List Str} {a b:Str},Wk os a ns b->Wk os a ms b->ns.Nodup->ms.Nodup->ns=ms
 |[],[],_,_,_,_,_,_=>rfl
 |[],m::ms,a,_,h,k,_,d=>by cases h;exact(ac a m ms k (List.nodup_cons.mp d).1).elim
 |n::ns,[],a,_,h,k,d,_=>by cases k;exact(ac a n ns h (List.nodup_cons.mp d).1).elim
 |n::ns,m::ms,a,b,h,k,d1,d2=>by
  have h0:=h
  have k0:=k
  obtain⟨t,ht,e1,c,q1,h⟩:=h
  obtain⟨u,hu,e2,d,q2,k⟩:=k
  obtain⟨n1,n2⟩:=List.nodup_cons.mp d1
  obtain⟨m1,m2⟩:=List.nodup_cons.mp d2
  by_cases e:m=n
  .have:t=u:=cE nd ht hu (e1.trans (e.symm.trans e2.symm))
   subst this
   have:c=d:=q1.one (ne t ht) q2
   subst this
   rw[e,o5 nd ne ac h k n2 m2]
  .exfalso
   by_cases hn:n∈ms
   .obtain⟨p,q,rfl,np⟩:=gY hn
    obtain⟨x,w1,w2⟩:=(show Wk os a ((m::p)++n::q) b from k0).cut
    obtain⟨t',DQ,e3,f,q3,_⟩:=w2
    have:t=t':=cE nd ht DQ (e1.trans e3.symm)
    subst this
    rcases q1.two q3 with ⟨rfl,_⟩|⟨rfl,_⟩
    .exact ac _ m p w1 λz=>m1 (abE _ z)
    .refine ac a n (m::p).reverse ⟨t,ht,e1,_,q1,w1.rev⟩ λz=>?_
     rw[List.mem_reverse,abZ]at z
     rcases z with z|z
     .exact e z.symm
     .exact np z
   .refine ac a n (ns++(m::ms).reverse) ⟨t,ht,e1,c,q1,h.app k0.rev⟩ λz=>?_
    rw[ab4,List.mem_reverse,abZ]at z
    rcases z with z|z|z
    .exact n1 z
    .exact e z.symm
    .exact hn z
variable{g:Str->List (Str×Str)}
theorem kZ(G:C5 ps os g):∀{ns:List Str} {a b:Str},Wk os a ns b->xP g a b
 |[],_,_,h=>by cases h;exact .refl
 |n::ns,a,b,⟨t,ht,e,c,q,h⟩=>xP.trans (.step .refl ((G.mem _ _ _).mpr ⟨t,ht,e.symm,q⟩)) (kZ G h)
noncomputable def wW(ps:List Str)(ts:List tO):List tO:=(ts.filter (xh ps)).filter (yZ ps (ts.filter (xh ps)))
theorem bD(h:t∈wW ps ts):t∈ts/\xh ps t=true/\yZ ps (ts.filter (xh ps)) t=true:=by
 obtain⟨h1,h2⟩:=List.mem_filter.mp h
 obtain⟨h3,h4⟩:=List.mem_filter.mp h1
 exact⟨h3,h4,h2⟩
theorem cy:∀t∈wW ps ts,xh ps t=true:=λt h=>(bD h).2.1
theorem bH(ps:List Str)(ts:List tO):xK ps ts=(wW ps ts).map tO.nm:=rfl
theorem lf(ps:List Str)(ts:List tO):(wW ps ts).length<=ts.length:=aaX (aa9 _ _) (aa9 _ _)
theorem iC(nd:(ts.map tO.nm).Nodup):ts.filter (yY (xK ps ts))=wW ps ts:=by
 unfold wW
 rw[aeB]
 refine abR λu hu=>?_
 rw[aaY,rG,aaT]
 constructor
 .intro h
  obtain⟨v,hv,e⟩:=List.mem_map.mp (bH ps ts ▸ h)
  obtain⟨v1,v2,v3⟩:=bD hv
  rw[<- cE nd v1 hu e]
  exact⟨v3,v2⟩
 .rintro⟨h1,h2⟩
  rw[bH]
  exact List.mem_map.mpr ⟨u,List.mem_filter.mpr ⟨List.mem_filter.mpr ⟨hu,h2⟩,h1⟩,rfl⟩
theorem jj(nd:(ts.map tO.nm).Nodup):((wW ps ts).map tO.nm).Nodup:=nd.sublist ((List.filter_sublist.trans abG).map _)
theorem uy{L:List tO}{d:tO}(hd:d∈L)(h:zk t d):(L.filter λu=>decide (zk d u)).length<(L.filter λu=>decide (zk t u)).length:=by
 have s:(L.filter λu=>decide (zk d u)).Sublist (L.filter λu=>decide (zk t u)):=i8 λx _ q=>decide_eq_true (mt h (of_decide_eq_true q))
 rcases aaO (L.filter λu=>decide (zk d u)).length (L.filter λu=>decide (zk t u)).length with z|z
 .exact z
 .have e:=s.eq_of_length_le z
  have m:d∈L.filter λu=>decide (zk t u):=List.mem_filter.mpr ⟨hd,decide_eq_true h⟩
  rw[<- e]at m
  exact absurd (of_decide_eq_true (List.mem_filter.mp m).2) (gv _)
theorem gG(nd:(ts.map tO.nm).Nodup):∀(n:Nat) (t:tO),t∈wW ps ts->((wW ps ts).filter λu=>decide (zk t u)).length<n->¬ xP (xj ps (less (wW ps ts) t)) t.one t.wN
 |0,_,_,h=>by omega
 |n+1,t,ht,h=>by
  intro r
  have tn:=jj (ps:=ps) nd
  have oL:∀u∈wW ps ts,xh ps u=true:=cy
  have oB:∀u∈below (wW ps ts) t,u∈wW ps ts:=λu hu=>(xI.mp hu).1
  have yq:∀u∈wW ps ts,∀d∈wW ps ts,zk u d->u.nm≠d.nm:=λu hu d hd c e=>by
   have:=cE tn hu hd e
   subst this
   exact gv _ c
  have r2:xP (xj ps (below (wW ps ts) t++(wW ps ts).filter λu=>decide (zk t u))) t.one t.wN:=by
   refine cQ (λu hu=>oL u (yo.mp hu).1) (λu hu=>?_) (λu hu=>?_) r
   .rcases List.mem_append.mp hu with z|z
    .exact oL u (oB u z)
    .exact oL u (List.mem_filter.mp z).1
   .obtain⟨u1,u2⟩:=yo.mp hu
    rcases uG u2 with z|z
    .exact abE _ (xI.mpr ⟨u1,z⟩)
    .exact aaC _ (List.mem_filter.mpr ⟨u1,decide_eq_true z⟩)
  have r3:=lm oL ht oB _ (tn.sublist (List.filter_sublist.map _)) (λd hd=>by
   obtain⟨d1,d2⟩:=List.mem_filter.mp hd
   have d2:=of_decide_eq_true d2
   refine⟨d1,λu hu=>?_,yq t ht d d1 d2,gG nd n d d1 ?_⟩
   .obtain⟨u1,u2⟩:=xI.mp hu
    exact yq u u1 d d1 (mt u2 d2)
   .have:=uy d1 d2
    omega) r2
  have mn:=zc.mp (bD ht).2.2
  refine mn (cQ (λu hu=>oL u (oB u hu)) (λu hu=>(List.mem_filter.mp (xI.mp hu).1).2) (λu hu=>?_) r3)
  obtain⟨u1,u2⟩:=xI.mp hu
  exact xI.mpr ⟨(List.mem_filter.mp u1).1,u2⟩
theorem mS:∀{ns:List Str} {a b:Str},Wk os a ns b->t.nm∉ns->Wk (less os t) a ns b
 |[],_,_,h,_=>h
 |n::ns,a,b,⟨u,hu,e,c,q,h⟩,hn=>by
  rw[abZ,not_or]at hn
  exact⟨u,yo.mpr ⟨hu,λz=>hn.1 (z ▸ e)⟩,e,c,q,mS h hn.2⟩
theorem o9(nd:(ts.map tO.nm).Nodup):KP (wW ps ts):=by
 rintro a n ns ⟨t,ht,e,c,q,w⟩ hn
 have oL:∀u∈less (wW ps ts) t,xh ps u=true:=λu hu=>cy u (yo.mp hu).1
 have r:=kZ (Av oL) (mS w (e ▸ hn))
 refine gG nd _ t ht (abw _) ?_
 rcases q with ⟨rfl,rfl⟩|⟨rfl,rfl⟩
 .exact(Av oL).B5 r
 .exact r
theorem pi(nd:(ts.map tO.nm).Nodup):zZ ps (xK ps ts) ts=wW ps ts:=by
 unfold zZ
 rw[kD,iC nd]
 exact List.filter_eq_self.mpr cy
theorem Jo(r:xP (xj ps X) x y):xP (xj ps X) y x:=(gz ps X).B5 r
noncomputable def aL(ps:List Str)(ts:List tO)(a:Str):List Str:=ps.filter (rb (xj ps ts) a)
theorem xU:x∈aL ps ts a↔x∈ps/\xP (xj ps ts) a x:=by
 unfold aL
 rw[ad9,xW]
variable{b:Str}
theorem ly(r:xP (xj ps ts) a b):aL ps ts a=aL ps ts b:=by
 unfold aL
 exact abR λx _=>by
  rw[aaY,xW,xW]
  exact⟨λz=>(Jo r).trans z,λz=>r.trans z⟩
theorem vb(rise:ps.Pairwise xq)(ha:a∈ps):∃r,(Cv ps (xj ps ts)).filter (λq=>decide (a∈q))=aL ps ts a::r:=by
 obtain⟨s,l,e⟩:∃s l,ps.filter (λp=>rb (xj ps ts) p a)=s::l:=by
  cases h:ps.filter (λp=>rb (xj ps ts) p a)with
  |nil=>
   have z:a∈ps.filter (λp=>rb (xj ps ts) p a):=List.mem_filter.mpr ⟨ha,xW.mpr .refl⟩
   rw[h]at z;cases z
  |cons s l=>exact⟨s,l,rfl⟩
 have hs:s∈ps.filter (λp=>rb (xj ps ts) p a):=by rw[e];exact aat
 obtain⟨s1,s2⟩:=List.mem_filter.mp hs
 have s2:=xW.mp s2
 have rt:root ps (xj ps ts) s=true:=AK.mpr λp hp hr hl=>by
  have:p∈ps.filter (λp=>rb (xj ps ts) p a):=List.mem_filter.mpr ⟨hp,xW.mpr (hr.trans s2)⟩
  rw[e]at this
  have up:=(rise.sublist (abG (p:=λp=>rb (xj ps ts) p a)))
  rw[e]at up
  rcases List.mem_cons.mp this with z|z
  .exact cn _ (z ▸ hl)
  .exact lQ hl ((List.pairwise_cons.mp up).1 p z)
 have hm:aL ps ts s∈(Cv ps (xj ps ts)).filter (λq=>decide (a∈q)):=List.mem_filter.mpr ⟨List.mem_map.mpr ⟨s,List.mem_filter.mpr ⟨s1,rt⟩,rfl⟩,decide_eq_true (xU.mpr ⟨ha,s2⟩)⟩
 cases h:(Cv ps (xj ps ts)).filter (λq=>decide (a∈q))with
 |nil=>rw[h]at hm;cases hm
 |cons q r=>
  refine⟨r,?_⟩
  have:q∈(Cv ps (xj ps ts)).filter (λq=>decide (a∈q)):=by rw[h];exact aat
  obtain⟨q1,q2⟩:=List.mem_filter.mp this
  obtain⟨z,_,rfl⟩:=List.mem_map.mp q1
  have:=xU.mp (of_decide_eq_true q2)
  rw[show ps.filter (rb (xj ps ts) z)=aL ps ts a from ly this.2]
def rn(f:Str->Str)(h:Int->Int)(t:tO):tO:=⟨t.nm,if xq (f t.wN) (f t.one)then f t.wN else f t.one,if xq (f t.wN) (f t.one)then f t.one else f t.wN,h t.cost⟩
structure yW(f:Str->Str)(h:Int->Int)(A ps w8:List Str)(ts:List tO):Prop where
 inj:∀x∈A,∀y∈A,f x=f y->x=y
 sub:∀x∈ps,x∈A
 en:∀t∈ts,t.one∈A/\t.wN∈A
 im:∀y,y∈w8↔∃x∈ps,f x=y
 up:∀a b,h a<h b↔a<b
variable{f:Str->Str}{h:Int->Int}{A w8:List Str}{us:List tO}
theorem cP(t:tO):((rn f h t).one=f t.one/\(rn f h t).wN=f t.wN)\/((rn f h t).one=f t.wN/\(rn f h t).wN=f t.one):=by
 unfold rn
 by_cases z:xq (f t.wN) (f t.one)
 .right;simp[z]
 .left;simp[z]
theorem yW.mem(r:yW f h A ps w8 ts)(hx:x∈A):f x∈w8↔x∈ps:=by
 rw[r.im]
 exact⟨λ⟨y,hy,e⟩=>r.inj y (r.sub y hy) x hx e ▸ hy,λz=>⟨x,z,rfl⟩⟩
theorem yW.xh(r:yW f h A ps w8 ts)(ht:t∈ts):xh w8 (rn f h t)=xh ps t:=by
 obtain⟨a,b⟩:=r.en t ht
 rw[aaY,yy,yy]
 rcases cP (f:=f) (h:=h) t with ⟨e1,e2⟩|⟨e1,e2⟩<;>rw[e1,e2,r.mem a,r.mem b]
 exact And.comm
theorem yW.less(r:yW f h A ps w8 ts)(s:∀t∈us,t∈ts):yW f h A ps w8 us:=⟨r.inj,r.sub,λt ht=>r.en t (s t ht),r.im,r.up⟩
theorem yW.filter(r:yW f h A ps w8 ts):(ts.map (rn f h)).filter (Pre.xh w8)=(ts.filter (Pre.xh ps)).map (rn f h):=by
 rw[aeb]
 congr 1
 exact abR λt ht=>r.xh ht
variable{nm z:Str}
theorem yW.xj(r:yW f h A ps w8 ts)(hx:x∈A):(nm,z)∈xj w8 (ts.map (rn f h)) (f x)↔∃y,z=f y/\(nm,y)∈Pre.xj ps ts x:=by
 rw[zH]
 constructor
 .rintro⟨t',DQ,o,e,w⟩
  obtain⟨t,ht,rfl⟩:=List.mem_map.mp DQ
  obtain⟨a,b⟩:=r.en t ht
  rw[r.xh ht]at o
  have key:∀{p q:Str},p∈A->f p=f x->f q=z->((t.one=p/\t.wN=q)\/(t.wN=p/\t.one=q))->∃y,z=f y/\(nm,y)∈Pre.xj ps ts x:=λ{p q} hp e1 e2 w0=>by
   rw[r.inj _ hp _ hx e1]at w0
   exact⟨q,e2.symm,zH.mpr ⟨t,ht,o,e,w0⟩⟩
  rcases cP (f:=f) (h:=h) t with ⟨e1,e2⟩|⟨e1,e2⟩<;>rw[e1,e2]at w<;>rcases w with ⟨w1,w2⟩|⟨w1,w2⟩
  .exact key a w1 w2 (.inl ⟨rfl,rfl⟩)
  .exact key b w1 w2 (.inr ⟨rfl,rfl⟩)
  .exact key b w1 w2 (.inr ⟨rfl,rfl⟩)
  .exact key a w1 w2 (.inl ⟨rfl,rfl⟩)
 .rintro⟨y,rfl,e⟩
  obtain⟨t,ht,o,e,w⟩:=zH.mp e
  refine⟨rn f h t,aaZ ht,by rw[r.xh ht];exact o,e,?_⟩
  rcases cP (f:=f) (h:=h) t with ⟨e1,e2⟩|⟨e1,e2⟩<;>rw[e1,e2]<;>rcases w with ⟨rfl,rfl⟩|⟨rfl,rfl⟩<;>simp
theorem yW.Jq(r:yW f h A ps w8 ts)(hx:x∈A)(q:xP (Pre.xj w8 (ts.map (rn f h))) (f x) z):∃y∈A,z=f y/\xP (Pre.xj ps ts) x y:=by
 induction q with
 |refl=>exact⟨x,hx,rfl,.refl⟩
 |step _ e ih=>
  obtain⟨y,hy,rfl,q⟩:=ih
  obtain⟨w,e1,e2⟩:=(r.xj hy).mp e
  exact⟨w,r.sub w (gy _ e2),e1,.step q e2⟩
theorem yW.KZ(r:yW f h A ps w8 ts)(hx:x∈A)(hy:y∈A):xP (Pre.xj w8 (ts.map (rn f h))) (f x) (f y)↔xP (Pre.xj ps ts) x y:=by
 constructor
 .intro q
  obtain⟨w,hw,e,q⟩:=r.Jq hx q
  rw[r.inj y hy w hw e];exact q
 .intro q
  clear hy
  induction q with
  |refl=>exact .refl
  |@step a b nm p e ih=>
   have ha:a∈A:=by
    cases p with
    |refl=>exact hx
    |step _ e'=>exact r.sub _ (gy _ e')
   exact .step ih ((r.xj ha).mpr ⟨_,rfl,e⟩)
theorem yW.zk(r:yW f h A ps w8 ts)(t u:tO):zk (rn f h t) (rn f h u)↔Pre.zk t u:=by
 unfold Pre.zk
 show (h t.cost<h u.cost\/(h t.cost=h u.cost/\xq t.nm u.nm))↔_
 have e:h t.cost=h u.cost↔t.cost=u.cost:=by
  refine⟨λq=>?_,λq=>by rw[q]⟩
  have a:=r.up t.cost u.cost
  have b:=r.up u.cost t.cost
  omega
 rw[r.up,e]
theorem yW.below(r:yW f h A ps w8 ts)(t:tO):below (us.map (rn f h)) (rn f h t)=(Pre.below us t).map (rn f h):=by
 unfold Pre.below
 rw[aeb]
 congr 1
 refine abR λu _=>?_
 show decide (Pre.zk (rn f h u) (rn f h t))=decide (Pre.zk u t)
 rw[decide_eq_decide]
 exact r.zk u t
theorem yW.min(r:yW f h A ps w8 ts)(s:∀t∈us,t∈ts)(ht:t∈ts):Min w8 (us.map (rn f h)) (rn f h t)↔Min ps us t:=by
 unfold Min
 rw[r.below]
 have r2:yW f h A ps w8 (Pre.below us t):=r.less λu hu=>s u (xI.mp hu).1
 obtain⟨a,b⟩:=r.en t ht
 have both:=r2.KZ a b
 have e:xP (Pre.xj w8 ((Pre.below us t).map (rn f h))) (rn f h t).one (rn f h t).wN↔xP (Pre.xj w8 ((Pre.below us t).map (rn f h))) (f t.one) (f t.wN):=by
  rcases cP (f:=f) (h:=h) t with ⟨e1,e2⟩|⟨e1,e2⟩
  .rw[e1,e2]
  .rw[e1,e2]
   exact⟨Jo,Jo⟩
 rw[e,both]
theorem yW.tree(r:yW f h A ps w8 ts):wW w8 (ts.map (rn f h))=(wW ps ts).map (rn f h):=by
 unfold wW
 rw[r.filter,aeb]
 congr 1
 refine abR λt ht=>?_
 show yZ w8 ((ts.filter (Pre.xh ps)).map (rn f h)) (rn f h t)=yZ ps (ts.filter (Pre.xh ps)) t
 rw[aaY,zc,zc]
 exact r.min (λu hu=>(List.mem_filter.mp hu).1) (List.mem_filter.mp ht).1
theorem cW(l:List tO):(l.map (rn f h)).map tO.nm=l.map tO.nm:=by
 rw[aaw];rfl
theorem yW.xK(r:yW f h A ps w8 ts):xK w8 (ts.map (rn f h))=xK ps ts:=by
 rw[bH,bH,r.tree,cW]
theorem yW.opens(r:yW f h A ps w8 ts):bI w8 (ts.map (rn f h))=bI ps ts:=by
 unfold bI
 rw[r.filter,cW]
theorem yW.wk(r:yW f h A ps w8 ts):∀{ns:List Str} {T:List tO} {a b:Str},(∀t∈T,t∈ts)->a∈A->b∈A->(Wk (T.map (rn f h)) (f a) ns (f b)↔Wk T a ns b)
 |[],T,a,b,s,ha,hb=>⟨λe=>r.inj a ha b hb e,λe=>congrArg f e⟩
 |n::ns,T,a,b,s,ha,hb=>by
  constructor
  .rintro⟨t',DQ,e,c,q,w⟩
   obtain⟨t,ht,rfl⟩:=List.mem_map.mp DQ
   obtain⟨t1,t2⟩:=r.en t (s t ht)
   have key:∀{p c':Str},p∈A->c'∈A->f p=f a->f c'=c->Ends t p c'->Wk T a (n::ns) b:=λ{p c'} hp hc e1 e2 q0=>by
    rw[r.inj _ hp _ ha e1]at q0
    rw[<- e2]at w
    exact⟨t,ht,e,c',q0,(r.wk s hc hb).mp w⟩
   unfold Ends at q
   rcases cP (f:=f) (h:=h) t with ⟨e1,e2⟩|⟨e1,e2⟩<;>rw[e1,e2]at q<;>rcases q with ⟨w1,w2⟩|⟨w1,w2⟩
   .exact key t1 t2 w1 w2 (.inl ⟨rfl,rfl⟩)
   .exact key t2 t1 w1 w2 (.inr ⟨rfl,rfl⟩)
   .exact key t2 t1 w1 w2 (.inr ⟨rfl,rfl⟩)
   .exact key t1 t2 w1 w2 (.inl ⟨rfl,rfl⟩)
  .rintro⟨t,ht,e,c,q,w⟩
   obtain⟨t1,t2⟩:=r.en t (s t ht)
   have hc:c∈A:=by
    rcases q with ⟨_,rfl⟩|⟨_,rfl⟩
    .exact t2
    .exact t1
   refine⟨rn f h t,aaZ ht,e,f c,?_,(r.wk s hc hb).mpr w⟩
   unfold Ends
   rcases cP (f:=f) (h:=h) t with ⟨e1,e2⟩|⟨e1,e2⟩<;>rw[e1,e2]<;>rcases q with ⟨rfl,rfl⟩|⟨rfl,rfl⟩<;>simp
theorem nC:∀{a b:List Int},a.Perm b->a.Pairwise (·<=·)->b.Pairwise (·<=·)->a=b
 |[],b,p,_,_=>(List.nil_perm.mp p).symm
 |x::a,[],p,_,_=>by have:=p.length_eq;simp at this
 |x::a,y::b,p,ha,hb=>by
  rw[List.pairwise_cons]at ha hb
  have e:x=y:=by
   have h1:x<=y:=by
    rcases List.mem_cons.mp (p.mem_iff.mpr aat)with z|z
    .rw[z];exact afn _
    .exact ha.1 y z
   have h2:y<=x:=by
    rcases List.mem_cons.mp (p.mem_iff.mp aat)with z|z
    .rw[z];exact afn _
    .exact hb.1 x z
   omega
  subst e
  rw[nC (aem _ |>.mp p) ha.2 hb.2]
theorem cS(rise:ps.Pairwise xq){q:List Str}:q∈Cv ps (xj ps ts)↔∃s∈ps,q=aL ps ts s:=by
 constructor
 .intro hq
  unfold Cv at hq
  obtain⟨s,hs,rfl⟩:=List.mem_map.mp hq
  exact⟨s,(List.mem_filter.mp hs).1,rfl⟩
 .rintro⟨s,hs,rfl⟩
  obtain⟨r,e⟩:=vb (ts:=ts) rise hs
  have:aL ps ts s∈(Cv ps (xj ps ts)).filter (λq=>decide (s∈q)):=by rw[e];exact aat
  exact(List.mem_filter.mp this).1
theorem pM(pn:ps.Nodup):(Cv ps (xj ps ts)).Nodup:=by
 unfold Cv
 refine List.nodup_iff_pairwise_ne.mpr (List.pairwise_map.mpr (abL (λ{a b} ha hb ne e=>?_) (List.nodup_iff_pairwise_ne.mp (pn.sublist abG))))
 obtain⟨a1,a2⟩:=List.mem_filter.mp ha
 obtain⟨b1,b2⟩:=List.mem_filter.mp hb
 have m:b∈ps.filter (rb (xj ps ts) a):=by rw[e];exact List.mem_filter.mpr ⟨b1,xW.mpr .refl⟩
 exact ne (qU (gz ps ts) a1 b1 a2 b2 (xW.mp (List.mem_filter.mp m).2))
variable{s:Str}
theorem yW.piece(r:yW f h A ps w8 ts)(pn:ps.Nodup)(JC:w8.Nodup)(hs:s∈ps):(aL w8 (ts.map (rn f h)) (f s)).Perm ((aL ps ts s).map f):=by
 have n2:((aL ps ts s).map f).Nodup:=by
  refine List.nodup_iff_pairwise_ne.mpr (List.pairwise_map.mpr (abL (λ{a b} ha hb ne e=>?_) (List.nodup_iff_pairwise_ne.mp (pn.sublist abG))))
  exact ne (r.inj a (r.sub a (List.mem_filter.mp ha).1) b (r.sub b (List.mem_filter.mp hb).1) e)
 refine(adq (JC.sublist abG) n2).mpr λy=>?_
 show y∈aL w8 (ts.map (rn f h)) (f s)↔_
 rw[xU,aeV]
 constructor
 .rintro⟨hy,q⟩
  obtain⟨x,hx,rfl,q2⟩:=r.Jq (r.sub s hs) q
  exact⟨x,xU.mpr ⟨(r.mem hx).mp hy,q2⟩,rfl⟩
 .rintro⟨x,hx,rfl⟩
  obtain⟨x1,x2⟩:=xU.mp hx
  exact⟨(r.mem (r.sub x x1)).mpr x1,(r.KZ (r.sub s hs) (r.sub x x1)).mpr x2⟩
open Classical in
theorem yW.Jl(r:yW f h A ps w8 ts)(rise:ps.Pairwise xq)(Gi:w8.Pairwise xq):((Cv w8 (Pre.xj w8 (ts.map (rn f h)))).map λq=>(q.length:Int)).Perm ((Cv ps (Pre.xj ps ts)).map λq=>(q.length:Int)):=by
 have pn:=bU rise
 have JC:=bU Gi
 have im:∀s∈ps,(w8.filter λy=>decide (∃x∈aL ps ts s,f x=y))=aL w8 (ts.map (rn f h)) (f s):=λs hs=>by
  unfold aL
  refine abR λy hy=>?_
  have m:=(r.piece pn JC hs).mem_iff (a:=y)
  rw[xU,aeV]at m
  rw[aaY,decide_eq_true_eq,xW]
  exact⟨λz=>(m.mpr z).2,λz=>m.mp ⟨hy,z⟩⟩
 have perm:((Cv ps (Pre.xj ps ts)).map λq=>w8.filter λy=>decide (∃x∈q,f x=y)).Perm (Cv w8 (Pre.xj w8 (ts.map (rn f h)))):=by
  refine(adq ?_ (pM JC)).mpr λq=>?_
  .refine List.nodup_iff_pairwise_ne.mpr (List.pairwise_map.mpr (abL (λ{a b} ha hb ne e=>?_) (List.nodup_iff_pairwise_ne.mp (pM pn))))
   obtain⟨s,hs,rfl⟩:=(cS rise).mp ha
   obtain⟨t,ht,rfl⟩:=(cS rise).mp hb
   rw[im s hs,im t ht]at e
   refine ne (ly ((r.KZ (r.sub s hs) (r.sub t ht)).mp ?_))
   have m:f t∈aL w8 (ts.map (rn f h)) (f s):=by rw[e];exact xU.mpr ⟨(r.mem (r.sub t ht)).mpr ht,.refl⟩
   exact(xU.mp m).2
  .rw[aeV,cS Gi]
   constructor
   .rintro⟨p,hp,rfl⟩
    obtain⟨s,hs,rfl⟩:=(cS rise).mp hp
    exact⟨f s,(r.mem (r.sub s hs)).mpr hs,im s hs⟩
   .rintro⟨y,hy,rfl⟩
    obtain⟨s,hs,rfl⟩:=(r.im y).mp hy
    exact⟨aL ps ts s,(cS rise).mpr ⟨s,hs,rfl⟩,im s hs⟩
 refine((perm.map λq=>(q.length:Int)).symm).trans ?_
 rw[aaw]
 refine List.Perm.of_eq (aaK λq hq=>?_)
 obtain⟨s,hs,rfl⟩:=(cS rise).mp hq
 show ((w8.filter λy=>decide (∃x∈aL ps ts s,f x=y)).length:Int)=_
 rw[im s hs,(r.piece pn JC hs).length_eq,aad]
def iy:Fd:=λxs P=>∃(ps ns:List Str) (ts:List tO),(xs=[eQ ps ts,.tup (ns.map .str)]\/xs=[eQ ps ts,.lst (ns.map .str)])/\ts.length<=1000/\ns.length<=1000/\P (eQ ps (ts.filter (yY ns)))
def eN:Fd:=λxs P=>∃(ps:List Str) (ts:List tO) (fs:List Str) (one wN:Str),xs=[eQ ps ts,.tup (fs.map .str),.str one,.str wN]/\Nt ps ts/\(ts.map tO.nm).Nodup/\fs.length<=1000/\one∈ps/\wN∈ps /\
 (¬ xP (xj ps (ts.filter (yY fs))) wN one->P .nE)/\∀ns:List Str,Wk (zZ ps fs ts) one ns wN->ns.Nodup->ns.length<=1000->P (.tup (ns.map .str))
structure Nk(ps:List Str)(ts:List tO):Prop where
 ok:zq ps ts
 pl:ps.length<=60
 tl:ts.length<=60
def xB(A:List Str)(f:Str->Str):PV:=.xv (A.map λa=>(aaq a,.str (f a)))
structure GS(ps:List Str)(ts:List tO)(A:List Str)(f:Str->Str):Prop where
 nd:A.Nodup
 al:A.length<=60
 sub:∀x∈ps,x∈A
 en:∀t∈ts,t.one∈A/\t.wN∈A
 inj:∀x∈A,∀y∈A,f x=f y->x=y
 wd:∀x∈A,xT (f x)
 ow:∀x∈A,xT x
def cu:Fd:=λxs P=>∃(ps:List Str) (ts:List tO),xs=[eQ ps ts]/\ts.length<=1000/\P (.tup (((ts.filter λt=>!xh ps t).map tO.nm).map .str))
def cv:Fd:=λxs P=>∃(ps:List Str) (ts us:List tO),xs=[eQ ps ts,.tup ((us.map tO.nm).map .str)]/\ts.length<=1000/\us.length<=1000/\(ts.map tO.nm).Nodup/\(∀u∈us,u∈ts)/\P (.int (us.map tO.cost).sum)
def cg:Ai:=λc xs P=>c=.nE/\∃(ps:List Str) (ts:List tO) (W:List Str),xs=[eQ ps ts]/\Nk ps ts/\W.length<=60/\(∀x∈ps,x∈W)/\(∀t∈ts,t.one∈W/\t.wN∈W)/\∀(A:List Str) (f:Str->Str),GS ps ts A f->P (xB A f) .nE
def ci:Fd:=λxs P=>∃(ps:List Str) (ts:List tO) (A:List Str) (f:Str->Str) (m k:Int),xs=[eQ ps ts,xB A f,.int m,.int k]/\Nk ps ts/\GS ps ts A f/\(0<m/\m<=10 /\ -100<=k/\k<=100) /\
 ∀w8:List Str,w8.Pairwise xq->(∀y,y∈w8↔∃x∈ps,f x=y)->w8.length=ps.length->P (eQ w8 (ts.map (rn f λc=>c*m+k)))
def dG:WS :=
  (xF (Ij (wO BI (wO iN (eV 1) (eC (.int 1))) (wO iN (eV 0) (eC (.int 0)))) (wO BI (wO iN (eV 1) (eC (.int 2))) (wO iN (eV 0) (eC (.int 0))))))
def bR:WS :=
  (xF (FV (iS (wO iN (eV 0) (eC (.int 1)))) (.nm 0) Bh (wO iN (eV 0) (eC (.int 0))) (eV 0) [none]))
def cH:WS :=
  (xF (zi aY (aS (DX (iS (wO iN (eV 0) (eC (.int 1)))) (.nm 0) (DH (xi bQ (aS (eV 1) (aS (eV 0) iD)))) (wO iN (eV 0) (eC (.int 0))) [none,some 0]) iD)))
def dE:WS :=
  (xF (zi aY (aS (DX (iS (wO iN (eV 0) (eC (.int 1)))) (.nm 0) (Eo (DH (xi bQ (aS (eV 1) (aS (eV 0) iD))))) (wO iN (eV 0) (eC (.int 0))) [none,some 0]) iD)))
def fC:WS :=
  (xF (FV (iS (wO iN (eV 0) (eC (.int 1)))) (.nm 0) Bh (wO iN (eV 0) (eC (.int 0))) (yN (aS (wO iN (eV 0) (eC (.int 3))) (aS (wO iN (eV 0) (eC (.int 0))) iD))) [none]))
def bN(T:Addr):WS :=
  (wM (xp 2 (xi fZ (aS (eV 0) iD)))
  (xF (CZ 3 2 "cheaper_first.<locals>.<lambda>" 15 29 T (eV 1))))
def bM:WS :=
  (wM (xp 2 (xi bw (aS (eV 0) iD)))
  (wM (ym 3 (FV (iS (wO iN (eV 0) (eC (.int 0)))) (.nm 0) Bh (eV 0) (eV 0) [none]))
  (wM (ym 4 (zx iD))
  (wM (zt (iS (eV 1)) (gN 5) (wM (xp 6 (wO iN (eV 2) (yi 5)))
  (wM (Ez (yN (aS (Cm iN 3 (wO iN (eV 6) (eC (.int 1)))) (aS (Cm iN 3 (wO iN (eV 6) (eC (.int 2)))) iD))) (gT (xR (gN 7) (xR (gN 8) Af))))
  (Az (xo (wO CQ (eV 7) (yi 8))) (wM (zm (Dy be 4 (aS (eV 5) iD)))
  (ym 3 (FV (jO 3) (.tp [0,1]) Bh (eV 0) (Pe (xo (wO yM (eV 1) (yi 3))) (eV 2) (eV 1)) [none,none,some 7,some 8]))) yX))))
  (xF (zi aY (aS (x8 (a1 (yi 4))) iD)))))))
def cU(T:Addr):WS :=
  (xF (xi bO (aS (eV 0) (aS (zh (bP T) 1 (aS (eV 0) (aS (xi bA (aS (eV 0) iD)) iD))) iD))))
def ck:WS :=
  (wM (jr 1 (iS (wO iN (eV 0) (eC (.int 0)))))
  (wM (zt (iS (wO iN (eV 0) (eC (.int 1)))) (gN 2) (Az (DH (xi bQ (aS (eV 0) (aS (eV 2) iD)))) (wM (dU 1 (wO iN (eV 2) (eC (.int 1))) (yN (aS (wO iN (eV 2) (eC (.int 0))) (aS (wO iN (eV 2) (eC (.int 2))) iD))))
  (dU 1 (wO iN (eV 2) (eC (.int 2))) (yN (aS (wO iN (eV 2) (eC (.int 0))) (aS (wO iN (eV 2) (eC (.int 1))) iD))))) yX))
  (jq 1)))
def dI:WS :=
  (wM (ym 2 (GL (((eV 1),(eC .nE))::[])))
  (wM (ym 3 (zx (aS (eV 1) iD)))
  (wM (zN (DH (yi 3)) (wM (xp 4 (Dy Fy 3 iD))
  (zt (iS (wO iN (eV 0) (yi 4))) (gT (xR (gN 5) (xR (gN 6) Af))) (Az (xo (wO Ab (eV 6) (yi 2))) (wM (He 2 (yN (aS (eV 5) (aS (eV 4) iD))) (eV 6))
  (zm (Dy be 3 (aS (eV 6) iD)))) yX))))
  (xF (eV 2)))))
def dF:WS :=
  (xF (zi aY (aS (x8 (aS (xi cw (aS (eV 0) (aS (eV 1) iD))) iD)) iD)))
def eU:WS :=
  (wM (xp 1 (xi bL (aS (eV 0) iD)))
  (wM (mY 2)
  (wM (ym 3 (zx iD))
  (wM (zt (iS (wO iN (eV 0) (eC (.int 0)))) (gN 4) (Az (xo (wO Ab (eV 4) (yi 2))) (wM (xp 5 (xi dS (aS (eV 1) (aS (eV 4) iD))))
  (wM (zt (iS (eV 5)) (gN 6) (mZ 2 (eV 6)))
  (zm (Dy be 3 (aS (eV 5) iD))))) yX))
  (xF (zi aY (a1 (yi 3))))))))
def gU:WS :=
  (xF (yN (aS (wO iN (eV 0) (eC (.int 0))) (aS (zi aY (aS (DX (iS (wO iN (eV 0) (eC (.int 1)))) (.nm 0) (xo (wO BI (wO iN (eV 0) (eC (.int 0))) (yi 1))) (eV 0) [none,some 1]) iD)) iD))))
def dH:WS :=
  (wM (xp 2 (xi bw (aS (eV 0) iD)))
  (xF (zi De (aS (DX (iS (eV 1)) (.nm 0) Bh (wO iN (wO iN (eV 1) (yi 0)) (eC (.int 3))) [none,some 2]) iD))))
def jh:WS :=
  (wM (xp 4 (xi cw (aS (xi bL (aS (xi iy (aS (eV 0) (aS (eV 1) iD))) iD)) (aS (eV 3) iD))))
  (wM (Az (xo (wO Ab (eV 2) (yi 4))) (xF (eC .nE)) yX)
  (wM (ym 5 (zx iD))
  (wM (xp 6 (eV 2))
  (wM (zN (xo (wO CQ (eV 6) (yi 3))) (wM (Ez (wO iN (eV 4) (yi 6)) (gT (xR (gN 7) (xR (gN 6) Af))))
  (zm (Dy be 5 (aS (eV 7) iD)))))
  (xF (zi aY (a1 (yi 5)))))))))
def du:WS :=
  (wM (xp 2 (eC (.str "abcdefghijklmnopqrstuvwxyz")))
  (wM (xp 3 (wO iN (eV 2) (wR aC 0 (aS (eC (.int 26)) iD))))
  (wM (xp 4 (wR aC 0 (aS (eC (.int 7)) iD)))
  (wM (xp 5 (wR aC 0 (aS (wO xc (eV 4) (eC (.int 1))) iD)))
  (wM (xp 6 (wR aC 0 (aS (eC (.int 26)) iD)))
  (wM (ym 7 (zx iD))
  (wM (zt (IE (aS (eV 1) iD)) (gN 8) (wM (xp 9 (wO xc (wO iN (eV 2) (wO Ac (wO xc (eV 6) (wO yz (eC (.int 5)) (yi 8))) (eC (.int 26)))) (wO iN (eV 2) (wO Ac (wO xc (eV 6) (wO Dz (eV 8) (eC (.int 26)))) (eC (.int 26))))))
  (Az (DK (xo (wO EK (eV 1) (eC (.int 8)))) (xo (wO yM (eV 4) (eC (.int 6))))) (zm (Dy be 7 (aS (wO yz (eV 3) (wO xc (eV 8) (eC (.int 1)))) iD))) (zm (Dy be 7 (aS (wO xc (wO xc (wO yz (eV 3) (yi 5)) (yi 9)) (wO yz (eV 3) (wO zb (eV 4) (yi 5)))) iD))))))
  (Et 7))))))))
def gX:WS :=
  (wM (Az (xo (wO yM (eV 1) (eC (.int 0)))) (xF (eC (.int 5))) yX)
  (wM (Az (xo (wO yM (eV 1) (eC (.int 1)))) (xF (wO zb (wR aC 0 (aS (eC (.int 3)) iD)) (eC (.int 1)))) yX)
  (wM (Az (xo (wO yM (eV 1) (eC (.int 2)))) (xF (wO zb (wR aC 0 (aS (eC (.int 200)) iD)) (eC (.int 100)))) yX)
  (xF (wO iN (zx (aS (wO zb (wO Aa (eC (.int 10)) (eC (.int 30))) (eC (.int 1))) (aS (wO zb (eC (.int 1)) (wO Aa (eC (.int 10)) (eC (.int 30)))) (aS (eC (.int 0)) (aS (wR aC 0 (aS (wO Aa (eC (.int 10)) (eC (.int 9))) iD)) iD))))) (wR aC 0 (aS (eC (.int 4)) iD)))))))
def gW:WS :=
  (wM (Az (xo (wO yM (eV 1) (eC (.int 2)))) (xF (yN (aS (wO Ac (eV 3) (yi 2)) (aS (wO Ac (wO xc (eV 3) (eC (.int 1))) (yi 2)) iD)))) yX)
  (wM (Az (xo (wO yM (eV 1) (eC (.int 3)))) (xF (yN (aS (eC (.int 0)) (aS (wO xc (eC (.int 1)) (wR aC 0 (aS (wO zb (eV 2) (eC (.int 1))) iD))) iD)))) yX)
  (wM (Az (DK (xo (wO yM (eV 1) (eC (.int 4)))) (xo (wO FO (eV 2) (eC (.int 3))))) (wM (xp 4 (wO Dz (eV 2) (eC (.int 2))))
  (wM (xp 5 (wR aC 0 (aS (eC (.int 2)) iD)))
  (wM (xp 6 (wR aC 0 (aS (eV 4) iD)))
  (xF (yN (aS (wO xc (wO yz (eV 5) (yi 4)) (yi 6)) (aS (wO xc (wO yz (eV 5) (yi 4)) (wO Ac (wO xc (wO xc (eV 6) (eC (.int 1))) (wR aC 0 (aS (wO zb (eV 4) (eC (.int 1))) iD))) (yi 4))) iD))))))) yX)
  (wM (xp 6 (wR aC 0 (aS (eV 2) iD)))
  (xF (yN (aS (eV 6) (aS (wO Ac (wO xc (wO xc (eV 6) (eC (.int 1))) (wR aC 0 (aS (wO zb (eV 2) (eC (.int 1))) iD))) (yi 2)) iD))))))))
def ji:WS :=
  (wM (xp 3 (wR aC 0 (aS (wO xc (eV 1) (eC (.int 1))) iD)))
  (wM (xp 4 (wR cG 0 (aS (wO xc (eV 3) (eC (.int 2))) iD)))
  (wM (xp 5 (Ih (eV 4) AR (AQ (zi Dp (aS (eC (.int 2)) (aS (wO xc (eV 3) (wR aC 0 (aS (eC (.int 3)) iD))) iD))))))
  (wM (xp 6 (wR aC 0 (aS (wO xc (eV 2) (eC (.int 1))) iD)))
  (wM (xp 7 (wR cG 0 (aS (eV 6) iD)))
  (wM (Hf 8 9 (aS (wR aC 0 (aS (eC (.int 5)) iD)) (aS (wR aC 0 (aS (eC (.int 4)) iD)) iD)))
  (wM (ym 10 (zx iD))
  (wM (zt (IE (aS (eV 6) iD)) (gN 11) (wM (Ez (wR iz 0 (aS (eV 8) (aS (zi zo (a1 (yi 5))) (aS (eV 11) iD)))) (gT (xR (gN 12) (xR (gN 13) Af))))
  (wM (xp 14 (x8 (aS (zx (aS (wO iN (eV 5) (yi 12)) (aS (wO iN (eV 5) (yi 13)) iD))) iD)))
  (zm (Dy be 10 (aS (yN (aS (wO iN (eV 7) (yi 11)) (aS (wO iN (eV 14) (eC (.int 0))) (aS (wO iN (eV 14) (eC (.int 1))) (aS (wR iA 0 (aS (eV 9) iD)) iD))))) iD))))))
  (xF (yN (aS (zi aY (aS (x8 (aS (Ih (eV 4) AR (AQ (yi 3))) iD)) iD)) (aS (zi aY (aS (CY (a1 (yi 10))) iD)) iD))))))))))))
def bC:WS :=
  (wM (xp 2 (iq (aS (wO xc (wO xc (zi CS (aS (wO iN (eV 1) (eC (.int 0))) iD)) (DX (iS (wO iN (eV 1) (eC (.int 1)))) (.nm 0) Bh (wO iN (eV 0) (eC (.int 1))) [none])) (DX (iS (wO iN (eV 1) (eC (.int 1)))) (.nm 0) Bh (wO iN (eV 0) (eC (.int 2))) [none])) iD)))
  (wM (ym 3 (wR cG 0 (aS (zi zo (a1 (yi 2))) iD)))
  (Eu (zi A5 (aS (DX (iS (eV 2)) (.nm 0) Bh (yN (aS (eV 0) (aS (Dy AS 2 (aS (wR aC 1 (aS (zi zo (a1 (yi 2))) iD)) iD)) iD))) [none,some 0,some 3]) iD)))))
def eY:WS :=
  (wM (ym 4 (zx iD))
  (wM (zt (iS (wO iN (eV 0) (eC (.int 1)))) (gT (xR (gN 5) (xR (gN 6) (xR (gN 7) (xR (gN 8) Af))))) (wM (xp 9 (x8 (aS (zx (aS (wO iN (eV 1) (yi 6)) (aS (wO iN (eV 1) (yi 7)) iD))) iD)))
  (zm (Dy be 4 (aS (yN (aS (eV 5) (aS (wO iN (eV 9) (eC (.int 0))) (aS (wO iN (eV 9) (eC (.int 1))) (aS (wO xc (wO yz (eV 8) (yi 2)) (yi 3)) iD))))) iD)))))
  (xF (yN (aS (zi aY (aS (x8 (aS (DX (iS (wO iN (eV 0) (eC (.int 0)))) (.nm 0) Bh (wO iN (eV 1) (yi 0)) [none,some 1]) iD)) iD)) (aS (zi aY (a1 (yi 4))) iD))))))
def f7(T:Addr):WS :=
  (wM (Q.yE 1 0)
  (wM (zt (IE (aS (wO xc (eC (.int 2)) (zi zo (aS (Ih (eV 0) AR (AQ (eC (.int 6)))) iD))) iD)) (gN 2) (wM (xp 3 (wR jY 1 (aS (eC (.int 12)) (aS (eC (.int 30)) iD))))
  (wM (ym 4 (wR cg 1 (aS (eV 3) iD)))
  (wM (xp 5 (zi A5 (aS (FU 4 (.nm 0) Bh (yN (aS (eV 0) (aS (eV 0) iD))) [none]) iD)))
  (wM (xp 6 (zh (cf T) 11 (aS (eV 3) iD)))
  (wM (xp 7 (xi ci (aS (eV 3) (aS (eV 4) (aS (eC (.int 1)) (aS (eC (.int 0)) iD))))))
  (wM (xp 8 (zx (aS (eV 7) iD)))
  (wM (Az (xo (wO EK (EZ 0 (DX (iS (wO iN (eV 3) (eC (.int 1)))) (.nm 0) Bh (zi E4 (aS (wO iN (eV 0) (eC (.int 3))) iD)) [none])) (wO Aa (eC (.int 10)) (eC (.int 29))))) (xp 8 (wO xc (eV 8) (zx (aS (xi ci (aS (eV 3) (aS (eV 5) (aS (eC (.int 1)) (aS (eC (.int 17)) iD))))) (aS (xi ci (aS (eV 3) (aS (eV 5) (aS (eC (.int 3)) (aS (LB Dn (eC (.int 5))) iD))))) iD))))) yX)
  (wM (zt (iS (eV 8)) (gN 9) (Az (IA (xo (wO neT (zh (cf T) 11 (aS (eV 9) iD)) (yi 6))) (IA (xo (wO neT (xi bA (aS (eV 9) iD)) (xi bA (aS (eV 3) iD)))) (xo (wO neT (xi cu (aS (eV 9) iD)) (xi cu (aS (eV 3) iD)))))) (xF (eC (.bl false))) yX))
  (wM (Az (xo (wO Hs (BP (aS (DX (iS (xi cN (aS (eV 7) iD))) (.nm 0) Bh (zi zo (a1 (yi 0))) [none]) iD)) (BP (aS (DX (iS (xi cN (aS (eV 3) iD))) (.nm 0) Bh (zi zo (a1 (yi 0))) [none]) iD)))) (xF (eC (.bl false))) yX)
  (wM (Az (xo (wO CQ (xi cv (aS (eV 7) (aS (eV 6) iD))) (xi cv (aS (eV 3) (aS (eV 6) iD))))) (xF (eC (.bl false))) yX)
  (zt (iS (Ih (wO iN (eV 3) (eC (.int 0))) AR (AQ (eC (.int 4))))) (gN 10) (zt (iS (wO iN (eV 3) (eC (.int 0)))) (gN 9) (Az (xo (wO neN (xi eN (aS (eV 7) (aS (eV 6) (aS (Cm iN 4 (yi 10)) (aS (Cm iN 4 (yi 9)) iD))))) (xi eN (aS (eV 3) (aS (eV 6) (aS (eV 10) (aS (eV 9) iD))))))) (xF (eC (.bl false))) yX))))))))))))))
  (xF (eC (.bl true)))))
theorem bW(i j:Int):yM (.int i) (.int j)=some (.bl (decide (i=j))):=by
 show some (PV.bl (i==j))=_
 rfl
variable{i j:Int}
theorem dZ(h:0<j):Ac (.int i) (.int j)=some (.int (i % j)):=if_pos (decide_eq_true h)
theorem qA(h:0<j)(h2:j<1073741824):Dz (.int i) (.int j)=some (.int (i / j)):=if_pos (by simp[h,h2])
theorem iV(h : -(2 ^ 64)<j)(h2:j<2 ^ 64):yz (.int i) (.int j)=some (.int (i*j)):=if_pos (by unfold Il;simp only[aed,aaT,decide_eq_true_eq];exact .inr ⟨h,h2⟩)
theorem pE(h:(decide (0<=j) && decide (j<=1000000) && decide (i.natAbs<2 ^ 64))=true):Aa (.int i) (.int j)=some (.int (i ^ j.toNat)):=if_pos h
theorem cz:zb (.int i) (.int j)=some (.int (i - j)):=rfl
theorem aR:xc (.int i) (.int j)=some (.int (i+j)):=rfl
variable{k:Nat}
theorem mG(h:i=k)(hk:k<26):iN (.str Ip) (.int i)=some (.str (ch k)):=by
 subst h
 show (if Ip.length<=100000 then (C1 Ip.cps.toList (k:Int)).map (λc=>PV.str ⟨#[c]⟩)else none)=_
 rw[if_pos (by decide +kernel),av (wz k hk)];rfl
theorem jw(b m:Nat):(Ap (ch b) m).length=m:=by
 have:=congrArg acX (iK b m)
 rw[ab0]at this
 show (Ap (ch b) m).cps.size=m
 rw[<- aay];exact this
theorem t4(x y:Str):(x++y).length=x.length+y.length:=by show (x.cps++y.cps).size=_;exact Array.size_append
theorem add_str(h:x.length+y.length<=100000):xc (.str x) (.str y)=some (.str (x++y)):=if_pos h
theorem lM{b m:Nat}(h:i=m)(hm:m<=1000):yz (.str (ch b)) (.int i)=some (.str (Ap (ch b) m)):=by
 subst h
 refine(if_pos ⟨by omega,by omega,?_⟩).trans ?_
 .rw[show ((m:Int)).toNat=m by omega]
 .show 1<=1000;decide
variable{n:Nat}
theorem pA{j:Nat}{x:PV}(h:(AL 0 n)[j]?=some x):j<n/\x=.int j:=by
 unfold AL at h
 rw[aai]at h
 rcases aaO j n with z|z
 .rw[abT z]at h
  refine⟨z,?_⟩
  have:x=.int (0+(j:Int)):=by simpa using h.symm
  rw[this];congr 1;omega
 .rw[aan (by simpa using z)]at h;cases h
theorem m3(n:Nat):(AL 0 n).length=n:=by unfold AL;rw[aad,ab5]
variable{m:Int}
theorem draw{P:PV->PV->Prop}(h0:0<m)(h1:m<1073741824)(k:∀r:Nat,(r:Int)<m->P (.int r) .nE):aC .nE [.int m] P :=
 ⟨rfl,m,rfl,h0,h1,λr r0 r1=>by
  obtain⟨i,rfl⟩:∃i:Nat,r=(i:Int):=⟨r.toNat,by omega⟩
  exact k i r1⟩
theorem pO(c:PV)(xs:List PV)(P:PV->PV->Prop)(h:cG c xs P):Q.B4 10 du c xs P:=by
 obtain⟨rfl,n,rfl,hn,h⟩:=h
 unfold du
 refine ao λN hN=>?_
 try lia
 subst hN
 refine ao λN hN=>?_
 lia
 refine draw (by decide) (by decide) λb hb=>?_
 refine ae (mG rfl (by omega)) ?_
 try lia
 subst hN
 refine ao λN hN=>?_
 lia
 refine draw (by decide) (by decide) λs hs=>?_
 try lia
 subst hN
 refine ao λN hN=>?_
 lia
 refine ae aR ?_
 refine draw (by omega) (by omega) λt ht=>?_
 try lia
 subst hN
 refine ao λN hN=>?_
 lia
 refine draw (by decide) (by decide) λf hf=>?_
 try lia
 subst hN
 refine ao λN hN=>?_
 try lia
 subst hN
 refine ao λN hN=>bg λG B hG hB=>?_
 lia
 refine⟨by omega,by omega,?_⟩
 subst hG
 refine aN (λi e=>∃v8 v9,e=[some ⟨2,.nE⟩,some ⟨0,.int n⟩,some ⟨0,.str Ip⟩,some ⟨0,.str (ch b)⟩,some ⟨0,.int s⟩,some ⟨0,.int t⟩,some ⟨0,.int f⟩,some ⟨1,.lst ((D6 b s t f n i).map .str)⟩,v8,v9]) (i:=0) ⟨none,none,rfl⟩ ?_ ?_
 case refine_2=>
  rintro e ⟨v8,v9,rfl⟩
  show N _
  subst hN
  rw[m3,show ((n:Int)).toNat=n by omega,aaV]
  refine⟨rfl,?_⟩
  exact h _ (by unfold D6;rw[aad,ab5]) (o6 hn) (qJ (by omega) (by omega) (by omega))
 rintro j x e M hj ⟨v8,v9,rfl⟩ k
 obtain⟨Q0,rfl⟩:=pA hj
 rw[aaV]at k ⊢
 subst hB
 have HK:j<n:=by omega
 refine ao λN' Bm=>?_
 lia
 refine ae (iV (by omega) (by omega)) ?_
 refine ae aR ?_
 refine ae (dZ (by decide)) ?_
 refine ae (mG (k:=(f+5*j) % 26) (by omega) (by omega)) ?_
 refine ae (qA (by decide) (by decide)) ?_
 refine ae aR ?_
 refine ae (dZ (by decide)) ?_
 refine ae (mG (k:=(f+j / 26) % 26) (by omega) (by omega)) ?_
 refine ae (add_str (by show 1+1<=100000;decide)) ?_
 subst Bm
 have push:∀y:Str,y=wd b s t f n j->M [some ⟨2,.nE⟩,some ⟨0,.int n⟩,some ⟨0,.str Ip⟩,some ⟨0,.str (ch b)⟩,some ⟨0,.int s⟩,some ⟨0,.int t⟩,some ⟨0,.int f⟩,some ⟨1,.lst ((D6 b s t f n j).map .str++[.str y])⟩,some ⟨0,.int j⟩,some ⟨0,.str (ch ((f+5*j) % 26)++ch ((f+j / 26) % 26))⟩]:=λy hy=>by
  refine k _ ⟨some ⟨0,.int j⟩,some ⟨0,.str (ch ((f+5*j) % 26)++ch ((f+j / 26) % 26))⟩,?_⟩
  rw[hy,qK,aaH];rfl
 have len:((D6 b s t f n j).map PV.str).length<=100000:=by rw[aad];unfold D6;rw[aad,ab5];omega
 have two:(ch ((f+5*j) % 26)++ch ((f+j / 26) % 26)).cps.toList=[97+(f+5*j) % 26,97+(f+j / 26) % 26]:=by rw[fw];rfl
 lia
 by_cases c:n<8/\s=6
 .have c1:((n:Int)<8):=by omega
  have c2:((s:Int)=6):=by omega
  rw[decide_eq_true c1]
  lia
  refine ae (bW _ _) ?_
  rw[decide_eq_true c2]
  lia
  refine ae aR ?_
  refine ae (lM (m:=j+1) (by omega) (by omega)) ?_
  refine ae (Ca len) ?_
  refine push _ (jk ?_)
  rw[iK]
  unfold wd wl
  rw[if_pos c]
 .have word:Ap (ch b) t++(ch ((f+5*j) % 26)++ch ((f+j / 26) % 26))++Ap (ch b) (s - t)=wd b s t f n j:=by
   refine jk ?_
   rw[fw,fw,two,iK,iK]
   unfold wd wl
   rw[if_neg c]
  have l2:(ch ((f+5*j) % 26)++ch ((f+j / 26) % 26)).length=2:=rfl
  have Pc:opt (yz (.str (ch b)) (.int t)) λz=>opt (xc z (.str (ch ((f+5*j) % 26)++ch ((f+j / 26) % 26)))) λz=>opt (zb (.int s) (.int t)) λz1=>opt (yz (.str (ch b)) z1) λz1=>opt (xc z z1) λz=>opt (be ((D6 b s t f n j).map .str) [z]) λr=>M [some ⟨2,.nE⟩,some ⟨0,.int n⟩,some ⟨0,.str Ip⟩,some ⟨0,.str (ch b)⟩,some ⟨0,.int s⟩,some ⟨0,.int t⟩,some ⟨0,.int f⟩,some ⟨1,.lst r.2⟩,some ⟨0,.int j⟩,some ⟨0,.str (ch ((f+5*j) % 26)++ch ((f+j / 26) % 26))⟩]:=by
   refine ae (lM rfl (by omega)) (ae (add_str (by rw[jw,l2];omega)) (ae cz (ae (lM (m:=s - t) (by omega) (by omega)) (ae (add_str ?_) (ae (Ca len) (push _ word))))))
   rw[t4,jw,jw,l2];omega
  by_cases c1:(n:Int)<8
  .have c2:¬ ((s:Int)=6):=by omega
   rw[decide_eq_true c1]
   lia
   refine ae (bW _ _) ?_
   rw[decide_eq_false c2]
   lia
   exact Pc
  .rw[decide_eq_false c1]
   lia
   exact Pc
theorem rq(c:PV)(xs:List PV)(P:PV->PV->Prop)(h:iA c xs P):Q.EA 2 gX c xs P:=by
 obtain⟨rfl,q,rfl,h⟩:=h
 have SW:(1000000000:Int)<10 ^ 30:=by decide
 unfold gX
 refine ao λN hN=>?_
 lia
 refine ae (bW _ _) ?_
 lia
 split
 .exact h _ (by omega) (by omega)
 subst hN
 refine ao λN hN=>?_
 lia
 refine ae (bW _ _) ?_
 lia
 split
 .refine draw (by decide) (by decide) λr hr=>?_
  exact ae cz (h _ (by omega) (by omega))
 subst hN
 refine ao λN hN=>?_
 lia
 refine ae (bW _ _) ?_
 lia
 split
 .refine draw (by decide) (by decide) λr hr=>?_
  exact ae cz (h _ (by omega) (by omega))
 subst hN
 lia
 have Sa:(10:Int) ^ (30:Int).toNat=10 ^ 30:=by decide
 have c9:(10:Int) ^ (9:Int).toNat=1000000000:=by decide
 have pw:Aa (.int 10) (.int 30)=some (.int (10 ^ 30)):=(pE (by decide)).trans (by rw[Sa])
 have p9:Aa (.int 10) (.int 9)=some (.int 1000000000):=(pE (by decide)).trans (by rw[c9])
 refine ae pw (ae cz (ae pw (ae cz (ae p9 ?_))))
 refine draw (by decide) (by decide) λr hr=>?_
 try lia
 refine draw (by decide) (by decide) λx hx=>?_
 match x,hx with
 |0,_=>exact ae (av (j:=0) rfl) (h _ (by omega) (by omega))
 |1,_=>exact ae (av (j:=1) rfl) (h _ (by omega) (by omega))
 |2,_=>exact ae (av (j:=2) rfl) (h _ (by omega) (by omega))
 |3,_=>exact ae (av (j:=3) rfl) (h _ (by omega) (by omega))
 |n+4,h=>omega
theorem turn(x d t:Int)(h0:0<t)(h1:0<=x)(h2:x<t)(h3:0<=d)(h4:d<t - 1):0<=(x+1+d) % t/\(x+1+d) % t<t/\x≠(x+1+d) % t:=by
 refine⟨ab9 _ (by omega),abM _ h0,λe=>?_⟩
 have q:=Int.emod_add_mul_ediv (x+1+d) t
 rw[<- e]at q
 have:t*((x+1+d) / t)=1+d:=by omega
 generalize (x+1+d) / t=y at this
 rcases(show y<=0\/1<=y by omega)with z|z
 .have:t*y<=0:=Int.mul_nonpos_of_nonneg_of_nonpos (by omega) (by omega)
  omega
 .have:t*1<=t*y:=ae2 z (by omega)
  omega
theorem Ag{P:PV->PV->Prop}(h0:0<m)(h1:m<1073741824)(k:∀r:Int,0<=r->r<m->P (.int r) .nE):aC .nE [.int m] P:=⟨rfl,m,rfl,h0,h1,k⟩
theorem rp(c:PV)(xs:List PV)(P:PV->PV->Prop)(h:iz c xs P):Q.EA 7 gW c xs P:=by
 obtain⟨rfl,f,m,kk,rfl,m2,m9,h⟩:=h
 have m0:(0:Int)<m:=by omega
 unfold gW
 refine ao λN hN=>?_
 lia
 refine ae (bW _ _) ?_
 lia
 split
 .refine ae (dZ m0) (ae aR (ae (dZ m0) ?_))
  refine h _ _ (ab9 _ (by omega)) (abM _ m0) (ab9 _ (by omega)) (abM _ m0) λe=>?_
  refine(turn (kk % m) 0 m m0 (ab9 _ (by omega)) (abM _ m0) (by omega) (by omega)).2.2 (e.trans ?_)
  rw[Int.add_zero,Int.emod_add_emod]
 subst hN
 refine ao λN hN=>?_
 lia
 refine ae (bW _ _) ?_
 lia
 split
 .refine ae cz ?_
  refine Ag (by omega) (by omega) λr p0 q0=>?_
  exact ae aR (h _ _ (by omega) m0 (by omega) (by omega) (by omega))
 subst hN
 refine ao λN hN=>b7 λA B hA hB=>?_
 have last:B {FT P with nx:=N} [some ⟨2,.nE⟩,some ⟨0,.int f⟩,some ⟨0,.int m⟩,some ⟨0,.int kk⟩,none,none,none]:=by
  subst hB
  show N _
  subst hN
  refine ao λN hN=>?_
  lia
  refine Ag (by omega) (by omega) λr p0 q0=>?_
  try lia
  subst hN
  lia
  refine ae aR (ae cz ?_)
  refine Ag (by omega) (by omega) λd p1 q1=>?_
  try lia
  refine ae aR (ae (dZ m0) ?_)
  have t:=turn r d m m0 p0 q0 p1 q1
  exact h _ _ p0 q0 t.1 t.2.1 t.2.2
 lia
 refine ae (bW _ _) ?_
 lia
 by_cases c1:f=4
 case neg=>
  rw[decide_eq_false c1]
  exact last
 rw[decide_eq_true c1]
 lia
 by_cases c2:3<m
 case neg=>
  rw[decide_eq_false c2]
  exact last
 rw[decide_eq_true c2]
 lia
 subst hA
 refine ao λN hN=>?_
 lia
 refine ae (qA (by decide) (by decide)) ?_
 subst hN
 refine ao λN hN=>?_
 lia
 refine Ag (by omega) (by omega) λr p0 q0=>?_
 try lia
 subst hN
 refine ao λN hN=>?_
 lia
 refine Ag (by omega) (by omega) λr2 p2 q2=>?_
 try lia
 subst hN
 have bd:∀y:Int,0<=y->y<m / 2->0<=r*(m / 2)+y/\r*(m / 2)+y<m:=λy y0 y1=>by
  have:r=0\/r=1:=by omega
  rcases this with rfl|rfl<;>omega
 lia
 refine ae (iV (by omega) (by omega)) (ae aR (ae (iV (by omega) (by omega)) (ae aR (ae cz ?_))))
 refine Ag (by omega) (by omega) λr3 p3 q3=>?_
 try lia
 refine ae aR (ae (dZ (by omega)) (ae aR ?_))
 have t:=turn r2 r3 (m / 2) (by omega) p2 q2 p3 q3
 exact h _ _ (bd _ p2 q2).1 (bd _ p2 q2).2 (bd _ t.1 t.2.1).1 (bd _ t.1 t.2.1).2 λe=>t.2.2 (by omega)
theorem vq(h:(if j > i then j else i)=k):Dp [.int i,.int j]=some (.int k):=by rw[<- h];rfl
variable{l:List Str}
theorem li{i:Nat}(h:i<l.length):iN (.lst (l.map .str)) (.int i)=some (.str l[i]):=av (by rw[aai,aaa h];rfl)
theorem pg:∀ss:List Str,(ss.map PV.str).mapM Bq=some ss
 |[]=>rfl
 |s::ss=>by rw[aas,abq,pg ss];rfl
theorem pf:∀ts:List tO,(ts.map oF).mapM FP=some (ts.map tO.nm)
 |[]=>rfl
 |t::ts=>by rw[aas,abq,pf ts];rfl
variable{β:Type}
theorem lB{f:α->β}{l:List α}{a:α}{b:β}{ix:List Nat}(h:∀i∈ix,i<l.length):(ix.map λi=>(l.map f).getD i b)=(ix.map λi=>l.getD i a).map f:=by
 rw[aaw]
 refine aaK λi hi=>?_
 show _=f (l.getD i a)
 rw[aag,aag,aai,aaa (h i hi)];rfl
theorem tE(c:PV)(xs:List PV)(P:PV->PV->Prop)(h:jY c xs P):Q.EA 15 ji c xs P:=by
 obtain⟨rfl,M,T,rfl,M0,M1,T0,T1,h⟩:=h
 unfold ji
 refine ao λN hN=>?_
 lia
 refine ae aR ?_
 refine draw (by omega) (by omega) λmm SH=>?_
 subst hN
 refine ao λN hN=>?_
 lia
 refine ae aR ?_
 refine⟨rfl,mm+2,rfl,by omega,λws wl wn ww=>?_⟩
 subst hN
 refine ao λN hN=>?_
 lia
 refine draw (by decide) (by decide) λr hr=>?_
 refine ae aR ?_
 obtain⟨pn,QH,GC,SG⟩:∃pn:Nat,(if (mm:Int)+r > 2 then (mm:Int)+r else 2)=(pn:Int)/\2<=pn/\pn<=mm+2:=by
  refine⟨(if (mm:Int)+r > 2 then (mm:Int)+r else 2).toNat,?_,?_,?_⟩<;>split<;>omega
 refine ae (vq QH) ?_
 try lia
 rw[eG,<- aez]
 subst hN
 have pl:(ws.take pn).length=pn:=by rw[aa2,wl];omega
 have Oq:(ws.take pn).Nodup:=wn.sublist (aeK _ _)
 have pw:∀x∈ws.take pn,xT x:=λx hx=>ww x (abD hx)
 have Hq:∀x∈ws.take pn,x∈ws:=λx hx=>abD hx
 generalize ws.take pn=B6 at pl Oq pw Hq ⊢
 refine ao λN hN=>?_
 lia
 refine ae aR ?_
 refine draw (by omega) (by omega) λcc Nw=>?_
 subst hN
 refine ao λN hN=>?_
 lia
 refine⟨rfl,cc,rfl,by omega,λns nl nn nw=>?_⟩
 subst hN
 refine ao λN hN=>?_
 simp only[Hf]
 lia
 refine Ag (by decide) (by decide) λO8 p0 q0=>?_
 refine Ag (by decide) (by decide) λOd p1 q1=>?_
 subst hN
 refine ao λN hN=>?_
 lia
 subst hN
 refine ao λN hN=>bg λG B hG hB=>?_
 lia
 refine⟨by omega,by omega,?_⟩
 subst hG
 refine aN (λi e=>∃ts v11 LY LX LW,e=[some ⟨2,.nE⟩,some ⟨0,.int M⟩,some ⟨0,.int T⟩,some ⟨0,.int mm⟩,some ⟨0,.lst (ws.map .str)⟩,some ⟨0,.lst (B6.map .str)⟩,some ⟨0,.int cc⟩,some ⟨0,.lst (ns.map .str)⟩,some ⟨0,.int O8⟩,some ⟨0,.int Od⟩,some ⟨1,.lst (ts.map oF)⟩,v11,LY,LX,LW]/\ts.map tO.nm=ns.take i/\ts.length=i/\∀t∈ts,E5 t/\t.one∈ws/\t.wN∈ws) (i:=0) ⟨[],none,none,none,none,rfl,rfl,rfl,by simp⟩ ?_ ?_
 case refine_2=>
  rintro e ⟨ts,v11,LY,LX,LW,rfl,g1,g2,g3⟩
  rw[m3,show ((cc:Int)).toNat=cc by omega,aaV]at g1 g2
  show N _
  subst hN
  have M9:ts.map tO.nm=ns:=by rw[g1,<- nl,abd]
  simp only[xF,yN,zi,aS,x8,CY]
  lia
  rw[eG,<- aez]
  refine⟨_,pg _,by rw[aa2];omega,λss up=>ae rfl ?_⟩
  try lia
  refine⟨_,pf ts,by rw[M9];exact nn,by rw[aad];omega,λix il Lj iw=>ae rfl ?_⟩
  rw[aad]at Lj il
  rw[lB (a:=t0) Lj]
  have ge:∀j∈ix,E5 (ts.getD j t0)/\(ts.getD j t0).one∈ws/\(ts.getD j t0).wN∈ws:=λj hj=>by
   have:=Lj j hj
   rw[aag,aaa this]
   exact g3 _ (abg _)
  refine h ss _ ws ⟨f9 up.2 (up.1.nodup_iff.mpr (wn.sublist (aeK _ _))),λx hx=>ww x (abD (up.1.mem_iff.mp hx)),?_,λt ht=>?_⟩ ?_ ?_ (by omega) (λx hx=>abD (up.1.mem_iff.mp hx)) λt ht=>?_
  .rw[lB (a:=t0) Lj]at iw;exact iw
  .obtain⟨j,hj,rfl⟩:=List.mem_map.mp ht
   exact(ge j hj).1
  .rw[up.1.length_eq,aa2];omega
  .rw[aad,il,g2];omega
  .obtain⟨j,hj,rfl⟩:=List.mem_map.mp ht
   exact(ge j hj).2
 rintro j x e M' hj ⟨ts,v11,LY,LX,LW,rfl,g1,g2,g3⟩ k
 obtain⟨Q0,rfl⟩:=pA hj
 rw[aaV]at g1 g2 k
 subst hB
 have HK:j<ns.length:=by omega
 refine ao λN hN=>?_
 lia
 refine⟨rfl,O8,B6.length,j,by rw[aad],by omega,by omega,λx y x0 x1 y0 y1 xy=>?_⟩
 obtain⟨x,rfl⟩:∃z:Nat,x=(z:Int):=⟨x.toNat,by omega⟩
 obtain⟨y,rfl⟩:∃z:Nat,y=(z:Int):=⟨y.toNat,by omega⟩
 have hx:x<B6.length:=by omega
 have hy:y<B6.length:=by omega
 lia
 subst hN
 refine ao λN hN=>?_
 simp only[xp,x8]
 lia
 refine ae (li hx) (ae (li hy) ?_)
 refine⟨[B6[x],B6[y]],rfl,(by show 2<64;decide),λss up=>?_⟩
 have Qr:B6[x]≠B6[y]:=λe=>xy (by
  have:=(abx Oq).mp e
  omega)
 obtain⟨u,v,rfl,uv,hu,hv⟩:=uN up.1 up.2 Qr
 have wu:xT u:=pw u (by rcases hu with e|e<;>rw[e]<;>exact abg _)
 have wv:xT v:=pw v (by rcases hv with e|e<;>rw[e]<;>exact abg _)
 have su:u∈ws:=Hq u (by rcases hu with e|e<;>rw[e]<;>exact abg _)
 have sv:v∈ws:=Hq v (by rcases hv with e|e<;>rw[e]<;>exact abg _)
 subst hN
 lia
 refine ae (li HK) (ae (z:=.str u) (av (j:=0) rfl) (ae (z:=.str v) (av (j:=1) rfl) ?_))
 refine⟨rfl,Od,rfl,λc c0 c1=>?_⟩
 lia
 refine ae (Ca (by rw[aad];omega)) ?_
 refine k _ ⟨ts++[⟨ns[j],u,v,c⟩],some ⟨0,.int j⟩,some ⟨0,.int x⟩,some ⟨0,.int y⟩,some ⟨0,.lst [.str u,.str v]⟩,by rw[aaH];rfl,?_,by rw[aaF,g2];rfl,λt ht=>?_⟩
 .rw[aaH,g1]
  show ns.take j++[ns[j]]=ns.take (j+1)
  rw[abB,aaa HK];rfl
 .rcases List.mem_append.mp ht with z|z
  .exact g3 t z
  .have:t=⟨ns[j],u,v,c⟩:=by simpa using z
   subst this
   exact⟨⟨nw _ (abg _),wu,wv,uv,c0,c1⟩,su,sv⟩
section
variable{one wN:Str}{ns:List Str}
theorem mK(xs:List PV)(P:PV->Prop)(h:bQ xs P):Q.run 2 dG xs P:=by
 obtain⟨ps,ts,t,rfl,h⟩:=h
 unfold dG eQ oF
 try lia
 refine ae (z:=.str t.one) (av (j:=1) rfl) (ae (z:=.tup (ps.map .str)) (av (j:=0) rfl) (ae fR ?_))
 try lia
 unfold xh at h
 cases e:decide (t.one∈ps)with
 |false=>rw[e]at h;exact h
 |true=>
  rw[e,Bool.true_and]at h
  exact ae (z:=.str t.wN) (av (j:=2) rfl) (ae (z:=.tup (ps.map .str)) (av (j:=0) rfl) (ae fR h))
theorem b9(p:α->Bool)(f:α->β):∀(l:List α),l.filterMap (λa=>if p a=true then some (f a)else none)=(l.filter p).map f
 |[]=>rfl
 |a::l=>by
  rw[abU,ac8,b9 p f l]
  cases p a<;>rfl
theorem kO(xs:List PV)(P:PV->Prop)(h:bA xs P):Q.run 1 cH xs P:=by
 obtain⟨ps,ts,rfl,hl,h⟩:=h
 unfold cH
 have e1:iN (eQ ps ts) (.int 1)=some (.tup (ts.map oF)):=av (j:=1) rfl
 try lia
 refine ae e1 ?_
 try lia
 refine ee (λx=>match x with|.tup [.str a,.str b,.str c,.int d]=>if xh ps ⟨a,b,c,d⟩=true then some (.str a)else none|_=>none) (λx hx R hR=>?_) (by simp;omega) ?_
 .obtain⟨t,ht,rfl⟩:=List.mem_map.mp hx
  refine⟨ps,ts,t,rfl,?_⟩
  replace hR:R (if xh ps t=true then some (.str t.nm)else none) [some ⟨0,eQ ps ts⟩]:=hR
  show opt (some (xh ps t)) _
  rw[dY]
  cases e:xh ps t with
  |false=>rw[e]at hR;exact hR
  |true=>
   rw[e]at hR
   show opt (iN (oF t) (.int 0)) _
   refine ae (z:=.str t.nm) (av (j:=0) rfl) ?_
   exact hR
 .rw[abe,ady]
  have e:ts.filterMap ((λx=>match x with|PV.tup [.str a,.str b,.str c,.int d]=>if xh ps ⟨a,b,c,d⟩=true then some (PV.str a)else none|_=>none) ∘ oF)=(bI ps ts).map .str:=by
   unfold bI
   rw[aaw]
   exact b9 (xh ps) (λt=>PV.str t.nm) ts
  rw[e]
  exact ae rfl h
theorem eq_str(i j:Str):yM (.str i) (.str j)=some (.bl (i==j)):=rfl
theorem rD(ok:zq ps ts):(bI ps ts).Nodup:=(bu ok).sublist (List.filter_sublist.map _)
theorem oD(ok:zq ps ts)(h1:ps.length<=60)(h2:ts.length<=60):Nt ps ts:=⟨ok.rise,λt ht=>fN (ok.tie t ht).lt,h1,by omega⟩
theorem dv(fs:List Str):(fs.map PV.str).mapM Bq=some fs:=by
 induction fs with
 |nil=>rfl
 |cons f fs ih=>rw[aas,abq,ih];rfl
theorem qb(ps:List Str):(ps.map PV.str).mapM zC=some (ps.map λp=>(aaq p:Key)):=by
 induction ps with
 |nil=>rfl
 |cons p ps ih=>rw[aas,abq,ih];rfl
theorem fQ(h:ps.Nodup):(ps.map λp=>(aaq p:Key)).Nodup:=by
 rw[acw,aeL]
 exact(List.nodup_iff_pairwise_ne.mp h).imp λyq e=>yq (Sum.inr.inj e)
theorem mD(ps:List Str)(g:Str->List (Str×Str)):((ps.map λp=>((aaq p:Key),PV.lst ((g p).map xb))).map (·.1))=ps.map λp=>(aaq p:Key):=by rw[aaw];rfl
theorem qI(nd:ps.Nodup)(h:y∈ps):Q.Dr (ps.map λp=>((aaq p:Key),PV.lst ((g p).map xb))) (aaq y)=some ((g y).map xb):=by
 unfold Q.Dr
 have:=bo (f:=id) (g:=λp=>PV.lst ((g p).map xb)) (l:=ps) (a:=y) (by simpa using nd) h
 simp only[id]at this
 rw[this]
theorem nY{q:Str×Str}:Bz (ps.map λp=>((aaq p:Key),PV.lst ((g p).map xb))) (aaq y) ((g y).map xb++[xb q])=ps.map λp=>((aaq p:Key),PV.lst ((if p=y then g y++[q]else g p).map xb)):=by
 unfold Bz
 rw[aaw]
 refine aaK λp hp=>?_
 show (if (aaq p:Key)=aaq y then ((aaq y:Key),PV.lst ((g y).map xb++[xb q]))else (aaq p,PV.lst ((g p).map xb)))=(aaq p,PV.lst ((if p=y then g y++[q]else g p).map xb))
 by_cases e:p=y
 .subst e;simp
 .simp[e]
theorem jD(xs:List PV)(P:PV->Prop)(h:bL xs P):Q.Gh 3 ck xs P:=by
 obtain⟨ps,ts,rfl,ok,h⟩:=h
 have nd:=bU ok.rise
 have e0:iN (eQ ps ts) (.int 0)=some (.tup (ps.map .str)):=av (j:=0) rfl
 have e1:iN (eQ ps ts) (.int 1)=some (.tup (ts.map oF)):=av (j:=1) rfl
 unfold ck
 refine ao λN hN=>?_
 show opt (iN (eQ ps ts) (.int 0)) _
 refine ae e0 ⟨_,qb ps,fQ nd,by simp;have:=ok.pl;omega,?_⟩
 have e2:(ps.map λp=>(aaq p:Key)).map (λk=>(k,PV.lst []))=ps.map λp=>((aaq p:Key),PV.lst ((xj ps (ts.take 0) p).map xb)):=by rw[aaw];rfl
 rw[e2]
 show N [some ⟨0,eQ ps ts⟩,some ⟨4,yl ps (xj ps (ts.take 0))⟩,none]
 subst hN
 refine ao λN hN=>bg λG B hG hB=>?_
 show opt (iN (eQ ps ts) (.int 1)) _
 refine ae e1 ?_
 show yS G B _ (ts.map oF) _
 refine aN (λj e=>∃v2,e=[some ⟨0,eQ ps ts⟩,some ⟨4,yl ps (xj ps (ts.take j))⟩,v2]) (i:=0) ⟨none,rfl⟩ ?_ ?_
 case refine_2=>
  rintro e ⟨v2,rfl⟩
  rw[aad,aaV,abd]
  show N _
  subst hN
  exact⟨⟨_,rfl⟩,h⟩
 rintro j x e M hx ⟨v2,rfl⟩ k
 rw[aaV]at k ⊢
 have hj:j<ts.length:=by have:=(List.getElem?_eq_some_iff.mp hx).1;rwa [aad]at this
 have ex:x=oF ts[j]:=by
  rw[aai,aaa hj]at hx
  exact(aao hx).symm
 subst ex hG hB
 show Az _ _ _ _ [some ⟨0,eQ ps ts⟩,some ⟨4,yl ps (xj ps (ts.take j))⟩,some ⟨0,oF ts[j]⟩]
 refine b7 λA1 B1 hA hB=>?_
 lia
 refine⟨ps,ts,ts[j],rfl,?_⟩
 subst hA hB
 show opt (some (xh ps ts[j])) _
 refine zB.mpr ?_
 have step:=λp=>so (ps:=ps) hj p
 cases eo:xh ps ts[j]with
 |false=>
  refine k _ ⟨some ⟨0,oF ts[j]⟩,?_⟩
  have e:xj ps (ts.take (j+1))=xj ps (ts.take j):=by
   funext p
   rw[step p,eo]
   simp
  rw[e]
 |true=>
  obtain⟨h1,h2⟩:=yy.mp eo
  have yq:=ok.ne ts[j] (abg _)
  have hlen:∀p,(xj ps (ts.take j) p).length<=2000:=λp=>by
   have:=oI ps (ts.take j) p
   have h3:(ts.take j).length<=1000:=by simp;have:=ok.tl;omega
   omega
  rw[if_pos rfl]
  refine ao λN' Bm=>?_
  refine⟨by rw[mD];exact fQ nd,?_⟩
  show opt (iN (oF ts[j]) (.int 1)) _
  refine ae (z:=.str ts[j].one) (av (j:=1) rfl) (ae (z:=aaq ts[j].one) rfl (ae (qI nd h1) ?_))
  show opt (iN (oF ts[j]) (.int 0)) _
  refine ae (z:=.str ts[j].nm) (av (j:=0) rfl) ?_
  show opt (iN (oF ts[j]) (.int 2)) _
  refine ae (z:=.str ts[j].wN) (av (j:=2) rfl) ⟨by simp;have:=hlen ts[j].one;omega,?_⟩
  have ea:=nY (ps:=ps) (g:=xj ps (ts.take j)) (y:=ts[j].one) (q:=(ts[j].nm,ts[j].wN))
  show N' [some ⟨0,eQ ps ts⟩,some ⟨4,.xv (Bz _ (aaq ts[j].one) ((xj ps (ts.take j) ts[j].one).map xb++[xb (ts[j].nm,ts[j].wN)]))⟩,some ⟨0,oF ts[j]⟩]
  rw[ea]
  generalize IJ:(λp=>if p=ts[j].one then xj ps (ts.take j) ts[j].one++[(ts[j].nm,ts[j].wN)]else xj ps (ts.take j) p)=g'
  have eg:∀p,(if p=ts[j].one then xj ps (ts.take j) ts[j].one++[(ts[j].nm,ts[j].wN)]else xj ps (ts.take j) p)=g' p:=λp=>by rw[<- IJ]
  simp only[eg]
  subst Bm
  refine⟨by rw[mD];exact fQ nd,?_⟩
  show opt (iN (oF ts[j]) (.int 2)) _
  refine ae (z:=.str ts[j].wN) (av (j:=2) rfl) (ae (z:=aaq ts[j].wN) rfl (ae (qI nd h2) ?_))
  show opt (iN (oF ts[j]) (.int 0)) _
  refine ae (z:=.str ts[j].nm) (av (j:=0) rfl) ?_
  show opt (iN (oF ts[j]) (.int 1)) _
  refine ae (z:=.str ts[j].one) (av (j:=1) rfl) ⟨by simp;rw[<- eg,if_neg yq.symm];have:=hlen ts[j].wN;omega,?_⟩
  have eb:=nY (ps:=ps) (g:=g') (y:=ts[j].wN) (q:=(ts[j].nm,ts[j].one))
  show M [some ⟨0,eQ ps ts⟩,some ⟨4,.xv (Bz _ (aaq ts[j].wN) ((g' ts[j].wN).map xb++[xb (ts[j].nm,ts[j].one)]))⟩,some ⟨0,oF ts[j]⟩]
  rw[eb]
  refine k _ ⟨some ⟨0,oF ts[j]⟩,?_⟩
  have e:xj ps (ts.take (j+1))=λp=>if p=ts[j].wN then g' ts[j].wN++[(ts[j].nm,ts[j].one)]else g' p:=by
   funext p
   rw[step p,eo,if_pos rfl]
   unfold ends
   by_cases q1:p=ts[j].wN
   .subst q1
    rw[if_pos rfl,<- eg,if_neg yq.symm,if_neg yq,if_pos rfl];rfl
   .rw[if_neg q1,<- eg]
    by_cases q2:p=ts[j].one
    .subst q2
     rw[if_pos rfl,if_pos rfl,if_neg (λz=>q1 z.symm)];rfl
    .rw[if_neg q2,if_neg (λz=>q2 z.symm),if_neg (λz=>q1 z.symm)];simp
  rw[e];rfl
theorem qD{cs:Cs}(h:y∉yx cs):yu (cs.map λc=>((aaq c.1:Key),BQ c.2)) (aaq y)=none:=j3 (f:=λc:Str×Option (Str×Str)=>c.1) h
theorem nU{cs:Cs}(nd:(yx cs).Nodup)(h:y∈yx cs):∃c∈cs,c.1=y/\yu (cs.map λc=>((aaq c.1:Key),BQ c.2)) (aaq y)=some (BQ c.2):=by
 obtain⟨c,hc,rfl⟩:=List.mem_map.mp h
 exact⟨c,hc,rfl,bo (f:=λc:Str×Option (Str×Str)=>c.1) (g:=λc=>BQ c.2) nd hc⟩
theorem ni{kvs:List (Key×PV)}:Ab (.str y) (.xv kvs)=some (.bl (!(yu kvs (aaq y)).isSome)):=rfl
structure Iv(ps:List Str)(g:Str->List (Str×Str))(start:Str)(cs:Cs)(as:List Str):Prop where
 ok:zY g start cs
 Cd:∀y∈yx cs,y∈ps
 sub:∀y∈as,y∈yx cs
 al:as.length<=cs.length
theorem mM(xs:List PV)(P:PV->Prop)(h:cw xs P):Q.run 7 dI xs P:=by
 obtain⟨ps,g,start,rfl,nd,Bv,Bw,yt,h⟩:=h
 unfold dI
 refine ao λN hN=>?_
 show opt (zC (.str start)) _
 refine ae (z:=aaq start) rfl ?_
 show N [some ⟨0,yl ps g⟩,some ⟨0,.str start⟩,some ⟨1,x9 [(start,none)]⟩,none,none,none,none]
 subst hN
 refine ao λN hN=>?_
 show N [some ⟨0,yl ps g⟩,some ⟨0,.str start⟩,some ⟨1,x9 [(start,none)]⟩,some ⟨1,.lst ([start].map .str)⟩,none,none,none]
 subst hN
 refine ao λN hN=>jZ λC B hC hB=>?_
 have c0:Iv ps g start [(start,none)] [start]:=⟨⟨by simp[yx],λi c hc=>?_,by simp⟩,λy hy=>?_,λy hy=>?_,by simp⟩
 rotate_left
 .cases i with
  |zero=>exact .inl ⟨rfl,by simpa using hc.symm⟩
  |succ i=>simp at hc
 .simp[yx]at hy;subst hy;exact Bv
 .simpa[yx]using hy
 have Sb:∀y∈ps,iN (yl ps g) (.str y)=some (.lst ((g y).map xb)):=λy hy=>by
  show yu _ (aaq y)=_
  have:=bo (f:=id) (g:=λp=>PV.lst ((g p).map xb)) (l:=ps) (a:=y) (by simpa using nd) hy
  exact this
 refine j8 (λk e=>∃cs as v4 v5 v6,e=[some ⟨0,yl ps g⟩,some ⟨0,.str start⟩,some ⟨1,x9 cs⟩,some ⟨1,.lst (as.map .str)⟩,v4,v5,v6]/\Iv ps g start cs as/\(∀y∈yx cs,y∉as->∀q∈g y,q.2∈yx cs)/\k=2*(ps.length - cs.length)+as.length) (k:=2*(ps.length - 1)+1) ?_ ⟨[(start,none)],[start],none,none,none,rfl,c0,λy hy hn=>absurd (by simpa[yx]using hy) hn,rfl⟩
 rintro k e M ⟨cs,as,v4,v5,v6,rfl,ca,cl,rfl⟩ km
 subst hC
 show opt (some (!(as.map PV.str).isEmpty)) _
 refine zB.mpr ?_
 cases hA:as with
 |nil=>
  show N _
  subst hN
  show P (x9 cs)
  exact h cs ca.ok ca.Cd λy hy=>cl y hy (by rw[hA];simp)
 |cons a0 ar=>
 rw[<- hA]
 rw[show (!(List.map PV.str as).isEmpty)=true by rw[hA];rfl,if_pos rfl]
 have QG:0<as.length:=by rw[hA];simp
 obtain⟨here,hh⟩:∃y,as[as.length - 1]?=some y:=⟨_,aaa (by omega)⟩
 have OU:here∈as:=aaI hh
 have Nj:here∈ps:=ca.Cd _ (ca.sub _ OU)
 subst hB
 refine ao λM' NA=>?_
 lia
 have ep:Fy (as.map PV.str) []=some (.str here,(as.dropLast).map .str):=by
  show ((as.map PV.str)[(as.map PV.str).length - 1]?).map _=_
  rw[aad,aai,hh,<- List.map_dropLast];rfl
 refine ae ep ?_
 lia
 subst NA
 refine bg λG B hG hB=>?_
 lia
 refine ae (Sb here Nj) ?_
 show yS G B _ ((g here).map xb) _
 subst hG hB
 have Ht:∀y∈as,y=here\/y∈as.dropLast:=λy hy=>by
  obtain⟨i,hi,rfl⟩:=ace hy
  by_cases e:i=as.length - 1
  .left
   subst e
   rw[aaa hi]at hh
   exact aao hh
  .right
   rw[List.mem_iff_getElem]
   exact⟨i,by simp;omega,by simp⟩
 refine aN (λj e=>∃A8 Fk v5 v6,e=[some ⟨0,yl ps g⟩,some ⟨0,.str start⟩,some ⟨1,x9 A8⟩,some ⟨1,.lst (Fk.map .str)⟩,some ⟨0,.str here⟩,v5,v6]/\Iv ps g start A8 Fk/\here∈yx A8/\(∀y∈yx A8,y≠here->y∉Fk->∀q∈g y,q.2∈yx A8)/\(∀i q,i<j->(g here)[i]?=some q->q.2∈yx A8)/\2*(ps.length - A8.length)+Fk.length<2*(ps.length - cs.length)+as.length) (i:=0)
  ⟨cs,as.dropLast,v5,v6,rfl,⟨ca.ok,ca.Cd,λy hy=>ca.sub y (List.dropLast_subset _ hy),by have:=ca.al;simp;omega⟩,ca.sub _ OU,λy hy yq hn=>cl y hy λz=>(Ht y z).elim yq hn,λi q hi=>absurd hi (by omega),by simp;omega⟩ ?_ ?_
 .rintro j x e M2 hx ⟨A8,Fk,w5,w6,rfl,DY,Cg,LG,seen,ms⟩ k2
  obtain⟨q,hq,rfl⟩:∃q,(g here)[j]?=some q/\x=xb q:=by
   rw[aai]at hx
   cases e:(g here)[j]? with
   |none=>rw[e]at hx;cases hx
   |some q=>rw[e]at hx;exact⟨q,rfl,(aao hx).symm⟩
  have J1:=aaI hq
  have hlen:=bi DY.ok.nd DY.Cd
  have Lx:(yx A8).length=A8.length:=by simp[yx]
  unfold xb
  lia
  refine ae (show Ab (.str q.2) (x9 A8)=_ from ni) ?_
  lia
  by_cases DT:q.2∈yx A8
  .obtain⟨c,_,_,ev⟩:=nU DY.ok.nd DT
   rw[ev]
   simp only[aey,adT,abl,if_false]
   refine k2 _ ⟨A8,Fk,_,_,rfl,DY,Cg,LG,λi r hi hr=>?_,ms⟩
   by_cases ei:i<0+j
   .exact seen i r ei hr
   .have:i=j:=by omega
    subst this
    rw[hq]at hr;cases hr;exact DT
  .rw[qD DT]
   simp only[Option.isSome_none,afx,if_true]
   have xA:A8.length<ps.length:=by
    have:=bi (xs:=q.2::yx A8) (ys:=ps) (List.nodup_cons.mpr ⟨DT,DY.ok.nd⟩) λy hy=>by
     rcases List.mem_cons.mp hy with rfl|hy
     .exact Bw here Nj q J1
     .exact DY.Cd y hy
    simp[yx]at this
    omega
   have Kj:Fk.length<=100000:=by have:=DY.al;omega
   simp only[He]
   lia
   have RI:Br (.xv (A8.map λc=>((aaq c.1:Key),BQ c.2))) (.str q.2) (.tup [.str q.1,.str here])=some (x9 (A8++[(q.2,some (q.1,here))])):=by
    refine(if_pos (by simp;omega)).trans ?_
    show some (PV.xv (zO _ (aaq q.2) _))=_
    rw[hJ (f:=λc:Str×Option (Str×Str)=>c.1) DT]
    unfold x9
    rw[aaH];rfl
   refine ae (show Br (x9 A8) _ _=_ from RI) ?_
   try lia
   refine ae (Ca (by simpa using Kj)) ?_
   have Cn:∀y,y∈yx (A8++[(q.2,some (q.1,here))])↔y∈yx A8\/y=q.2:=λy=>by simp[yx]
   refine k2 _ ⟨A8++[(q.2,some (q.1,here))],Fk++[q.2],some ⟨0,.str q.1⟩,some ⟨0,.str q.2⟩,?_,⟨DY.ok.snoc DT Cg J1,λy hy=>?_,λy hy=>?_,by have:=DY.al;simp;omega⟩,(Cn _).mpr (.inl Cg),λy hy yq hn r hr=>?_,λi r hi hr=>?_,?_⟩
   .rw[aaH];rfl
   .rcases(Cn y).mp hy with z|rfl
    .exact DY.Cd y z
    .exact Bw here Nj q J1
   .rcases List.mem_append.mp hy with z|z
    .exact(Cn y).mpr (.inl (DY.sub y z))
    .simp at z;exact(Cn y).mpr (.inr z)
   .rcases(Cn y).mp hy with z|rfl
    .exact(Cn _).mpr (.inl (LG y z yq (λw=>hn (by simp[w])) r hr))
    .exact absurd (by simp) hn
   .by_cases ei:i<0+j
    .exact(Cn _).mpr (.inl (seen i r ei hr))
    .have:i=j:=by omega
     subst this
     rw[hq]at hr;cases hr;exact(Cn _).mpr (.inr rfl)
   .simp;omega
 .rintro e ⟨A8,Fk,w5,w6,rfl,DY,Cg,LG,seen,ms⟩
  refine km _ _ ms ⟨A8,Fk,_,_,_,rfl,DY,λy hy hn r hr=>?_,rfl⟩
  by_cases e:y=here
  .subst e
   obtain⟨i,hi,rfl⟩:=ace hr
   exact seen i _ (by simp;exact hi) (aaa hi)
  .exact LG y hy e hn r hr
theorem uB(cs:Cs):((cs.map λc=>((aaq c.1:Key),BQ c.2)).map (·.1)).mapM AU=some (yx cs):=by
 induction cs with
 |nil=>rfl
 |cons c cs ih=>
  rw[aas,aas,abq,ih];rfl
theorem mJ(xs:List PV)(P:PV->Prop)(h:dS xs P):Q.run 2 dF xs P:=by
 obtain⟨ps,g,start,rfl,rise,Bv,Bw,yt,h⟩:=h
 unfold dF
 lia
 simp only[x8]
 try lia
 refine⟨ps,g,start,rfl,bU rise,Bv,Bw,by omega,λcs ok Cd cl=>?_⟩
 have hlen:=bi ok.nd Cd
 show ∃ss,_
 refine⟨yx cs,uB cs,by omega,λts up=>?_⟩
 have e:ts=ps.filter (rb g start):=ll (f9 up.2 (up.1.nodup_iff.mpr ok.nd)) (rise.sublist abG) λz=>by
  rw[up.1.mem_iff,ok.iff cl,ad9,xW]
  exact⟨λh=>⟨h.Cd Bv Bw,h⟩,λh=>h.2⟩
 rw[<- e]at h
 exact ae rfl h
theorem nu{L:Str->Str}{p:Str}(nd:ps.Nodup)(h:p∈ps):iN (Cc ps L) (.str p)=some (.str (L p)):=by
 show yu _ (aaq p)=_
 exact bo (f:=id) (g:=λp=>PV.str (L p)) (l:=ps) (a:=p) (by simpa using nd) h
end
theorem CO(ps:List Str)(ts:List tO):iN (eQ ps ts) (.int 1)=some (.tup (ts.map oF)):=av (j:=1) rfl
theorem EJ(ps:List Str)(ts:List tO):iN (eQ ps ts) (.int 0)=some (.tup (ps.map .str)):=av (j:=0) rfl
theorem ia(xs:List PV)(P:PV->Prop)(h:bw xs P):Q.run 1 bR xs P:=by
 obtain⟨ps,ts,rfl,hl,nd,h⟩:=h
 unfold bR
 lia
 simp only[FV]
 lia
 refine ae (CO ps ts) ?_
 lia
 refine dk (done:=[]) tO.nm oF oF nd (λt ht R hR=>?_) (by simp;omega) h
 show opt (iN (oF t) (.int 0)) _
 refine ae (z:=.str t.nm) (av (j:=0) rfl) ?_
 exact hR
theorem pN(xs:List PV)(P:PV->Prop)(h:fZ xs P):Q.run 1 fC xs P:=by
 obtain⟨ps,ts,rfl,hl,nd,h⟩:=h
 unfold fC
 lia
 simp only[FV]
 lia
 refine ae (CO ps ts) ?_
 lia
 refine dk (done:=[]) tO.nm (λt=>.tup [.int t.cost,.str t.nm]) oF nd (λt ht R hR=>?_) (by simp;omega) h
 show opt (iN (oF t) (.int 0)) _
 refine ae (z:=.str t.nm) (av (j:=0) rfl) ?_
 show opt (iN (oF t) (.int 3)) _
 refine ae (z:=.int t.cost) (av (j:=3) rfl) ?_
 show opt (iN (oF t) (.int 0)) _
 refine ae (z:=.str t.nm) (av (j:=0) rfl) ?_
 exact hR
theorem uc{ix:List Nat}(hl:ix.length=us.length)(nd:ix.Nodup)(lt:∀i∈ix,i<us.length):(ix.map λi=>us.getD i t0).Perm us:=by
 have h1:ix.Perm (aaR us.length):=by
  refine(adq nd adV).mpr λi=>?_
  rw[List.mem_range]
  refine⟨lt i,λhi=>?_⟩
  have:=bi nd (λx hx=>List.mem_range.mpr (lt x hx))
  exact afw λhn=>by
   have h2:(i::ix).Nodup:=List.nodup_cons.mpr ⟨hn,nd⟩
   have h3:=bi (ys:=aaR us.length) h2 (λx hx=>by
    rcases List.mem_cons.mp hx with rfl|hx
    .exact List.mem_range.mpr hi
    .exact List.mem_range.mpr (lt x hx))
   simp at h3;omega
 have h2:((aaR us.length).map λi=>us.getD i t0)=us:=by
  apply ab7
  intro i
  rw[aai]
  by_cases hi:i<us.length
  .rw[abT hi];simp[hi]
  .rw[aan (by simpa using hi),aan (by omega)];rfl
 have h3:=h1.map λi=>us.getD i t0
 rw[h2]at h3
 exact h3
theorem tY{i j:Nat}(hi:i<us.length)(hj:j<us.length):Dq (us.map λu=>(u.cost,u.nm)) i j=true↔zk (us.getD i t0) (us.getD j t0):=by
 have g:∀i,i<us.length->(us.map λu=>(u.cost,u.nm)).getD i (0,⟨#[]⟩)=((us.getD i t0).cost,(us.getD i t0).nm):=λi hi=>by
  rw[aag,aai,aaa hi,aag,aaa hi];rfl
 unfold Dq zk
 rw[g i hi,g j hj,decide_eq_true_eq]
theorem iU{i:Nat}(hi:i<us.length):(us.map tO.nm).getD i ⟨#[]⟩=(us.getD i t0).nm:=by
 rw[aag,aai,aaa hi,aag,aaa hi];rfl
theorem gB(T:Addr)(c:PV)(xs:List PV)(P:PV->PV->Prop)(h:bP T c xs P):Q.B0 3 (bN T) c xs P:=by
 obtain⟨rfl,ps,ts,us,rfl,hl,nd,zS,PC,Bw,h⟩:=h
 unfold bN
 simp only[B0,EY,Ff]
 refine ao λN hN=>?_
 lia
 refine⟨ps,ts,rfl,hl,nd,?_⟩
 lia
 subst hN
 simp only[xF,CZ,eV,acf,acN]
 refine⟨us.map tO.nm,us.map λu=>(u.cost,u.nm),(by first|trivial|rfl),dv _,by simpa using zS,by simp,by rw[aaw];exact PC,λm hm=>?_,λix ok=>?_⟩
 .rw[aad]at hm
  have hu:us.getD m t0∈us:=by rw[aag,aaa hm];exact abg _
  have e:(us.map λu=>(u.cost,u.nm)).getD m k0=((us.getD m t0).cost,(us.getD m t0).nm):=by
   rw[aag,aai,aaa hm,aag,aaa hm];rfl
  rw[e,iU hm]
  exact bo (f:=tO.nm) (g:=λt=>PV.tup [.int t.cost,.str t.nm]) nd (Bw _ hu)
 .have lt:∀i∈ix,i<us.length:=λi hi=>by have:=ok.lt i hi;rwa [aad]at this
  have e:(ix.map λm=>PV.str ((us.map tO.nm).getD m ⟨#[]⟩))=((ix.map λi=>us.getD i t0).map tO.nm).map .str:=by
   rw[aaw,aaw]
   exact aaK λi hi=>by show PV.str _=PV.str _;rw[iU (lt i hi)]
  rw[e]
  refine h _ (uc (by have:=ok.len;rwa [aad]at this) ok.nd lt) ?_
  refine List.pairwise_map.mpr (abL (λhx hy hq=>?_) ok.up)
  exact(tY (lt _ hx) (lt _ hy)).mp hq
theorem lF(T:Addr)(c:PV)(xs:List PV)(P:PV->PV->Prop)(h:cf T c xs P):Q.B0 1 (cU T) c xs P:=by
 obtain⟨rfl,ps,ts,rfl,ok,hp,ht,h⟩:=h
 unfold cU
 have hf:=aa9 (xh ps) ts
 simp only[B0,EY,Ff]
 lia
 simp only[zh]
 lia
 refine⟨ps,ts,rfl,by omega,?_⟩
 lia
 refine⟨rfl,ps,ts,ts.filter (xh ps),rfl,by omega,bu ok,by omega,rD ok,λu hu=>(List.mem_filter.mp hu).1,λvs pm up=>?_⟩
 lia
 refine⟨ps,ts,vs,rfl,ok,hp,ht,pm,up,?_⟩
 exact h
theorem nq(a b:Str):CQ (.str a) (.str b)=some (.bl (!decide (a=b))):=by
 show some (PV.bl (!decide (V.str a=V.str b)))=_
 congr 3
 simp
theorem ki(ok:zq ps ts):(xK ps ts).Pairwise xq:=ok.names.sublist ((List.filter_sublist.trans abG).map _)
theorem tV{vs:List tO}{gs:List Str}(ok:zq ps ts)(pm:vs.Perm (ts.filter (xh ps)))(e:l=(vs.filter (yZ ps (ts.filter (xh ps)))).map tO.nm)(up:Ba l gs):gs=xK ps ts:=by
 have p:gs.Perm (xK ps ts):=by
  refine up.1.trans ?_
  rw[e]
  exact(pm.filter _).map _
 exact m4 p (f9 up.2 (p.nodup_iff.mpr (bU (ki ok)))) (ki ok)
theorem gA(xs:List PV)(P:PV->Prop)(h:bO xs P):Q.run 9 bM xs P:=by
 obtain⟨ps,ts,vs,rfl,ok,hp,ht,pm,up,h⟩:=h
 have pn:=bU ok.rise
 have tn:=bu ok
 have vl:vs.length<=60:=by rw[pm.length_eq];exact aaX (aa9 _ _) ht
 have oo:∀u∈ts.filter (xh ps),xh ps u=true:=λu hu=>(List.mem_filter.mp hu).2
 have vo:∀u∈vs,xh ps u=true:=λu hu=>oo u (pm.mem_iff.mp hu)
 have vt:∀u∈vs,u∈ts:=λu hu=>(List.mem_filter.mp (pm.mem_iff.mp hu)).1
 unfold bM
 refine ao λN hN=>?_
 lia
 refine⟨ps,ts,rfl,by omega,tn,?_⟩
 lia
 subst hN
 refine ao λN hN=>?_
 lia
 simp only[FV]
 lia
 refine ae (EJ ps ts) ?_
 lia
 refine dk (done:=[]) (α:=Str) (λp=>p) PV.str PV.str (by simpa using pn) (λp hp R hR=>hR) (by simp;omega) ?_
 show N [some ⟨0,eQ ps ts⟩,some ⟨0,.lst ((vs.map tO.nm).map .str)⟩,some ⟨0,.xv (ts.map λt=>(aaq t.nm,oF t))⟩,some ⟨1,Cc ps id⟩,none,none,none,none,none]
 subst hN
 refine ao λN hN=>?_
 lia
 subst hN
 refine ao λN hN=>bg λG B hG hB=>?_
 lia
 refine aN (λj e=>∃(g:Str->Str) (v5 v6 v7 v8:Option Sl),e=[some ⟨0,eQ ps ts⟩,some ⟨0,.lst ((vs.map tO.nm).map .str)⟩,some ⟨0,.xv (ts.map λt=>(aaq t.nm,oF t))⟩,some ⟨1,Cc ps g⟩,some ⟨1,.lst ((((vs.take j).filter (yZ ps (ts.filter (xh ps)))).map tO.nm).map .str)⟩,v5,v6,v7,v8]/\Kr ps (vs.take j) g) (i:=0)
  ⟨id,none,none,none,none,rfl,Kr.nil⟩ ?_ ?_
 case refine_2=>
  rintro e ⟨g,v5,v6,v7,v8,rfl,hk⟩
  show N _
  rw[aad,aad,aaV,abd]
  subst hN
  simp only[xF,zi,aS]
  lia
  simp only[x8]
  lia
  refine⟨_,dv _,?_,λgs us=>ae rfl ?_⟩
  .rw[aad]
   have:=aa9 (yZ ps (ts.filter (xh ps))) vs
   omega
  .rw[tV ok pm rfl us]
   exact h
 rintro j x e M hx ⟨g,v5,v6,v7,v8,rfl,hk⟩ k
 rw[aaV]at k hk ⊢
 have hj:j<vs.length:=by have:=(List.getElem?_eq_some_iff.mp hx).1;simpa using this
 obtain⟨t,et⟩:∃t,vs[j]?=some t:=⟨_,aaa hj⟩
 have ex:x=.str t.nm:=by
  rw[aai,aai,et]at hx
  exact(aao hx).symm
 have tv:t∈vs:=aaI et
 have ot:=vo t tv
 obtain⟨o1,o2⟩:=yy.mp ot
 have Pa:vs.take (j+1)=vs.take j++[t]:=by rw[abB,et];rfl
 have oX:∀u∈vs.take j,xh ps u=true:=λu hu=>vo u (abD hu)
 have hm:∀u,u∈vs.take j↔u∈below (ts.filter (xh ps)) t:=λu=>by
  rw[xI,<- pm.mem_iff]
  have OG:=List.pairwise_iff_getElem.mp up
  have NM:vs[j]=t:=by rw[aaa hj]at et;exact aao et
  constructor
  .intro hu
   obtain⟨i,hi,e⟩:=List.mem_iff_getElem.mp hu
   rw[List.getElem_take]at e
   have Ae:i<j:=by rw[aa2]at hi;omega
   refine⟨abD hu,?_⟩
   rw[<- e,<- NM]
   exact OG i j (by omega) hj Ae
  .rintro⟨hu,hc⟩
   obtain⟨i,hi,e⟩:=List.mem_iff_getElem.mp hu
   rcases adI i j with z|z|z
   .rw[List.mem_iff_getElem]
    exact⟨i,by rw[aa2];omega,by rw[List.getElem_take];exact e⟩
   .subst z
    rw[NM]at e;subst e
    exact absurd hc (gv _)
   .have:=OG j i hj hi z
    rw[NM,e]at this
    exact absurd hc (wx this)
 have mn:=Kr.min oX oo ot hk hm
 have st:=Kr.step oX ot pn hk
 rw[<- Pa]at st
 subst ex hG hB
 show wM _ _ _ [some ⟨0,eQ ps ts⟩,some ⟨0,.lst ((vs.map tO.nm).map .str)⟩,some ⟨0,.xv (ts.map λt=>(aaq t.nm,oF t))⟩,some ⟨1,Cc ps g⟩,some ⟨1,.lst ((((vs.take j).filter (yZ ps (ts.filter (xh ps)))).map tO.nm).map .str)⟩,some ⟨0,.str t.nm⟩,v6,v7,v8]
 refine ao λN' Bm=>?_
 lia
 refine ae (z:=oF t) (bo (f:=tO.nm) (g:=oF) tn (vt t tv)) ?_
 show N' _
 subst Bm
 refine ao λN' Bm=>?_
 lia
 simp only[Cm]
 lia
 refine ae (z:=PV.str t.one) (av (j:=1) rfl) ?_
 try lia
 refine ae (nu pn o1) ?_
 try lia
 refine ae (z:=PV.str t.wN) (av (j:=2) rfl) ?_
 try lia
 refine ae (nu pn o2) ?_
 try lia
 show N' _
 subst Bm
 refine b7 λA1 B1 FN CU=>?_
 lia
 refine ae (nq _ _) ?_
 lia
 have fe:(vs.take (j+1)).filter (yZ ps (ts.filter (xh ps)))=(vs.take j).filter (yZ ps (ts.filter (xh ps)))++(if yZ ps (ts.filter (xh ps)) t=true then [t]else []):=by
  rw[Pa,List.filter_append]
  congr 1
  rw[ac8,List.filter_nil]
 have kl:((vs.take j).filter (yZ ps (ts.filter (xh ps)))).length<=60:=aaX (aa9 _ _) (by rw[aa2];omega)
 by_cases hg:g t.one=g t.wN
 .rw[decide_eq_true hg,adT,if_neg (by simp)]
  subst CU
  refine k _ ⟨g,some ⟨0,.str t.nm⟩,some ⟨0,oF t⟩,some ⟨0,.str (g t.one)⟩,some ⟨0,.str (g t.wN)⟩,?_,st.1 hg⟩
  rw[fe,if_neg (λz=>(mn.mpr (zc.mp z)) hg),abh]
 .rw[decide_eq_false hg,afx,if_pos rfl]
  subst FN
  refine ao λN' Bm=>?_
  lia
  refine ae (Ca (by simp;omega)) ?_
  show N' [some ⟨0,eQ ps ts⟩,some ⟨0,.lst ((vs.map tO.nm).map .str)⟩,some ⟨0,.xv (ts.map λt=>(aaq t.nm,oF t))⟩,some ⟨1,Cc ps g⟩,some ⟨1,.lst ((((vs.take j).filter (yZ ps (ts.filter (xh ps)))).map tO.nm).map .str++[.str t.nm])⟩,some ⟨0,.str t.nm⟩,some ⟨0,oF t⟩,some ⟨0,.str (g t.one)⟩,some ⟨0,.str (g t.wN)⟩]
  subst Bm
  show zV _ _ _ _ _ _ ((ps.map λp=>((aaq p:Key),PV.str (g p))).map B8) _ []
  rw[aaw]
  refine dk (done:=[]) (α:=Str) (λp=>p) (λp=>PV.str (if g p=g t.wN then g t.one else g p)) (B8 ∘ λp=>((aaq p:Key),PV.str (g p))) (by simpa using pn) (λp hp R hR=>?_) (by simp;omega) ?_
  .refine⟨rfl,?_⟩
   show opt (yM (.str (g p)) (.str (g t.wN))) _
   refine ae (eq_str _ _) ?_
   show opt (some (g p==g t.wN)) _
   refine zB.mpr ?_
   by_cases z:g p=g t.wN
   .rw[if_pos z]at hR
    rw[beq_iff_eq.mpr z]
    exact hR
   .rw[if_neg z]at hR
    rw[beq_eq_false_iff_ne.mpr z]
    exact hR
  .refine k _ ⟨λp=>if g p=g t.wN then g t.one else g p,some ⟨0,.str t.nm⟩,some ⟨0,oF t⟩,some ⟨0,.str (g t.one)⟩,some ⟨0,.str (g t.wN)⟩,?_,st.2 hg⟩
   have e:(((vs.take (j+1)).filter (yZ ps (ts.filter (xh ps)))).map tO.nm).map PV.str=(((vs.take j).filter (yZ ps (ts.filter (xh ps)))).map tO.nm).map PV.str++[.str t.nm]:=by
    rw[fe,if_pos (zc.mpr (mn.mp hg)),aaH,aaH];rfl
   rw[e]
   rfl
section
variable{one wN:Str}{ns:List Str}
theorem rS:BI (.str x) (.lst (ns.map .str))=some (.bl (decide (x∈ns))):=oM
theorem rm(xs:List PV)(P:PV->Prop)(h:iy xs P):Q.run 2 gU xs P:=by
 obtain⟨ps,ns,ts,hx,hl,BJ,h⟩:=h
 obtain⟨nv,rfl,Bw⟩:∃nv,xs=[eQ ps ts,nv]/\∀x:Str,BI (.str x) nv=some (.bl (decide (x∈ns))):=by
  rcases hx with rfl|rfl
  .exact⟨_,rfl,λx=>fR⟩
  .exact⟨_,rfl,λx=>rS⟩
 unfold gU
 have e0:iN (eQ ps ts) (.int 0)=some (.tup (ps.map .str)):=av (j:=0) rfl
 have e1:iN (eQ ps ts) (.int 1)=some (.tup (ts.map oF)):=av (j:=1) rfl
 lia
 refine ae e0 (ae e1 ?_)
 lia
 refine ee (λx=>match x with|.tup [.str a,.str b,.str c,.int d]=>if yY ns ⟨a,b,c,d⟩=true then some (.tup [.str a,.str b,.str c,.int d])else none|_=>none) (λx hx R hR=>?_) (by simp;omega) ?_
 .obtain⟨t,ht,rfl⟩:=List.mem_map.mp hx
  refine ae (z:=.str t.nm) (av (j:=0) rfl) (ae (Bw _) ?_)
  replace hR:R (if yY ns t=true then some (oF t)else none) [some ⟨0,eQ ps ts⟩,some ⟨0,nv⟩]:=hR
  show opt (some (yY ns t)) _
  rw[dY]
  cases e:yY ns t with
  |false=>rw[e]at hR;exact hR
  |true=>rw[e]at hR;exact hR
 .rw[abe,ady]
  have e:ts.filterMap ((λx=>match x with|PV.tup [.str a,.str b,.str c,.int d]=>if yY ns ⟨a,b,c,d⟩=true then some (.tup [.str a,.str b,.str c,.int d])else none|_=>none) ∘ oF)=(ts.filter (yY ns)).map oF:=b9 (yY ns) oF ts
  rw[e]
  exact ae rfl h
end
variable{cs:Cs}
theorem sK(nd:(yx cs).Nodup){i j:Nat}{v w:Option (Str×Str)}(h1:cs[i]?=some (a,v))(h2:cs[j]?=some (a,w)):i=j:=by
 have g1:(yx cs)[i]?=some a:=by rw[aai,h1];rfl
 have g2:(yx cs)[j]?=some a:=by rw[aai,h2];rfl
 obtain⟨i1,i2⟩:=List.getElem?_eq_some_iff.mp g1
 obtain⟨j1,j2⟩:=List.getElem?_eq_some_iff.mp g2
 exact(abx nd).mp (i2.trans j2.symm)
theorem wK(nd:(yx cs).Nodup){i:Nat}{v:Option (Str×Str)}(h:cs[i]?=some (a,v)):iN (x9 cs) (.str a)=some (BQ v):=by
 have:=bo (f:=λc:Str×Option (Str×Str)=>c.1) (g:=λc=>BQ c.2) (l:=cs) (a:=(a,v)) nd (aaI h)
 exact this
theorem sJ(h:y∈yx cs):∃(i:Nat) (v:Option (Str×Str)),cs[i]?=some (y,v):=by
 obtain⟨c,hc,rfl⟩:=List.mem_map.mp h
 obtain⟨i,hi,e⟩:=List.mem_iff_getElem.mp hc
 exact⟨i,c.2,by rw[aaa hi,e]⟩
theorem tD(xs:List PV)(P:PV->Prop)(h:eN xs P):Q.run 8 jh xs P:=by
 obtain⟨ps,ts,fs,one,wN,rfl,nt,tn,fl,h1,h2,hN,hW⟩:=h
 have snd:((zZ ps fs ts).map tO.nm).Nodup:=tn.sublist ((List.filter_sublist.trans abG:(zZ ps fs ts).Sublist ts).map _)
 unfold jh
 refine ao λN Bm=>?_
 lia
 refine⟨ps,fs,ts,.inl rfl,nt.tl,fl,?_⟩
 refine⟨ps,ts.filter (yY fs),rfl,⟨nt.rise,λt ht=>nt.ne t (List.mem_filter.mp ht).1,nt.pl,aaX (aa9 _ _) nt.tl⟩,?_⟩
 refine⟨ps,xj ps (ts.filter (yY fs)),wN,rfl,bU nt.rise,h2,λp hp q hq=>gy q hq,by have:=nt.pl;omega,λcs ok sub cl=>?_⟩
 have R9:cs.length<=60:=by
  have:=bi ok.nd sub
  rw[aad]at this
  have:=nt.pl
  omega
 subst Bm
 refine ao λN Bm=>?_
 lia
 refine ae ni ?_
 by_cases hc:one∈yx cs
 case neg=>
  rw[qD hc]
  lia
  exact hN λr=>hc ((ok.iff cl).mpr r)
 obtain⟨c,_,_,ec⟩:=nU ok.nd hc
 rw[ec]
 lia
 show N _
 subst Bm
 refine ao λN Bm=>?_
 lia
 subst Bm
 refine ao λN Bm=>?_
 lia
 subst Bm
 refine ao λN Bm=>jZ λC B hC hB=>?_
 obtain⟨k0,w0,OQ⟩:=sJ hc
 refine j8 (λk e=>∃(ns:List Str) (y:Str) (w:Option (Str×Str)) (v7:Option Sl),e=[some ⟨0,eQ ps ts⟩,some ⟨0,.tup (fs.map .str)⟩,some ⟨0,.str one⟩,some ⟨0,.str wN⟩,some ⟨0,x9 cs⟩,some ⟨1,.lst (ns.map .str)⟩,some ⟨0,.str y⟩,v7]/\cs[k]?=some (y,w)/\Wk (zZ ps fs ts) one ns y/\ns.Nodup/\ns.length+k<=60/\∀n∈ns,∃i,k<i/\∃y' x',cs[i]?=some (y',some (n,x'))) ?_ (k:=k0)
  ⟨[],one,w0,none,rfl,OQ,rfl,by simp,by have:=(List.getElem?_eq_some_iff.mp OQ).1;simp;omega,by simp⟩
 rintro k e M ⟨ns,y,w,v7,rfl,hk,hw,nd,hl,hu⟩ km
 subst hC
 lia
 refine ae (nq _ _) ?_
 lia
 by_cases e:y=wN
 .rw[decide_eq_true e]
  lia
  show N _
  subst Bm
  lia
  refine ae rfl (hW ns (e ▸ hw) nd (by omega))
 rw[decide_eq_false e]
 lia
 rcases ok.tree k _ hk with ⟨rfl,e2⟩|⟨_,nm,x,e2,e3,e4⟩
 .cases e2;exact absurd rfl e
 have e2:w=some (nm,x):=e2
 subst e2
 obtain⟨j,w',hj⟩:=sJ e4
 have AW:j<k:=by
  have:=(List.getElem?_eq_some_iff.mp hj).1
  rw[aa2]at this;omega
 have AD:cs[j]?=some (x,w'):=by rw[List.getElem?_take_of_lt AW]at hj;exact hj
 obtain⟨t,ht,en,q⟩:=((lW ps fs ts).mem _ _ _).mp e3
 have Qj:nm∉ns:=λz=>by
  obtain⟨i,hi,y',x',hy⟩:=hu nm z
  rcases ok.tree i _ hy with ⟨rfl,_⟩|⟨_,Sz,x2,g2,g3,g4⟩
  .exact absurd hi (Nat.not_lt_zero _)
  .cases g2
   obtain⟨t',DQ,RJ,q'⟩:=((lW ps fs ts).mem _ _ _).mp g3
   have:t=t':=cE snd ht DQ (en.symm.trans RJ)
   subst this
   rcases Ends.two q q' with ⟨_,z2⟩|⟨_,z2⟩
   .have z2:y'=y:=z2
    subst z2
    have:=sK ok.nd hk hy;omega
   .have z2:y'=x:=z2
    subst z2
    have:=sK ok.nd AD hy;omega
 subst hB
 refine ao λM' NA=>?_
 lia
 refine ae (wK ok.nd hk) ⟨rfl,?_⟩
 show M' [some ⟨0,eQ ps ts⟩,some ⟨0,.tup (fs.map .str)⟩,some ⟨0,.str one⟩,some ⟨0,.str wN⟩,some ⟨0,x9 cs⟩,some ⟨1,.lst (ns.map .str)⟩,some ⟨0,.str x⟩,some ⟨0,.str nm⟩]
 subst NA
 lia
 refine ae (Ca (by rw[aad];omega)) ?_
 refine km j _ AW ⟨ns++[nm],x,w',some ⟨0,.str nm⟩,by rw[aaH];rfl,AD,hw.app ⟨t,ht,en.symm,x,Ends.sym q,rfl⟩,?_,by simp;omega,λn hn=>?_⟩
 .rw[ab3]
  exact⟨nd,by simp,λa ha b hb=>by simp at hb;subst hb;exact λe=>Qj (e ▸ ha)⟩
 .rcases List.mem_append.mp hn with z|z
  .obtain⟨i,hi,r⟩:=hu n z
   exact⟨i,by omega,r⟩
  .simp at z;subst z
   exact⟨k,AW,y,x,hk⟩
variable{S:List Str}
theorem A9{k:Str}:y∈zy S k↔y∈S\/y=k:=by
 unfold zy
 split
 .rename_i h
  exact⟨.inl,λz=>z.elim id λe=>e ▸ h⟩
 .simp
theorem mF{k:Str}(h:S.Nodup):(zy S k).Nodup:=by
 unfold zy
 split
 .exact h
 .rename_i hk
  rw[ab3]
  exact⟨h,by simp,λa ha b hb=>by simp at hb;subst hb;exact λe=>hk (e ▸ ha)⟩
theorem tS:Ab (.str y) (.set S)=some (.bl (!decide (y∈S))):=rfl
theorem ou(xs:List PV)(P:PV->Prop)(h:cN xs P):Q.run 7 eU xs P:=by
 obtain⟨ps,ts,rfl,ok,h⟩:=h
 have rise:=ok.rise
 have e0:iN (eQ ps ts) (.int 0)=some (.tup (ps.map .str)):=av (j:=0) rfl
 have Cd:∀p∈ps,∀q∈xj ps ts p,q.2∈ps:=λp _=>gy
 unfold eU
 refine ao λN hN=>?_
 lia
 refine⟨ps,ts,rfl,ok,?_⟩
 revert Cd h
 generalize xj ps ts=g
 intro h Cd
 subst hN
 refine ao λN hN=>?_
 show N [some ⟨0,eQ ps ts⟩,some ⟨0,yl ps g⟩,some ⟨1,.set []⟩,none,none,none,none]
 subst hN
 refine ao λN hN=>?_
 show N [some ⟨0,eQ ps ts⟩,some ⟨0,yl ps g⟩,some ⟨1,.set []⟩,some ⟨1,.lst []⟩,none,none,none]
 subst hN
 refine ao λN hN=>bg λG B hG hB=>?_
 lia
 refine ae e0 ?_
 show yS G B _ (ps.map .str) _
 refine aN (λi e=>∃(S:List Str) (v4 v5 v6:Option Sl),e=[some ⟨0,eQ ps ts⟩,some ⟨0,yl ps g⟩,some ⟨1,.set S⟩,some ⟨1,.lst ((((ps.take i).filter (root ps g)).map λs=>ps.filter (rb g s)).map λq=>.tup (q.map .str))⟩,v4,v5,v6]/\S.Nodup/\(∀y∈S,y∈ps)/\(∀y,y∈S↔∃p∈ps.take i,xP g p y)) (i:=0)
  ⟨[],none,none,none,rfl,by simp,by simp,λy=>by simp⟩ ?_ ?_
 case refine_2=>
  rintro e ⟨S,v4,v5,v6,rfl,_⟩
  show N _
  rw[aad,aaV,abd]
  subst hN
  exact ae rfl h
 rintro i x e M hx ⟨S,v4,v5,v6,rfl,Oy,E9,hS⟩ k
 rw[aaV]at k hS ⊢
 have hit:i<ps.length:=by have:=(List.getElem?_eq_some_iff.mp hx).1;rwa [aad]at this
 have ex:x=.str ps[i]:=by
  rw[aai,aaa hit]at hx
  exact(aao hx).symm
 subst ex hG hB
 have fs:=gP (f:=root ps g) hit
 have before:∀p∈ps,xq p ps[i]↔p∈ps.take i:=λp hp=>by
  constructor
  .intro xA
   obtain⟨j,hj,rfl⟩:=ace hp
   rcases adI j i with z|z|z
   .exact List.mem_take_iff_getElem.mpr ⟨j,by omega,rfl⟩
   .subst z;exact absurd xA (cn _)
   .exact absurd xA (lQ (List.pairwise_iff_getElem.mp rise i j hit hj z))
  .intro hm
   obtain⟨j,hj,rfl⟩:=List.mem_take_iff_getElem.mp hm
   exact List.pairwise_iff_getElem.mp rise j i (by omega) hit (by omega)
 have rt:root ps g ps[i]=!decide (ps[i]∈S):=by
  rw[aaY,AK,Bool.not_eq_true',decide_eq_false_iff_not]
  constructor
  .intro h e
   obtain⟨p,hp,hr⟩:=(hS _).mp e
   have OH:=abD hp
   exact absurd ((before p OH).mpr hp) (h p OH hr)
  .intro h p hp hr xA
   exact h ((hS _).mpr ⟨p,(before p hp).mp xA,hr⟩)
 have tk:∀p,p∈ps.take (i+1)↔p∈ps.take i\/p=ps[i]:=λp=>by
  rw[abB,aaa hit,ab4];simp
 show Az _ _ _ _ [some ⟨0,eQ ps ts⟩,some ⟨0,yl ps g⟩,some ⟨1,.set S⟩,some ⟨1,.lst _⟩,some ⟨0,.str ps[i]⟩,v5,v6]
 refine b7 λA1 B1 FN CU=>?_
 lia
 refine ae tS ?_
 lia
 by_cases eS:ps[i]∈S
 .have e:(!decide (ps[i]∈S))=false:=by simp[eS]
  rw[e]at rt
  simp only[e,abl,if_false]
  subst CU
  refine k _ ⟨S,some ⟨0,.str ps[i]⟩,v5,v6,?_,Oy,E9,λy=>?_⟩
  .rw[fs,rt];simp
  .rw[hS y]
   constructor
   .rintro⟨p,hp,hr⟩;exact⟨p,(tk p).mpr (.inl hp),hr⟩
   .rintro⟨p,hp,hr⟩
    rcases(tk p).mp hp with hp|rfl
    .exact⟨p,hp,hr⟩
    .obtain⟨p',M5,QD⟩:=(hS _).mp eS
     exact⟨p',M5,xP.trans QD hr⟩
 .have e:(!decide (ps[i]∈S))=true:=by simp[eS]
  rw[e]at rt
  simp only[e,if_true]
  subst FN
  refine ao λN2 Nz=>?_
  lia
  refine⟨ps,g,ps[i],rfl,rise,abg _,Cd,ok.pl,?_⟩
  lia
  subst Nz
  refine ao λN2 Nz=>bg λG B hG hB=>?_
  lia
  subst hG hB
  refine aN (λj e=>∃(S':List Str) (v6:Option Sl),e=[some ⟨0,eQ ps ts⟩,some ⟨0,yl ps g⟩,some ⟨1,.set S'⟩,some ⟨1,.lst ((((ps.take i).filter (root ps g)).map λs=>ps.filter (rb g s)).map λq=>.tup (q.map .str))⟩,some ⟨0,.str ps[i]⟩,some ⟨0,.tup ((ps.filter (rb g ps[i])).map .str)⟩,v6]/\S'.Nodup/\(∀y∈S',y∈ps)/\(∀y,y∈S'↔y∈S\/y∈(ps.filter (rb g ps[i])).take j)) (i:=0)
   ⟨S,v6,rfl,Oy,E9,λy=>by simp⟩ ?_ ?_
  .rintro j x e M2 hx ⟨S',w6,rfl,Ld,Lh,HU⟩ k2
   rw[aaV]at k2 HU
   have hj:j<(ps.filter (rb g ps[i])).length:=by have:=(List.getElem?_eq_some_iff.mp hx).1;rwa [aad]at this
   have ex:x=.str (ps.filter (rb g ps[i]))[j]:=by
    rw[aai,aaa hj]at hx
    exact(aao hx).symm
   subst ex
   have hlen:=bi Ld Lh
   refine⟨trivial,by have:=ok.pl;omega,k2 _ ⟨zy S' (ps.filter (rb g ps[i]))[j],_,rfl,mF Ld,λy hy=>?_,λy=>?_⟩⟩
   .rcases A9.mp hy with z|rfl
    .exact Lh y z
    .exact(List.mem_filter.mp (abg hj)).1
   .rw[A9,HU y,abB,aaa hj,ab4]
    simp only[adu,adw]
    exact or_assoc
  .rintro e ⟨S',w6,rfl,Ld,Lh,HU⟩
   rw[aaV,aad,abd]at HU
   show N2 _
   subst Nz
   lia
   refine ae (Ca (by simp;have:=aa9 (root ps g) (ps.take i);simp at this;have:=ok.pl;omega)) ?_
   refine k _ ⟨S',some ⟨0,.str ps[i]⟩,some ⟨0,.tup ((ps.filter (rb g ps[i])).map .str)⟩,w6,?_,Ld,Lh,λy=>?_⟩
   .rw[fs,rt];simp
   .rw[HU y,hS y]
    constructor
    .rintro(⟨p,hp,hr⟩|hy)
     .exact⟨p,(tk p).mpr (.inl hp),hr⟩
     .exact⟨ps[i],(tk _).mpr (.inr rfl),xW.mp (List.mem_filter.mp hy).2⟩
    .rintro⟨p,hp,hr⟩
     rcases(tk p).mp hp with hp|rfl
     .exact .inl ⟨p,hp,hr⟩
     .exact .inr (List.mem_filter.mpr ⟨hr.Cd (abg _) Cd,xW.mpr hr⟩)
theorem dA:∀ns:List Int,(ns.map PV.int).mapM x6=some ns
 |[]=>rfl
 |n::ns=>by rw[aas,abq,dA ns];rfl
theorem qO(ns:List Int):De [.lst (ns.map .int)]=some (.int ns.sum):=by
 show ((ns.map PV.int).mapM x6).map _=_
 rw[dA];rfl
theorem mL(xs:List PV)(P:PV->Prop)(h:cv xs P):Q.run 3 dH xs P:=by
 obtain⟨ps,ts,us,rfl,hl,SE,nd,Bw,h⟩:=h
 unfold dH
 refine ao λN hN=>?_
 lia
 refine⟨ps,ts,rfl,hl,nd,?_⟩
 lia
 subst hN
 lia
 have fc:∀u∈us,ts.find? (λt=>decide (t.nm=u.nm))=some u:=λu hu=>by
  cases e:ts.find? (λt=>decide (t.nm=u.nm))with
  |none=>
   rw[List.find?_eq_none]at e
   exact absurd (decide_eq_true rfl) (e u (Bw u hu))
  |some t=>
   have h1:=adB e
   have h2:=afm e
   have h2:t.nm=u.nm:=by simpa using h2
   rw[cE nd h1 (Bw u hu) h2]
 refine bv (λx=>match x with|.str n=>.int ((ts.find? λt=>decide (t.nm=n)).getD t0).cost|_=>.nE) (λx hx R hR=>?_) (by simp;omega) ?_
 .obtain⟨n,hn,rfl⟩:=List.mem_map.mp hx
  obtain⟨u,hu,rfl⟩:=List.mem_map.mp hn
  dsimp only at hR
  rw[fc u hu]at hR
  show opt (iN (.xv (ts.map λt=>(aaq t.nm,oF t))) (.str u.nm)) _
  refine ae (z:=oF u) (bo (f:=tO.nm) (g:=oF) nd (Bw u hu)) ?_
  show opt (iN (oF u) (.int 3)) _
  refine ae (z:=PV.int u.cost) (av (j:=3) rfl) ?_
  exact hR
 .rw[abe,aaw,aaw]
  have e:us.map (((λx=>match x with|PV.str n=>PV.int ((ts.find? λt=>decide (t.nm=n)).getD t0).cost|_=>.nE) ∘ PV.str) ∘ tO.nm)=(us.map tO.cost).map PV.int:=by
   rw[aaw]
   refine aaK λu hu=>?_
   show PV.int _=PV.int _
   rw[fc u hu];rfl
  rw[e]
  exact ae (qO _) h
def Gd(ps:List Str):PV->Option PV
 |.tup [.str a,.str b,.str c,.int d]=>if (!xh ps ⟨a,b,c,d⟩)=true then some (.str a)else none
 |_=>none
theorem mI(xs:List PV)(P:PV->Prop)(h:cu xs P):Q.run 1 dE xs P:=by
 obtain⟨ps,ts,rfl,hl,h⟩:=h
 unfold dE
 lia
 refine ae (CO ps ts) ?_
 lia
 refine ee (Gd ps) (λx hx R hR=>?_) (by simp;omega) ?_
 .obtain⟨t,ht,rfl⟩:=List.mem_map.mp hx
  replace hR:R (if (!xh ps t)=true then some (.str t.nm)else none) _:=hR
  refine⟨ps,ts,t,rfl,?_⟩
  show opt (some (xh ps t)) _
  rw[dY]
  cases e:xh ps t with
  |true=>rw[e,if_neg (by simp)]at hR;exact hR
  |false=>
   rw[e,if_pos (by simp)]at hR
   exact ae (z:=.str t.nm) (av (j:=0) rfl) hR
 rw[abe,ady]
 have e:ts.filterMap (Gd ps ∘ oF)=(ts.filter λt=>!xh ps t).map λt=>PV.str t.nm:=b9 (λt=>!xh ps t) (λt=>PV.str t.nm) ts
 rw[e]
 refine ae rfl ?_
 rw[aaw]at h
 exact h
theorem iB(nd:A.Nodup)(h:x∈A):iN (xB A f) (.str x)=some (.str (f x)):=by
 show yu _ (aaq x)=_
 exact bo (f:=id) (g:=λp=>PV.str (f p)) (l:=A) (a:=x) (by simpa using nd) h
theorem uS{gs:List Str}(up:Ba [f t.one,f t.wN] gs):gs=[(rn f h t).one,(rn f h t).wN]:=by
 obtain⟨p,s⟩:=up
 have l:=p.length_eq
 match gs,l with
 |[a,b],_=>
  have ha:a=f t.one\/a=f t.wN:=by simpa using p.mem_iff.mp (show a∈[a,b]by simp)
  have n:¬ xq b a:=(List.pairwise_cons.mp s).1 b (by simp)
  show [a,b]=[if xq (f t.wN) (f t.one)then f t.wN else f t.one,if xq (f t.wN) (f t.one)then f t.one else f t.wN]
  rcases ha with rfl|rfl
  .have e:b=f t.wN:=by
    have:=(aem _).mp p
    simpa using this.mem_iff.mp (show b∈[b]by simp)
   subst e
   rw[if_neg n,if_neg n]
  .have e:b=f t.one:=by
    have:=(aem _).mp (p.trans (afv _ _ []))
    simpa using this.mem_iff.mp (show b∈[b]by simp)
   subst e
   by_cases z:xq (f t.wN) (f t.one)
   .rw[if_pos z,if_pos z]
   .rw[if_neg z,if_neg z]
    rcases jK (f t.wN) (f t.one)with w|w|w
    .exact absurd w z
    .rw[w]
    .exact absurd w n
theorem oz(xs:List PV)(P:PV->Prop)(h:ci xs P):Q.run 10 eY xs P:=by
 obtain⟨ps,ts,A,f,m,k,rfl,o,w,⟨m0,m1,k0,k1⟩,h⟩:=h
 have pl:=o.pl
 have tl:=o.tl
 unfold eY
 refine ao λN hN=>?_
 show N [some ⟨0,eQ ps ts⟩,some ⟨0,xB A f⟩,some ⟨0,.int m⟩,some ⟨0,.int k⟩,some ⟨1,.lst []⟩,none,none,none,none,none]
 subst hN
 refine ao λN hN=>bg λG B hG hB=>?_
 lia
 refine ae (CO ps ts) ?_
 show yS G B _ (ts.map oF) _
 refine aN (λj e=>∃v5 v6 v7 v8 v9:Option Sl,e=[some ⟨0,eQ ps ts⟩,some ⟨0,xB A f⟩,some ⟨0,.int m⟩,some ⟨0,.int k⟩,some ⟨1,.lst (((ts.take j).map (rn f λc=>c*m+k)).map oF)⟩,v5,v6,v7,v8,v9]) (i:=0) ⟨none,none,none,none,none,rfl⟩ ?_ ?_
 case refine_2=>
  rintro e ⟨v5,v6,v7,v8,v9,rfl⟩
  show N _
  rw[aad,aaV,abd]
  subst hN
  simp only[xF,yN,zi,aS,x8]
  lia
  refine ae (EJ ps ts) ?_
  lia
  refine bv (λx=>match x with|.str a=>.str (f a)|_=>.nE) (λx hx R hR=>?_) (by simp;omega) ?_
  .obtain⟨a,ha,rfl⟩:=List.mem_map.mp hx
   exact ae (iB w.nd (w.sub a ha)) hR
  rw[abe,aaw]
  have e:(ps.map ((λx=>match x with|PV.str a=>PV.str (f a)|_=>.nE) ∘ PV.str))=(ps.map f).map PV.str:=by rw[aaw];rfl
  rw[e]
  refine⟨_,dv _,by rw[aad];omega,λgs up=>ae rfl ?_⟩
  lia
  have nf:(ps.map f).Nodup:=by
   refine List.nodup_iff_pairwise_ne.mpr (List.pairwise_map.mpr (abL (λ{a b} ha hb ne e=>?_) (List.nodup_iff_pairwise_ne.mp (bU o.ok.rise))))
   exact ne (w.inj a (w.sub a ha) b (w.sub b hb) e)
  refine ae rfl ?_
  refine h gs (f9 up.2 (up.1.nodup_iff.mpr nf)) (λy=>?_) (by rw[up.1.length_eq,aad])
  rw[up.1.mem_iff,aeV]
 rintro j x e M hx ⟨v5,v6,v7,v8,v9,rfl⟩ kk
 rw[aaV]at kk ⊢
 have hj:j<ts.length:=by have:=(List.getElem?_eq_some_iff.mp hx).1;simpa using this
 obtain⟨t,et⟩:∃t,ts[j]?=some t:=⟨_,aaa hj⟩
 have ex:x=oF t:=by
  rw[aai,et]at hx
  exact(aao hx).symm
 have tv:t∈ts:=aaI et
 obtain⟨e1,e2⟩:=w.en t tv
 subst ex hG hB
 refine⟨rfl,?_⟩
 show wM _ _ _ [some ⟨0,eQ ps ts⟩,some ⟨0,xB A f⟩,some ⟨0,.int m⟩,some ⟨0,.int k⟩,some ⟨1,.lst (((ts.take j).map (rn f λc=>c*m+k)).map oF)⟩,some ⟨0,.str t.nm⟩,some ⟨0,.str t.one⟩,some ⟨0,.str t.wN⟩,some ⟨0,.int t.cost⟩,v9]
 refine ao λN' Bm=>?_
 simp only[xp,x8,aS,iD,zx]
 lia
 refine ae (iB w.nd e1) (ae (iB w.nd e2) ?_)
 refine⟨[f t.one,f t.wN],rfl,(by show 2<64;decide),λgs up=>?_⟩
 rw[uS (h:=λc=>c*m+k) up]
 show N' [some ⟨0,eQ ps ts⟩,some ⟨0,xB A f⟩,some ⟨0,.int m⟩,some ⟨0,.int k⟩,some ⟨1,.lst (((ts.take j).map (rn f λc=>c*m+k)).map oF)⟩,some ⟨0,.str t.nm⟩,some ⟨0,.str t.one⟩,some ⟨0,.str t.wN⟩,some ⟨0,.int t.cost⟩,some ⟨0,.lst [.str (rn f (λc=>c*m+k) t).one,.str (rn f (λc=>c*m+k) t).wN]⟩]
 subst Bm
 lia
 have c0:=(o.ok.tie t tv).lo
 have c1:=(o.ok.tie t tv).hi
 refine ae (z:=.str (rn f (λc=>c*m+k) t).one) (av (j:=0) rfl) (ae (z:=.str (rn f (λc=>c*m+k) t).wN) (av (j:=1) rfl) ?_)
 refine ae (iV (by omega) (by omega)) (ae aR ?_)
 refine ae (Ca (by rw[aad,aad,aa2];omega)) ?_
 refine kk _ ⟨some ⟨0,.str t.nm⟩,some ⟨0,.str t.one⟩,some ⟨0,.str t.wN⟩,some ⟨0,.int t.cost⟩,some ⟨0,.lst [.str (rn f (λc=>c*m+k) t).one,.str (rn f (λc=>c*m+k) t).wN]⟩,?_⟩
 rw[abB,et,adu,aaH,aaH]
 rfl
theorem rd{ys:List PV}{i:Nat}{y:PV}(hi:ys[i]?=some y)(hl:ys.length<=1000):AS ys [.int (i:Int)]=some (y,ys.eraseIdx i):=by
 have xA:i<ys.length:=(List.getElem?_eq_some_iff.mp hi).1
 have e:D9 ys.length (i:Int)=some i:=by
  unfold D9
  rw[if_pos (by omega),if_pos (by omega)]
  rfl
 refine(if_pos ⟨by omega,by omega⟩).trans ?_
 rw[(jN e).1]
 show (ys[i]?).map _=_
 rw[hi];rfl
theorem kE(f:α->β):∀(l:List α) (i:Nat),(l.map f).eraseIdx i=(l.eraseIdx i).map f
 |[],_=>rfl
 |_::_,0=>rfl
 |a::l,i+1=>congrArg (f a::·) (kE f l i)
theorem jd:∀(l:List α) (i:Nat) (h:i<l.length),l.Perm (l[i]::l.eraseIdx i)
 |a::l,0,_=>List.Perm.refl _
 |a::l,i+1,h=>((jd l i (by simpa using h)).cons a).trans (afv _ _ _)
theorem nh(f:α->Str)(g:α->PV):∀l:List α,(l.map λx=>PV.tup [.str (f x),g x]).mapM AN=some (l.map λx=>((aaq (f x):Key),g x))
 |[]=>rfl
 |x::l=>by rw[aas,abq,nh f g l];rfl
theorem mo(f:α->Str)(g:α->PV):∀(l done:List α),((done++l).map f).Nodup->(l.map λx=>((aaq (f x):Key),g x)).foldl (λacc kv=>zO acc kv.1 kv.2) (done.map λx=>((aaq (f x):Key),g x))=(done++l).map λx=>((aaq (f x):Key),g x)
 |[],done,_=>by rw[abh];rfl
 |x::l,done,nd=>by
  rw[aas,acq]
  have hn:f x∉done.map f:=λz=>by
   rw[aaH,ab3]at nd
   exact nd.2.2 _ z _ (by simp) rfl
  show List.foldl _ (zO _ (aaq (f x)) (g x)) _=_
  rw[hJ hn]
  have e:(done.map λx=>((aaq (f x):Key),g x))++[(aaq (f x),g x)]=(done++[x]).map λx=>((aaq (f x):Key),g x):=by rw[aaH];rfl
  rw[e,mo f g l (done++[x]) (by rwa [ab8]),ab8];rfl
theorem nL(f:α->Str)(g:α->PV)(l:List α)(nd:(l.map f).Nodup)(hl:l.length<=1000):A5 [.lst (l.map λx=>PV.tup [.str (f x),g x])]=some (.xv (l.map λx=>((aaq (f x):Key),g x))):=by
 show (if (l.map λx=>PV.tup [.str (f x),g x]).length<=1000 then ((l.map λx=>PV.tup [.str (f x),g x]).mapM AN).map (λkvs=>PV.xv (By kvs))else none)=_
 rw[if_pos (by simpa using hl),nh]
 show some (PV.xv (By _))=_
 have:=mo f g l [] (by simpa using nd)
 rw[abe]at this
 unfold By
 rw[show ([]:List (Key×PV))=([]:List α).map λx=>((aaq (f x):Key),g x)from rfl,this]
theorem jW{xs ys:List PV}(h:xs.length+ys.length<=100000):xc (.lst xs) (.lst ys)=some (.lst (xs++ys)):=if_pos h
theorem iP(c:PV)(xs:List PV)(P:PV->PV->Prop)(h:cg c xs P):Q.B4 4 bC c xs P:=by
 obtain⟨rfl,ps,ts,W,rfl,o,wl,FD,Ln,h⟩:=h
 have pl:=o.pl
 have tl:=o.tl
 unfold bC
 refine ao λN hN=>?_
 simp only[xp,iq,aS,iD]
 try lia
 refine ae (EJ ps ts) ?_
 try lia
 refine ae (z:=.lst (ps.map .str)) rfl ?_
 refine ae (CO ps ts) ?_
 try lia
 refine bv (λx=>match x with|.tup [_,b,_,_]=>b|_=>.nE) (λx hx R hR=>?_) (by simp;omega) ?_
 .obtain⟨t,ht,rfl⟩:=List.mem_map.mp hx
  exact ae (z:=.str t.one) (av (j:=1) rfl) hR
 have e1:((ts.map oF).map (λx=>match x with|PV.tup [_,b,_,_]=>b|_=>.nE))=(ts.map tO.one).map PV.str:=by rw[aaw,aaw];rfl
 rw[abe,e1]
 refine ae (jW (by rw[aad,aad,aad];omega)) ?_
 refine ae (CO ps ts) ?_
 try lia
 refine bv (λx=>match x with|.tup [_,_,b,_]=>b|_=>.nE) (λx hx R hR=>?_) (by simp;omega) ?_
 .obtain⟨t,ht,rfl⟩:=List.mem_map.mp hx
  exact ae (z:=.str t.wN) (av (j:=2) rfl) hR
 have e2:((ts.map oF).map (λx=>match x with|PV.tup [_,_,b,_]=>b|_=>.nE))=(ts.map tO.wN).map PV.str:=by rw[aaw,aaw];rfl
 rw[abe,e2,<- aaH]
 refine ae (jW (by simp;omega)) ?_
 rw[<- aaH]
 have sub:∀x∈ps++ts.map tO.one++ts.map tO.wN,x∈W:=λx hx=>by
  rcases List.mem_append.mp hx with z|z
  .rcases List.mem_append.mp z with z|z
   .exact FD x z
   .obtain⟨t,ht,rfl⟩:=List.mem_map.mp z;exact(Ln t ht).1
  .obtain⟨t,ht,rfl⟩:=List.mem_map.mp z;exact(Ln t ht).2
 have dl:(A6 (ps++ts.map tO.one++ts.map tO.wN)).length<=60:=aaX (bi (kG _) λx hx=>sub x ((nN x _).mp hx)) wl
 refine⟨_,dv _,by simp;omega,by omega,λA up=>?_⟩
 have nA:A.Nodup:=up.1.nodup_iff.mpr (kG _)
 have lA:A.length<=60:=by rw[up.1.length_eq];exact dl
 have mA:∀x,x∈A↔x∈ps++ts.map tO.one++ts.map tO.wN:=λx=>by rw[up.1.mem_iff,nN]
 show N [some ⟨2,.nE⟩,some ⟨0,eQ ps ts⟩,some ⟨0,.lst (A.map .str)⟩,none]
 subst hN
 refine ao λN hN=>?_
 try lia
 refine⟨rfl,A.length,by rw[aad],lA,λws Ss wn ww=>?_⟩
 show N [some ⟨2,.nE⟩,some ⟨0,eQ ps ts⟩,some ⟨0,.lst (A.map .str)⟩,some ⟨1,.lst (ws.map .str)⟩]
 subst hN
 simp only[Eu,zi,aS,iD]
 try lia
 refine ko (λi acc e=>∃(us:List Str) (f:Str->Str),acc=((A.take i).map λa=>PV.tup [.str a,.str (f a)])/\us.length+i=A.length/\((A.take i).map f++us).Perm ws/\e=[some ⟨2,.nE⟩,some ⟨0,eQ ps ts⟩,some ⟨0,.lst (A.map .str)⟩,some ⟨1,.lst (us.map .str)⟩]) (i:=0) ⟨ws,id,rfl,by omega,by simp,rfl⟩ (by simp) (by simp;omega) ?_ ?_
 .rintro j x acc e R hj ⟨us,f,rfl,ul,pm,rfl⟩ k
  rw[aaV]at ul k pm
  have OS:j<A.length:=by have:=(List.getElem?_eq_some_iff.mp hj).1;simpa using this
  have ex:x=.str A[j]:=by
   rw[aai,aaa OS]at hj
   exact(aao hj).symm
  subst ex
  refine⟨trivial,?_⟩
  refine⟨rfl,?_⟩
  show opt (zo [.lst (us.map PV.str)]) _
  refine ae (z:=.int (us.length:Int)) (by show some (PV.int ((us.map PV.str).length:Int))=_;rw[aad]) ?_
  simp only[iD]
  show aC .nE [.int (us.length:Int)] _
  refine draw (by omega) (by omega) λq hq=>?_
  have M3:q<us.length:=by omega
  show opt (AS (us.map .str) [.int (q:Int)]) _
  refine ae (rd (y:=.str us[q]) (by rw[aai,aaa M3];rfl) (by rw[aad];omega)) ?_
  have old:∀a∈A.take j,a≠A[j]:=λa ha e=>by
   obtain⟨i,hi,rfl⟩:=List.mem_take_iff_getElem.mp ha
   have:=(abx nA).mp e
   omega
  have tk:A.take (j+1)=A.take j++[A[j]]:=by rw[abB,aaa OS];rfl
  refine k (some (.tup [.str A[j],.str us[q]])) _ ⟨us.eraseIdx q,λa=>if a=A[j]then us[q]else f a,?_,?_,?_,?_⟩
  .rw[tk,aaH]
   congr 1
   .exact aaK λa ha=>by dsimp only;rw[if_neg (old a ha)]
   .simp
  .rw[adr M3];omega
  .rw[tk,aaH]
   have e0:(A.take j).map (λa=>if a=A[j]then us[q]else f a)=(A.take j).map f:=aaK λa ha=>if_neg (old a ha)
   rw[e0]
   refine List.Perm.trans ?_ pm
   rw[ab8]
   refine List.Perm.append_left _ ?_
   simp only[aas,adx,if_true]
   exact(jd us q M3).symm
  .rw[kE];rfl
 rintro acc e ⟨us,f,rfl,ul,pm,rfl⟩ _
 rw[aad,aaV]at ul pm
 rw[aad,aaV]
 rw[abd]at pm ⊢
 have u0:us=[]:=List.length_eq_zero_iff.mp (by omega)
 rw[u0,abh]at pm
 refine ae (nL (λa:Str=>a) (λa=>PV.str (f a)) A (by simpa using nA) (by omega)) ?_
 have nf:(A.map f).Nodup:=pm.nodup_iff.mpr wn
 refine h A f ⟨nA,lA,λx hx=>(mA x).mpr (by simp[hx]),λt ht=>⟨(mA _).mpr (by simp;exact .inr (.inl ⟨t,ht,rfl⟩)),(mA _).mpr (by simp;exact .inr (.inr ⟨t,ht,rfl⟩))⟩,λx hx y hy e=>?_,λx hx=>ww _ (pm.mem_iff.mp (aaZ hx)),λx hx=>by
  rcases List.mem_append.mp ((mA x).mp hx)with z|z
  .rcases List.mem_append.mp z with z|z
   .exact o.ok.word x z
   .obtain⟨t,ht,rfl⟩:=List.mem_map.mp z;exact(o.ok.tie t ht).one
  .obtain⟨t,ht,rfl⟩:=List.mem_map.mp z;exact(o.ok.tie t ht).wN⟩
 obtain⟨i,hi,rfl⟩:=ace hx
 obtain⟨j,hj,rfl⟩:=ace hy
 have:=(abx (h₀:=by rw[aad];exact hi) (h₁:=by rw[aad];exact hj) nf).mp (by rw[ach,ach];exact e)
 subst this
 rfl
open Classical in
noncomputable def DG(os:List tO)(a b:Str):List Str:=if h:∃ns,Wk os a ns b/\ns.Nodup then h.choose else []
theorem qV(oo:∀u∈os,xh ps u=true)(r:xP (xj ps os) a b):∃ns,Wk os a ns b:=by
 induction r with
 |refl=>exact⟨[],rfl⟩
 |step _ e ih=>
  obtain⟨ns,w⟩:=ih
  obtain⟨t,ht,_,z⟩:=((Av oo).mem _ _ _).mp e
  exact⟨ns++[t.nm],w.app ⟨t,ht,rfl,_,z,rfl⟩⟩
theorem kY(nd:(os.map tO.nm).Nodup):∀{ns:List Str} {a b:Str},Wk os a ns b->∃ms,Wk os a ms b/\ms.Nodup
 |[],a,b,h=>⟨[],h,by simp⟩
 |n::ns,a,b,⟨t,ht,e,c,q,h⟩=>by
  obtain⟨ms,w,md⟩:=kY nd h
  by_cases hn:n∈ms
  .obtain⟨p,r,rfl,hp⟩:=gY hn
   obtain⟨x,w1,t',DQ,e',y,q',w2⟩:=w.cut
   have:t=t':=cE nd ht DQ (e.trans e'.symm)
   subst this
   have OA:(n::r).Nodup:=(List.nodup_append.mp md).2.1
   rcases Ends.two q q' with ⟨_,z2⟩|⟨_,z2⟩
   .have z2:y=c:=z2
    subst z2
    exact⟨n::r,⟨t,ht,e,_,q,w2⟩,OA⟩
   .have z2:y=a:=z2
    subst z2
    exact⟨r,w2,(List.nodup_cons.mp OA).2⟩
  .exact⟨n::ms,⟨t,ht,e,c,q,w⟩,List.nodup_cons.mpr ⟨hn,md⟩⟩
theorem j0(h:∃ns,Wk os a ns b/\ns.Nodup):Wk os a (DG os a b) b/\(DG os a b).Nodup:=by
 unfold DG
 rw[dif_pos h]
 exact h.choose_spec
variable{ns:List Str}
theorem mT(ok:zq ps ts)(w:Wk (wW ps ts) a ns b)(d:ns.Nodup):ns=DG (wW ps ts) a b:=by
 obtain⟨w',d'⟩:=j0 ⟨ns,w,d⟩
 exact o5 (jj (bu ok)) (λt ht=>fN (ok.tie t (bD ht).1).lt) (o9 (bu ok)) w w' d d'
theorem lb{k:Int}(m0:0<m):∀a b:Int,a*m+k<b*m+k↔a<b:=λa b=>by
 constructor
 .intro h
  exact Int.lt_of_mul_lt_mul_right (by omega) (Int.le_of_lt m0)
 .intro h
  have:=Int.mul_lt_mul_of_pos_right h m0
  omega
theorem GS.Mm(w:GS ps ts A f)(im:∀y,y∈w8↔∃x∈ps,f x=y)(up:∀a b,h a<h b↔a<b):yW f h A ps w8 ts:=⟨w.inj,w.sub,w.en,im,up⟩
theorem ls(o:Nk ps ts)(w:GS ps ts A f)(rise:w8.Pairwise xq)(im:∀y,y∈w8↔∃x∈ps,f x=y)(len:w8.length=ps.length)(hb:∀t∈ts,-(10 ^ 30)<h t.cost/\h t.cost<10 ^ 30):Nk w8 (ts.map (rn f h)):=by
 refine⟨⟨rise,λy hy=>?_,?_,λt' DQ=>?_⟩,by have:=o.pl;omega,by rw[aad];exact o.tl⟩
 .obtain⟨x,hx,rfl⟩:=(im y).mp hy
  exact w.wd x (w.sub x hx)
 .rw[cW];exact o.ok.names
 .obtain⟨t,ht,rfl⟩:=List.mem_map.mp DQ
  obtain⟨a,b⟩:=w.en t ht
  obtain⟨b1,b2⟩:=hb t ht
  have ne:f t.one≠f t.wN:=λe=>fN (o.ok.tie t ht).lt (w.inj _ a _ b e)
  have wa:=w.wd _ a
  have wb:=w.wd _ b
  refine⟨(o.ok.tie t ht).nm,?_,?_,?_,b1,b2⟩
  .show xT (if xq (f t.wN) (f t.one)then f t.wN else f t.one)
   split
   .exact wb
   .exact wa
  .show xT (if xq (f t.wN) (f t.one)then f t.one else f t.wN)
   split
   .exact wa
   .exact wb
  .show xq (if xq (f t.wN) (f t.one)then f t.wN else f t.one) (if xq (f t.wN) (f t.one)then f t.one else f t.wN)
   split
   .assumption
   .rename_i z
    exact iW z ne
open Classical in
noncomputable def BB(ps:List Str)(ts:List tO)(one wN:Str):PV:=if xP (xj ps (wW ps ts)) wN one then .tup ((DG (wW ps ts) one wN).map .str)else .nE
theorem sr{one wN:Str}{P:PV->Prop}(o:Nk ps ts)(h1:one∈ps)(h2:wN∈ps)(h:P (BB ps ts one wN)):eN [eQ ps ts,.tup ((xK ps ts).map .str),.str one,.str wN] P:=by
 have nd:=bu o.ok
 have tl:=o.tl
 have tn:=lf ps ts
 refine⟨ps,ts,xK ps ts,one,wN,rfl,oD o.ok o.pl o.tl,nd,by rw[bH,aad];omega,h1,h2,λn=>?_,λns w d _=>?_⟩
 .rw[iC nd]at n
  unfold BB at h
  rw[if_neg n]at h
  exact h
 .rw[pi nd]at w
  unfold BB at h
  rw[if_pos (Jo (kZ (Av cy) w)),<- mT o.ok w d]at h
  exact h
theorem qL(r:yW f h A ps w8 ts)(o:Nk ps ts)(o':Nk w8 (ts.map (rn f h))){one wN:Str}(h1:one∈ps)(h2:wN∈ps):BB w8 (ts.map (rn f h)) (f one) (f wN)=BB ps ts one wN:=by
 have rt:yW f h A ps w8 (wW ps ts):=r.less λt ht=>(bD ht).1
 have e:xP (xj w8 (wW w8 (ts.map (rn f h)))) (f wN) (f one)↔xP (xj ps (wW ps ts)) wN one:=by
  rw[r.tree]
  exact rt.KZ (r.sub _ h2) (r.sub _ h1)
 unfold BB
 by_cases q:xP (xj ps (wW ps ts)) wN one
 .rw[if_pos q,if_pos (e.mpr q)]
  obtain⟨ns,w⟩:=qV cy (Jo q)
  obtain⟨w1,d1⟩:=j0 (kY (jj (bu o.ok)) w)
  have w2:Wk (wW w8 (ts.map (rn f h))) (f one) (DG (wW ps ts) one wN) (f wN):=by
   rw[r.tree]
   exact(r.wk (λt ht=>(bD ht).1) (r.sub _ h1) (r.sub _ h2)).mpr w1
  rw[<- mT o'.ok w2 d1]
 .rw[if_neg q,if_neg λz=>q (e.mp z)]
theorem tT(ps:List Str)(ts:List tO)(one wN:Str):neN (BB ps ts one wN) (BB ps ts one wN)=some (.bl false):=by
 unfold BB
 split
 .rw[show ∀a b:List PV,neN (.tup a) (.tup b)=neT (.tup a) (.tup b)from λ_ _=>rfl,nj,decide_eq_true rfl];rfl
 .rfl
theorem sW{x:PV}{ns:List Int}(m:Nat)(hx:x=.y6 ns\/x=.lst (ns.map .int)):∃zs,Fq x none (some (m:Int))=some (.lst zs)/\zs.length<=m:=by
 rcases hx with rfl|rfl
 .exact⟨_,rfl,by rw[eG];simp;omega⟩
 .exact⟨_,rfl,by rw[eG];simp;omega⟩
theorem ii(l:List Str):neT (.tup (l.map .str)) (.tup (l.map .str))=some (.bl false):=by rw[nj,decide_eq_true rfl];rfl
structure Alike(ps:List Str)(ts:List tO)(q:List Str×List tO):Prop where
 nk:Nk q.1 q.2
 mn:xK q.1 q.2=xK ps ts
 op:bI q.1 q.2=bI ps ts
 wt:(q.2.filter λt=>!xh q.1 t).map tO.nm=(ts.filter λt=>!xh ps t).map tO.nm
theorem fG(r:yW f h A ps w8 ts)(o':Nk w8 (ts.map (rn f h))):Alike ps ts (w8,ts.map (rn f h)):=by
 refine⟨o',r.xK,r.opens,?_⟩
 show ((ts.map (rn f h)).filter λt=>!xh w8 t).map tO.nm=_
 rw[aeb,cW]
 have:(ts.filter ((λt=>!xh w8 t) ∘ rn f h))=ts.filter λt=>!xh ps t:=abR λt ht=>by
  show (!xh w8 (rn f h t))=_
  rw[r.xh ht]
 rw[this]
theorem GS.id(w:GS ps ts A f):GS ps ts A λa=>a:=⟨w.nd,w.al,w.sub,w.en,λ_ _ _ _ e=>e,w.ow,w.ow⟩
theorem tF(T:Addr)(ns:List Int)(x:PV)(hn:ns.length<=63)(hx:x=.y6 ns\/x=.lst (ns.map .int)):Q.B0 11 (f7 T) (x4 T) [x] λr c=>r=.bl true/\c=x4 T:=by
 unfold f7
 simp only[B0,EY,Ff]
 refine ao λN hN=>?_
 show Q.yE 1 0 _ [some ⟨0,x⟩,none,none,none,none,none,none,none,none,none,none,some ⟨2,x4 T⟩]
 refine⟨⟨ns,hx,hn⟩,?_⟩
 show N [some ⟨0,x⟩,some ⟨4,.nE⟩,none,none,none,none,none,none,none,none,none,some ⟨2,x4 T⟩]
 subst hN
 obtain⟨zs,ez,lz⟩:=sW 6 hx
 refine ao λN hN=>bg λG B hG hB=>?_
 simp only[IE,aS,iD,wO,eC,zi,Ih,eV,AR,AQ,x6,dY,acf]
 refine ae ez ?_
 lia
 refine ae (z:=.int (2+(zs.length:Int))) rfl ?_
 refine⟨by omega,by omega,?_⟩
 generalize AL 0 _=rs
 subst hG hB
 refine aN (λj e=>∃v2 v3 v4 v5 v6 v7 v8 v9 v10:Option Sl,e=[some ⟨0,x⟩,some ⟨4,.nE⟩,v2,v3,v4,v5,v6,v7,v8,v9,v10,some ⟨2,x4 T⟩]) (i:=0) ⟨none,none,none,none,none,none,none,none,none,rfl⟩ ?_ ?_
 case refine_2=>
  rintro e ⟨v2,v3,v4,v5,v6,v7,v8,v9,v10,rfl⟩
  show N _
  subst hN
  exact⟨rfl,rfl⟩
 rintro j y e M hy ⟨v2,v3,v4,v5,v6,v7,v8,v9,v10,rfl⟩ k
 clear hN
 show wM _ _ _ [some ⟨0,x⟩,some ⟨4,.nE⟩,some ⟨0,y⟩,v3,v4,v5,v6,v7,v8,v9,v10,some ⟨2,x4 T⟩]
 refine ao λN hN=>?_
 lia
 refine⟨rfl,12,30,rfl,by decide,by decide,by decide,by decide,λps ts W ok hp ht hW FD Ln=>?_⟩
 try lia
 have o:Nk ps ts:=⟨ok,by omega,by omega⟩
 have nd:=bu ok
 have pl:=o.pl
 have tl:=o.tl
 have tn:=lf ps ts
 have Pw:∀x∈ps,xT x:=ok.word
 show N [some ⟨0,x⟩,some ⟨4,.nE⟩,some ⟨0,y⟩,some ⟨0,eQ ps ts⟩,v4,v5,v6,v7,v8,v9,v10,some ⟨2,x4 T⟩]
 subst hN
 refine ao λN hN=>?_
 try lia
 refine⟨rfl,ps,ts,W,rfl,o,by omega,FD,Ln,λA f w=>?_⟩
 try lia
 show N [some ⟨0,x⟩,some ⟨4,.nE⟩,some ⟨0,y⟩,some ⟨0,eQ ps ts⟩,some ⟨1,xB A f⟩,v5,v6,v7,v8,v9,v10,some ⟨2,x4 T⟩]
 subst hN
 have lA:=w.al
 refine ao λN hN=>?_
 simp only[xp,zi,aS,iD,FU]
 show xX (Ax (.nm 0)) Bh _ _ _ ((A.map λa=>((aaq a:Key),PV.str (f a))).map λq=>kP q.1) [some ⟨0,x⟩,some ⟨4,.nE⟩,some ⟨0,y⟩,some ⟨0,eQ ps ts⟩,none,v5,v6,v7,v8,v9,v10,some ⟨2,x4 T⟩] []
 have eA:((A.map λa=>((aaq a:Key),PV.str (f a))).map λq=>kP q.1)=A.map PV.str:=by rw[aaw];rfl
 rw[eA]
 refine bv (λx=>.tup [x,x]) (λz hz R hR=>?_) (by simp;omega) ?_
 .lia
  exact hR
 rw[abe,aaw]
 refine ae (nL (λa:Str=>a) (λa=>PV.str a) A (by simpa using w.nd) (by omega)) ?_
 show N [some ⟨0,x⟩,some ⟨4,.nE⟩,some ⟨0,y⟩,some ⟨0,eQ ps ts⟩,some ⟨1,xB A f⟩,some ⟨0,xB A λa=>a⟩,v6,v7,v8,v9,v10,some ⟨2,x4 T⟩]
 subst hN
 refine ao λN hN=>?_
 simp only[xp,zh]
 try lia
 refine⟨rfl,ps,ts,rfl,ok,pl,tl,?_⟩
 try lia
 show N [some ⟨0,x⟩,some ⟨4,.nE⟩,some ⟨0,y⟩,some ⟨0,eQ ps ts⟩,some ⟨1,xB A f⟩,some ⟨0,xB A λa=>a⟩,some ⟨0,.tup ((xK ps ts).map .str)⟩,v7,v8,v9,v10,some ⟨2,x4 T⟩]
 subst hN
 refine ao λN hN=>?_
 try lia
 refine⟨ps,ts,A,f,1,0,rfl,o,w,by decide,λw8 rise im len=>?_⟩
 try lia
 show N [some ⟨0,x⟩,some ⟨4,.nE⟩,some ⟨0,y⟩,some ⟨0,eQ ps ts⟩,some ⟨0,xB A f⟩,some ⟨0,xB A λa=>a⟩,some ⟨0,.tup ((xK ps ts).map .str)⟩,some ⟨0,eQ w8 (ts.map (rn f λc=>c*1+0))⟩,v8,v9,v10,some ⟨2,x4 T⟩]
 have r:=w.Mm (h:=λc=>c*1+0) im (lb (by decide))
 have o':Nk w8 (ts.map (rn f λc=>c*1+0)):=ls o w rise im len λt ht=>by
  have c0:=(ok.tie t ht).lo
  have c1:=(ok.tie t ht).hi
  show -(10 ^ 30)<t.cost*1+0/\t.cost*1+0<10 ^ 30
  omega
 have al:=fG r o'
 subst hN
 refine ao λN hN=>?_
 try lia
 show N [some ⟨0,x⟩,some ⟨4,.nE⟩,some ⟨0,y⟩,some ⟨0,eQ ps ts⟩,some ⟨0,xB A f⟩,some ⟨0,xB A λa=>a⟩,some ⟨0,.tup ((xK ps ts).map .str)⟩,some ⟨0,eQ w8 (ts.map (rn f λc=>c*1+0))⟩,some ⟨0,.lst [eQ w8 (ts.map (rn f λc=>c*1+0))]⟩,v9,v10,some ⟨2,x4 T⟩]
 subst hN
 refine ao λN hN=>?_
 have fin:∀qs:List (List Str×List tO),(∀q∈qs,Alike ps ts q)->qs.length<=3->N [some ⟨0,x⟩,some ⟨4,.nE⟩,some ⟨0,y⟩,some ⟨0,eQ ps ts⟩,some ⟨0,xB A f⟩,some ⟨0,xB A λa=>a⟩,some ⟨0,.tup ((xK ps ts).map .str)⟩,some ⟨0,eQ w8 (ts.map (rn f λc=>c*1+0))⟩,some ⟨0,.lst (qs.map λq=>eQ q.1 q.2)⟩,v9,v10,some ⟨2,x4 T⟩]:=by
  intro qs hq lq
  subst hN
  refine ao λN hN=>bg λG B hG hB=>?_
  try lia
  refine aN (λi e=>∃v9:Option Sl,e=[some ⟨0,x⟩,some ⟨4,.nE⟩,some ⟨0,y⟩,some ⟨0,eQ ps ts⟩,some ⟨0,xB A f⟩,some ⟨0,xB A λa=>a⟩,some ⟨0,.tup ((xK ps ts).map .str)⟩,some ⟨0,eQ w8 (ts.map (rn f λc=>c*1+0))⟩,some ⟨0,.lst (qs.map λq=>eQ q.1 q.2)⟩,v9,v10,some ⟨2,x4 T⟩]) (i:=0) ⟨v9,rfl⟩ ?_ ?_
  case refine_1=>
   rintro i z e M' hz ⟨u9,rfl⟩ k'
   obtain⟨q,J1,rfl⟩:∃q∈qs,z=eQ q.1 q.2:=by
    have:=aaI hz
    obtain⟨q,QF,Lo⟩:=List.mem_map.mp this
    exact⟨q,QF,Lo.symm⟩
   have a:=hq q J1
   subst hG hB
   show Az _ _ _ _ [some ⟨0,x⟩,some ⟨4,.nE⟩,some ⟨0,y⟩,some ⟨0,eQ ps ts⟩,some ⟨0,xB A f⟩,some ⟨0,xB A λa=>a⟩,some ⟨0,.tup ((xK ps ts).map .str)⟩,some ⟨0,eQ w8 (ts.map (rn f λc=>c*1+0))⟩,some ⟨0,.lst (qs.map λq=>eQ q.1 q.2)⟩,some ⟨0,eQ q.1 q.2⟩,v10,some ⟨2,x4 T⟩]
   refine b7 λA1 B1 FN CU=>?_
   simp only[zh]
   try lia
   refine⟨rfl,q.1,q.2,rfl,a.nk.ok,a.nk.pl,a.nk.tl,?_⟩
   rw[a.mn]
   refine ae (ii _) (ae (z:=false) rfl ?_)
   try lia
   have Sw:=a.nk.tl
   refine⟨q.1,q.2,rfl,by omega,ps,ts,rfl,by omega,?_⟩
   rw[a.op]
   refine ae (ii _) (ae (z:=false) rfl ?_)
   try lia
   refine⟨q.1,q.2,rfl,by omega,ps,ts,rfl,by omega,?_⟩
   rw[a.wt]
   refine ae (ii _) (ae (z:=false) rfl ?_)
   try rw[if_neg (by simp)]
   subst CU
   exact k' _ ⟨_,rfl⟩
  rintro e ⟨u9,rfl⟩
  show N _
  subst hN
  refine ao λN hN=>b7 λA1 B1 FN CU=>?_
  simp only[BP,aS,iD]
  try lia
  have pz:∀(ps:List Str) (ts:List tO),ps.length<=60->(Cv ps (xj ps ts)).length<=60:=λps ts h=>by
   unfold Cv
   rw[aad]
   exact aaX (aa9 _ _) h
  have pe:∀(l:List (List Str)),(l.map λq=>PV.tup (q.map PV.str)).map (λx=>match x with|.tup l=>PV.int (l.length:Int)|_=>.nE)=(l.map λq=>(q.length:Int)).map PV.int:=λl=>by
   rw[aaw,aaw]
   refine aaK λq _=>?_
   show PV.int ((q.map PV.str).length:Int)=_
   rw[aad];rfl
  have Li:∀l:List Int,(l.map PV.int).mapM x6=some l:=dA
  have z1:=pz w8 (ts.map (rn f λc=>c*1+0)) o'.pl
  have z2:=pz ps ts pl
  refine⟨w8,_,rfl,oD o'.ok o'.pl o'.tl,?_⟩
  try lia
  refine bv (λx=>match x with|.tup l=>.int (l.length:Int)|_=>.nE) (λz hz R hR=>?_) (by rw[aad,ab6];omega) ?_
  .obtain⟨q,hq,rfl⟩:=List.mem_map.mp hz
   exact ae rfl hR
  rw[abe,pe]
  refine⟨_,Li _,by rw[aad];omega,λgs gp gu=>?_⟩
  refine⟨ps,ts,rfl,oD ok pl tl,?_⟩
  try lia
  refine bv (λx=>match x with|.tup l=>.int (l.length:Int)|_=>.nE) (λz hz R hR=>?_) (by rw[aad,ab6];omega) ?_
  .obtain⟨q,hq,rfl⟩:=List.mem_map.mp hz
   exact ae rfl hR
  rw[abe,pe]
  refine⟨_,Li _,by rw[aad];omega,λhs GC hu=>?_⟩
  have eg:gs=hs:=nC ((gp.trans (r.Jl ok.rise rise)).trans GC.symm) gu hu
  refine ae (z:=.bl false) ?_ (ae (z:=false) rfl ?_)
  .show ((gs.map PV.int).mapM x6).bind _=_
   rw[Li]
   show ((hs.map PV.int).mapM x6).bind _=_
   rw[Li]
   exact if_pos eg
  try rw[if_neg (by simp)]
  subst CU
  show N [some ⟨0,x⟩,some ⟨4,.nE⟩,some ⟨0,y⟩,some ⟨0,eQ ps ts⟩,some ⟨0,xB A f⟩,some ⟨0,xB A λa=>a⟩,some ⟨0,.tup ((xK ps ts).map .str)⟩,some ⟨0,eQ w8 (ts.map (rn f λc=>c*1+0))⟩,some ⟨0,.lst (qs.map λq=>eQ q.1 q.2)⟩,u9,v10,some ⟨2,x4 T⟩]
  subst hN
  refine ao λN hN=>b7 λA1 B1 FN CU=>?_
  try lia
  refine⟨w8,_,(wW ps ts).map (rn f λc=>c*1+0),by rw[cW,bH],by rw[aad];omega,by rw[aad];omega,bu o'.ok,λu hu=>?_,?_⟩
  .obtain⟨t,ht,rfl⟩:=List.mem_map.mp hu
   exact aaZ (bD ht).1
  refine⟨ps,ts,wW ps ts,by rw[bH],by omega,by omega,nd,λu hu=>(bD hu).1,?_⟩
  have ec:((wW ps ts).map (rn f λc=>c*1+0)).map tO.cost=(wW ps ts).map tO.cost:=by
   rw[aaw]
   refine aaK λt _=>?_
   show t.cost*1+0=t.cost
   omega
  rw[ec]
  refine ae (ne_int _ _) (ae (z:=false) (by simp) ?_)
  try rw[if_neg (by simp)]
  subst CU
  show N [some ⟨0,x⟩,some ⟨4,.nE⟩,some ⟨0,y⟩,some ⟨0,eQ ps ts⟩,some ⟨0,xB A f⟩,some ⟨0,xB A λa=>a⟩,some ⟨0,.tup ((xK ps ts).map .str)⟩,some ⟨0,eQ w8 (ts.map (rn f λc=>c*1+0))⟩,some ⟨0,.lst (qs.map λq=>eQ q.1 q.2)⟩,u9,v10,some ⟨2,x4 T⟩]
  subst hN
  refine bg λG B hG hB=>?_
  try lia
  refine ae (EJ ps ts) ?_
  try lia
  rw[show (4:Int)=((4:Nat):Int)from rfl,eG,<- aez]
  refine aN (λi e=>∃u9 LZ:Option Sl,e=[some ⟨0,x⟩,some ⟨4,.nE⟩,some ⟨0,y⟩,some ⟨0,eQ ps ts⟩,some ⟨0,xB A f⟩,some ⟨0,xB A λa=>a⟩,some ⟨0,.tup ((xK ps ts).map .str)⟩,some ⟨0,eQ w8 (ts.map (rn f λc=>c*1+0))⟩,some ⟨0,.lst (qs.map λq=>eQ q.1 q.2)⟩,u9,LZ,some ⟨2,x4 T⟩]) (i:=0) ⟨u9,v10,rfl⟩ ?_ ?_
  case refine_2=>
   rintro e ⟨u9,LZ,rfl⟩
   exact k _ ⟨_,_,_,_,_,_,_,_,_,rfl⟩
  rintro i z e M' hz ⟨u9,LZ,rfl⟩ k'
  obtain⟨one,h1,rfl⟩:∃a∈ps,z=.str a:=by
   obtain⟨a,ha,rfl⟩:=List.mem_map.mp (aaI hz)
   exact⟨a,abD ha,rfl⟩
  subst hG hB
  show zt _ _ _ _ [some ⟨0,x⟩,some ⟨4,.nE⟩,some ⟨0,y⟩,some ⟨0,eQ ps ts⟩,some ⟨0,xB A f⟩,some ⟨0,xB A λa=>a⟩,some ⟨0,.tup ((xK ps ts).map .str)⟩,some ⟨0,eQ w8 (ts.map (rn f λc=>c*1+0))⟩,some ⟨0,.lst (qs.map λq=>eQ q.1 q.2)⟩,u9,some ⟨0,.str one⟩,some ⟨2,x4 T⟩]
  refine bg λG B hG hB=>?_
  try lia
  refine ae (EJ ps ts) ?_
  try lia
  refine aN (λi e=>∃u9:Option Sl,e=[some ⟨0,x⟩,some ⟨4,.nE⟩,some ⟨0,y⟩,some ⟨0,eQ ps ts⟩,some ⟨0,xB A f⟩,some ⟨0,xB A λa=>a⟩,some ⟨0,.tup ((xK ps ts).map .str)⟩,some ⟨0,eQ w8 (ts.map (rn f λc=>c*1+0))⟩,some ⟨0,.lst (qs.map λq=>eQ q.1 q.2)⟩,u9,some ⟨0,.str one⟩,some ⟨2,x4 T⟩]) (i:=0) ⟨u9,rfl⟩ ?_ ?_
  case refine_2=>
   rintro e ⟨u9,rfl⟩
   exact k' _ ⟨_,_,rfl⟩
  rintro i2 z e M2 Lk ⟨u9,rfl⟩ k2
  obtain⟨wN,h2,rfl⟩:∃a∈ps,z=.str a:=by
   obtain⟨a,ha,rfl⟩:=List.mem_map.mp (aaI Lk)
   exact⟨a,ha,rfl⟩
  subst hG hB
  show Az _ _ _ _ [some ⟨0,x⟩,some ⟨4,.nE⟩,some ⟨0,y⟩,some ⟨0,eQ ps ts⟩,some ⟨0,xB A f⟩,some ⟨0,xB A λa=>a⟩,some ⟨0,.tup ((xK ps ts).map .str)⟩,some ⟨0,eQ w8 (ts.map (rn f λc=>c*1+0))⟩,some ⟨0,.lst (qs.map λq=>eQ q.1 q.2)⟩,some ⟨0,.str wN⟩,some ⟨0,.str one⟩,some ⟨2,x4 T⟩]
  refine b7 λA1 B1 FN CU=>?_
  try lia
  refine⟨rfl,ae (iB w.nd (w.sub one h1)) ⟨rfl,ae (iB w.nd (w.sub wN h2)) ?_⟩⟩
  try lia
  have em:xK ps ts=xK w8 (ts.map (rn f λc=>c*1+0)):=r.xK.symm
  rw[em]
  refine sr o' ((r.mem (w.sub one h1)).mpr h1) ((r.mem (w.sub wN h2)).mpr h2) ?_
  rw[<- em,qL r o o' h1 h2]
  refine sr o h1 h2 ?_
  refine ae (tT _ _ _ _) (ae (z:=false) rfl ?_)
  try rw[if_neg (by simp)]
  subst CU
  exact k2 _ ⟨_,rfl⟩
 clear hN
 refine b7 λA1 B1 FN CU=>?_
 have wi:=w.id
 have yes:∀PP:Wd,PP.nx=N->(∀t∈ts,-(10 ^ 29)<t.cost/\t.cost<10 ^ 29)->A1 PP [some ⟨0,x⟩,some ⟨4,.nE⟩,some ⟨0,y⟩,some ⟨0,eQ ps ts⟩,some ⟨0,xB A f⟩,some ⟨0,xB A λa=>a⟩,some ⟨0,.tup ((xK ps ts).map .str)⟩,some ⟨0,eQ w8 (ts.map (rn f λc=>c*1+0))⟩,some ⟨0,.lst [eQ w8 (ts.map (rn f λc=>c*1+0))]⟩,v9,v10,some ⟨2,x4 T⟩]:=by
  intro PP hP hb
  subst FN
  simp only[xp]
  try lia
  refine⟨ps,ts,A,λa=>a,1,17,rfl,o,wi,by decide,λp1 r1 i1 l1=>?_⟩
  try lia
  try refine ae (z:=PV.int (-5)) rfl ?_
  refine⟨ps,ts,A,λa=>a,3,-5,rfl,o,wi,by decide,λp2 r2 i2 l2=>?_⟩
  try lia
  refine ae (jW (by simp)) ?_
  show PP.nx _
  rw[hP]
  refine fin [(w8,ts.map (rn f λc=>c*1+0)),(p1,ts.map (rn (λa=>a) λc=>c*1+17)),(p2,ts.map (rn (λa=>a) λc=>c*3 + -5))] (λq hq=>?_) (by simp)
  rcases List.mem_cons.mp hq with rfl|hq
  .exact al
  rcases List.mem_cons.mp hq with rfl|hq
  .exact fG (wi.Mm i1 (lb (by decide))) (ls o wi r1 i1 l1 λt ht=>by
    obtain⟨c0,c1⟩:=hb t ht
    show -(10 ^ 30)<t.cost*1+17/\t.cost*1+17<10 ^ 30
    omega)
  rw[List.mem_singleton.mp hq]
  exact fG (wi.Mm i2 (lb (by decide))) (ls o wi r2 i2 l2 λt ht=>by
   obtain⟨c0,c1⟩:=hb t ht
   show -(10 ^ 30)<t.cost*3 + -5/\t.cost*3 + -5<10 ^ 30
   omega)
 have no:∀PP:Wd,PP.nx=N->B1 PP [some ⟨0,x⟩,some ⟨4,.nE⟩,some ⟨0,y⟩,some ⟨0,eQ ps ts⟩,some ⟨0,xB A f⟩,some ⟨0,xB A λa=>a⟩,some ⟨0,.tup ((xK ps ts).map .str)⟩,some ⟨0,eQ w8 (ts.map (rn f λc=>c*1+0))⟩,some ⟨0,.lst [eQ w8 (ts.map (rn f λc=>c*1+0))]⟩,v9,v10,some ⟨2,x4 T⟩]:=by
  intro PP hP
  subst CU
  show PP.nx _
  rw[hP]
  exact fin [(w8,ts.map (rn f λc=>c*1+0))] (λq hq=>by rw[List.mem_singleton.mp hq];exact al) (by simp)
 simp only[EZ]
 try lia
 refine ae (CO ps ts) ?_
 try lia
 refine bv (λx=>match x with|.tup [_,_,_,.int d]=>.int (if d<0 then -d else d)|_=>.nE) (λz hz R hR=>?_) (by rw[aad,ab6];omega) ?_
 .obtain⟨t,ht,rfl⟩:=List.mem_map.mp hz
  exact ae (z:=.int t.cost) (av (j:=3) rfl) (ae rfl hR)
 have eC:((ts.map oF).map (λx=>match x with|.tup [_,_,_,.int d]=>PV.int (if d<0 then -d else d)|_=>.nE))=(ts.map λt=>if t.cost<0 then -t.cost else t.cost).map PV.int:=by rw[aaw,aaw];rfl
 rw[abe,eC]
 refine⟨_,dA _,λl0=>?_,λm mx=>?_⟩
 .refine ae (z:=.int (10 ^ 29)) rfl (ae (z:=.bl true) rfl (ae (z:=true) rfl ?_))
  rw[if_pos rfl]
  have t0:ts=[]:=by rw[aad]at l0;exact List.length_eq_zero_iff.mp l0
  exact yes _ rfl λt ht=>by rw[t0]at ht;cases ht
 .have hm:∀t∈ts,(if t.cost<0 then -t.cost else t.cost)<=(ts.map λt=>if t.cost<0 then -t.cost else t.cost).getD m 0:=λt ht=>by
   obtain⟨i,hi,rfl⟩:=ace ht
   have:=mx.2 i (by rw[aad];exact hi)
   rw[aag,aai,aaa hi]at this
   exact this
  generalize (ts.map λt=>if t.cost<0 then -t.cost else t.cost).getD m 0=v at hm ⊢
  refine ae (z:=.int (10 ^ 29)) rfl (ae (z:=.bl (decide (v<10 ^ 29))) rfl (ae rfl ?_))
  by_cases hv:v<10 ^ 29
  .rw[if_pos (decide_eq_true hv)]
   refine yes _ rfl λt ht=>?_
   have:=hm t ht
   split at this<;>omega
  .rw[if_neg (by rw[decide_eq_false hv];exact aaz)]
   exact no _ rfl
variable{K:aah}{mg:Str->Option Value}{st:Stmt}
abbrev GQ(P:aaB)(w:World)(base:Heap)(d:Df K mg x st ps)(k:Nat)(D:Fd):Prop:=w4 P w K mg base ye k d.f d.fd ps (G8 ⟨P,w,K,zA K⟩ ps.length D)
abbrev GO(P:aaB)(w:World)(base:Heap)(d:Df K mg x st ps)(k:Nat)(D:Ai):Prop:=w4 P w K mg base ye k d.f d.fd ps (E8 ⟨P,w,K,zA K⟩ ps.length D)
abbrev GT(P:aaB)(w:World)(base:Heap)(d:Df K mg x st ps)(k:Nat)(D:Ai):Prop:=w4 P w K mg base ye k d.f d.fd ps (spT ⟨P,w,K,zA K⟩ ps.length D)
theorem Be{N P:List Str}{sc:Scope}(kind:sc.kind=.function:=by rfl)(co:sc.isCoroutine=false:=by rfl)(gen:sc.isGenerator=false:=by rfl)(nd:N.Nodup:=by decide +kernel)(pre:N.take P.length=P:=by rfl)
  (par:∀x∈P,sc.names.lookup x=some .local\/sc.names.lookup x=some .cell:=by decide +kernel) (CM:∀y∈sc.names,y.2≠.free:=by decide +kernel):az N P sc:=⟨kind,co,gen,nd,pre,par,CM⟩
variable{ob:xV}{X:Cx}{k':Nat}{D:Fd}{DO:Ai}{p p1 pos:Pos}{e a b:Expr}{es:List Expr}{fa:WA}{f g:WE}
theorem aT(i:Nat)(hN:X.N[i]?=some x:=by rfl)(hv:D3 X.env.scope x:=by first|exact Or.inl rfl|exact Or.inr (Or.inl rfl)|exact Or.inr (Or.inr rfl))(hd:(x==("__debug__" : Str))=false:=by decide)(hcd:(x==("__classdict__" : Str))=false:=by decide):
  xu ob X (.Name x pos) (eV i):=vQ i (pv i hN hv hd hcd)
theorem wQ(i:Nat)(hN:X.N[i]?=some x:=by rfl)(hv:D3 X.env.scope x:=by first|exact Or.inl rfl|exact Or.inr (Or.inl rfl)|exact Or.inr (Or.inr rfl))(hd:(x==("__debug__" : Str))=false:=by decide)(hcd:(x==("__classdict__" : Str))=false:=by decide):
  Bd ob X (.Name x pos) (yi i):=um i (pv i hN hv hd hcd)
theorem xr{d:Df X.K X.mg x st ps}(F:w4 X.prog X.w X.K X.mg X.base ye k d.f d.fd ps (G8 (md ob X) n D))(hr:xw k' X.A)(ha:CC ob X (e::es) fa)(hk:k<=k':=by decide)(hn:es.length+1=n:=by rfl)(hg:Gl X x:=by rfl)
  (zR:(x==("__debug__" : Str))=false:=by decide) (he:aam (e::es) X.env=(false,eval e X.env)::aam es X.env:=by rfl) (yt:(backTo pos (aam es X.env)).any (·.1)=false:=by rfl) :
  xu ob X (.Call (.Name x p) (e::es) [] pos) (xi D fa):=ur F (hr.mono hk) d.n.mg d.n.kp d.b ha hn hg zR he yt
theorem xf(i:Nat){d:Df X.K X.mg x st ps}(F:w4 X.prog X.w X.K X.mg X.base ye k d.f d.fd ps (E8 (md ob X) n DO))(hr:xw k' X.A)(ha:CC ob X es fa)(ho:PE X (.Name y p1) (xx i):=by exact pv _)(hk:k<=k':=by decide)(hn:es.length+1=n:=by rfl)(hg:Gl X x:=by rfl)
  (zR:(x==("__debug__" : Str))=false:=by decide) (he:aam (.Name y p1::es) X.env=(false,eval (.Name y p1) X.env)::aam es X.env:=by rfl) (yt:(backTo pos (aam es X.env)).any (·.1)=false:=by rfl) :
  xu ob X (.Call (.Name x p) (.Name y p1::es) [] pos) (wR DO i fa):=sg i F (hr.mono hk) d.n.mg d.n.kp d.b ho ha hn hg zR he yt
theorem CT(j:Nat){d:Df X.K X.mg x st ps}(F:w4 X.prog X.w X.K X.mg X.base ye k d.f d.fd ps (spT (md ob X) n DO))(hr:xw k' X.A)(ha:CC ob X (e::es) fa)(hk:k<=k':=by decide)(hn:es.length+1=n:=by rfl)(hg:Gl X x:=by rfl)
  (zR:(x==("__debug__" : Str))=false:=by decide) (he:aam (e::es) X.env=(false,eval e X.env)::aam es X.env:=by rfl) (yt:(backTo pos (aam es X.env)).any (·.1)=false:=by rfl) :
  xu ob X (.Call (.Name x p) (e::es) [] pos) (zh DO j fa):=sf j F (hr.mono hk) d.n.mg d.n.kp d.b ha hn hg zR he yt
theorem xZ(hr:xw k X.A)(ha:xu ob X a f)(hb:Bd ob X b g)(hs:eM b:=by exact λ_ _=>rfl):xu ob X (.Subscript a b pos) (wO iN f g):=wH (HD hr) ha hb hs
theorem FG(i:Nat)(hr:xw k X.A)(hb:Bd ob X b g)(ha:PE X (.Name x p) (xx i):=by exact pv _)(hs:eM b:=by exact λ_ _=>rfl):xu ob X (.Subscript (.Name x p) b pos) (Cm iN i g):=vX i (HD hr) ha hb hs
theorem Kg{op:CmpOp}{r:R2}{o:PV->PV->Option PV}(hr:ya X (abb op) r)(hq:Bo ob X r o)(ha:xu ob X a f)(hb:Bd ob X b g)(hm:acu op b=false:=by first|exact zQ _|rfl):xu ob X (.Compare a [op] [b] pos) (wO o f g):=vZ hr hq ha hb hm
theorem xG{op:CmpOp}{r:R2}{o:PV->PV->Option PV}(hr:ya X (abb op) r)(hq:Bo ob X r o)(ha:xu ob X a f)(hb:Bd ob X b g)(hm:acu op b=false:=by first|exact zQ _|rfl):C7 ob X (.Compare a [op] [b] pos) (xo (wO o f g)):=ut hr hq ha hb hm
variable{P:aaB}{w:World}{base:Heap}
theorem LV:az ["net", "tie"] ["net", "tie"] (ap jp):=Be
theorem dR(Y:Ev K mg):GQ P w base Y.BL 1 bQ :=
 bj (bK Y.BL.F LV (by decide) (λxn A outer s H E hr=>by
  unfold dG
  exact(au (aF (wc (Kg (lK (DP hr)) lH (xZ hr (aT 1) (wV ak)) (wV (xZ hr (aT 0) (wV ak)))) (vS (Kg (lK (DP hr)) lH (xZ hr (aT 1) (wV ak)) (wV (xZ hr (aT 0) (wV ak)))))))))) mK
theorem cj:(["tie"]:List Str).Nodup:=by decide +kernel
theorem Pt:az ["net"] ["net"] (ap dM):=Be
theorem dg(Y:Ev K mg):GQ P w base Y.zf 1 bw :=
 bj (bK Y.zf.F Pt (by decide) (λxn A outer s H E hr=>by
  unfold bR
  exact(au (aF (zj (sE (N:=["tie"]) (aK (xZ hr (aT 0) (wV ak))) (λ_ _ _ _ _=>aI (i:=0) cj rfl (Or.inl rfl)) (λ_ _ _ _ _=>bp) (λ_ _ _ _ _=>(xZ hr (aT 0) (wV ak))) (λ_ _ _ _ _=>(aT 0)))))))) ia
theorem db:(["tie", "net"]:List Str).Nodup:=by decide +kernel
theorem Pr:az ["net"] ["net"] (ap fE):=Be
theorem cK(Y:Ev K mg):GQ P w base Y.zT 2 bA :=
 bj (bK Y.zT.F Pr (by decide) (λxn A outer s H E hr=>by
  unfold cH
  exact(au (aF (ce ba bb (by rfl) Y.xJ aaP (AG (ab (zj (cb (N:=["tie", "net"]) (aK (xZ hr (aT 0) (wV ak))) (λ_ _ _ _ _=>aI (i:=0) db rfl (Or.inl rfl)) (λ_ _ _ _ _=>mi (jc (wV (xr (dR Y) hr (ab (aT 1) (ab (aT 0) ah)))))) (λ_ _ _ _ _=>(xZ hr (aT 0) (wV ak))))) ah))))))) kO
theorem Po:az ["net"] ["net"] (ap g9):=Be
theorem gL(Y:Ev K mg):GQ P w base Y.A2 2 cu :=
 bj (bK Y.A2.F Po (by decide) (λxn A outer s H E hr=>by
  unfold dE
  exact(au (aF (ce ba bb (by rfl) Y.xJ aaP (AG (ab (zj (cb (N:=["tie", "net"]) (aK (xZ hr (aT 0) (wV ak))) (λ_ _ _ _ _=>aI (i:=0) db rfl (Or.inl rfl)) (λ_ _ _ _ _=>mi (we (jc (wV (xr (dR Y) hr (ab (aT 1) (ab (aT 0) ah))))))) (λ_ _ _ _ _=>(xZ hr (aT 0) (wV ak))))) ah))))))) mI
theorem LU:az ["net"] ["net"] (ap CK):=Be
theorem qk(Y:Ev K mg):GQ P w base Y.CV 1 fZ :=
 bj (bK Y.CV.F LU (by decide) (λxn A outer s H E hr=>by
  unfold fC
  exact(au (aF (zj (sE (N:=["tie"]) (aK (xZ hr (aT 0) (wV ak))) (λ_ _ _ _ _=>aI (i:=0) cj rfl (Or.inl rfl)) (λ_ _ _ _ _=>bp) (λ_ _ _ _ _=>(xZ hr (aT 0) (wV ak))) (λ_ _ _ _ _=>(aW (ab (xZ hr (aT 0) (wV ak)) (ab (xZ hr (aT 0) (wV ak)) ah)))))))))) pN
theorem N9:az ["net", "names", "rank", "#t"] ["net", "names"] (ap cJ):=Be
theorem fg:DB "name" "rank" {posonlyargs:=[],args:=[{arg := "name",annotation:=none,pos:=p}],vararg:=none,kwonlyargs:=[],kw_defaults:=[],kwarg:=none,defaults:=[]} {kind:=.function,names:=[("name",.local),("rank",.free)],isGenerator:=false,isCoroutine:=false,more:=[]} :=
 ⟨rfl,rfl,rfl,by decide,rfl,rfl,rfl,rfl,rfl,rfl,λ_ _ _ _ _ _ _=>rfl⟩
theorem fh:DD "rank" {posonlyargs:=[],args:=[{arg := "name",annotation:=none,pos:=p}],vararg:=none,kwonlyargs:=[],kw_defaults:=[],kwarg:=none,defaults:=[]} {kind:=.function,names:=[("name",.local),("rank",.free)],isGenerator:=false,isCoroutine:=false,more:=[]} :=
 ⟨λ_=>rfl,λenv cell h=>by simp[closureFor,cellOf,h]⟩
theorem gF(Y:Ev K mg)(hB:BMain mg base):GT P w base Y.yb 2 (bP Y.wZ) :=
 nJ (lX (nm := "#t") Y.yb.F N9 rfl (by decide) rfl (by unfold D3;decide +kernel) (λxn ES A outer s H E hr=>by
  unfold bN
  obtain⟨c,hc,hC⟩:=Y.yU
  have hcd:=ES.symm.trans hc
  exact(am (aD 2 N9.nd rfl (Or.inr rfl) (xr (qk Y) hr (ab (aT 0) ah)))
  (au (aF (zj (se 3 2 fg fh hr (by rfl) Y.xt (by rfl) hcd hC hB (by rfl) (by rfl) (Or.inr (Or.inl rfl)) (aT 1)))))))) (gB _)
theorem b0:(["place"]:List Str).Nodup:=by decide +kernel
theorem bZ:(["place", "word", "stays", "goes"]:List Str).Nodup:=by decide +kernel
theorem Fn:az ["net", "names", "named", "group", "kept", "name", "tie", "stays", "goes"] ["net", "names"] (ap cI):=Be
theorem gD(Y:Ev K mg):GQ P w base Y.yH 2 bO :=
 bj (bK Y.yH.F Fn (by decide) (λxn A outer s H E hr=>by
  unfold bM
  exact(am (aD 2 Fn.nd rfl (Or.inl rfl) (xr (dg Y) hr (ab (aT 0) ah)))
  (am (sD 3 (N:=["place"]) Fn.nd rfl rfl (aK (xZ hr (aT 0) (wV ak))) (λ_ _ _ _ _=>aI (i:=0) b0 rfl (Or.inl rfl)) (λ_ _ _ _ _=>bp) (λ_ _ _ _ _=>(aT 0)) (λ_ _ _ _ _=>(aT 0)))
  (am (bB 4 Fn.nd rfl (Or.inl rfl) (bz ah))
  (am (bx aaU rfl (aK (aT 1)) (aH 5 Fn.nd rfl (Or.inl rfl)) (am (aD 6 Fn.nd rfl (Or.inl rfl) (xZ hr (aT 2) (wQ 5)))
  (am (me (aW (ab (FG 3 hr (wV (xZ hr (aT 6) (wV ak)))) (ab (FG 3 hr (wV (xZ hr (aT 6) (wV ak)))) ah))) (fV (n:=2) rfl (aU (aH 7 Fn.nd rfl (Or.inr rfl)) (aU (aH 8 Fn.nd rfl (Or.inr rfl)) eF)) (bf (bf fS))))
  (au (bn (xG (oA (yF hr)) lG (aT 7) (wQ 8)) (am (bV (wV (cL 4 aa6 aa5 aX bq (pv 4) (ab (aT 5) ah))))
  (au (sD 3 (N:=["place", "word", "stays", "goes"]) Fn.nd rfl rfl (qz 3 (pv 3)) (λ_ _ _ _ _=>pI (n:=2) rfl (hV (aI (i:=0) bZ rfl (Or.inl rfl)) (hV (aI (i:=1) bZ rfl (Or.inl rfl)) na))) (λ_ _ _ _ _=>bp) (λ_ _ _ _ _=>(aT 0)) (λ_ _ _ _ _=>(vY (xG (cD (Au hr)) cC (aT 1) (wQ 3)) (aT 2) (aT 1)))))) aQ)))))
  (au (aF (ce ba bb (by rfl) Y.xJ aaP (AG (ab (zj (cp rfl (by rfl) Y.xt (cr (wQ 4)))) ah))))))))))) gA
theorem Pq:az ["net", "#t"] ["net"] (ap fF):=Be
theorem fT(Y:Ev K mg)(hB:BMain mg base):GT P w base Y.zU 3 (cf Y.wZ) :=
 nJ (lX (nm := "#t") Y.zU.F Pq rfl (by decide) rfl (by unfold D3;decide +kernel) (λxn ES A outer s H E hr=>by
  unfold cU
  exact(au (aF (xr (gD Y) hr (ab (aT 0) (ab (CT 1 (gF Y hB) hr (ab (aT 0) (ab (xr (cK Y) hr (ab (aT 0) ah)) ah))) ah))))))) (lF _)
theorem LP:az ["net", "beside", "tie"] ["net"] (ap dP):=Be
theorem eu(Y:Ev K mg):GQ P w base Y.zg 2 bL :=
 bj (vN Y.zg.F LP (by decide) (λxn A outer s H E hr=>by
  unfold ck
  exact(am (oN 1 LP.nd rfl rfl (aK (xZ hr (aT 0) (wV ak))) (λ_ _ _ _ _=>aI (i:=0) b0 rfl (Or.inl rfl)) (λ_ _ _ _ _=>pv 0))
  (am (bx aaU rfl (aK (xZ hr (aT 0) (wV ak))) (aH 2 LP.nd rfl (Or.inl rfl)) (au (bn (jc (wV (xr (dR Y) hr (ab (aT 0) (ab (aT 2) ah))))) (am (i9 1 (HD hr) (pv 1) (xZ hr (aT 2) (wV ak)) (aW (ab (xZ hr (aT 2) (wV ak)) (ab (xZ hr (aT 2) (wV ak)) ah))))
  (au (i9 1 (HD hr) (pv 1) (xZ hr (aT 2) (wV ak)) (aW (ab (xZ hr (aT 2) (wV ak)) (ab (xZ hr (aT 2) (wV ak)) ah)))))) aQ)))
  (au (qr 1 (pv 1))))))) jD
theorem DF:az ["beside", "start", "come", "ahead", "here", "name", "place"] ["beside", "start"] (ap ju):=Be
theorem gO(Y:Ev K mg):GQ P w base Y.BN 1 cw :=
 bj (bK Y.BN.F DF (by decide) (λxn A outer s H E hr=>by
  unfold dI
  exact(am (bB 2 DF.nd rfl (Or.inl rfl) (uq (Bp.cons (aT 1) qw Bp.nil)))
  (am (bB 3 DF.nd rfl (Or.inl rfl) (bz (ab (aT 1) ah)))
  (am (ma aaU (jc (wQ 3)) (am (aD 4 DF.nd rfl (Or.inl rfl) (vV 3 ad6 ad5 vn vp (pv 3)))
  (au (bx aaU rfl (aK (xZ hr (aT 0) (wQ 4))) (fV (n:=2) rfl (aU (aH 5 DF.nd rfl (Or.inl rfl)) (aU (aH 6 DF.nd rfl (Or.inl rfl)) eF)) (bf (bf fS))) (au (bn (xG (jG (DP hr)) jE (aT 6) (wQ 2)) (am (vO 2 (HD hr) (aW (ab (aT 5) (ab (aT 4) ah))) (pv 2) (aT 6))
  (au (bV (wV (cL 3 aa6 aa5 aX bq (pv 3) (ab (aT 6) ah)))))) aQ))))))
  (au (aF (aT 2)))))))) mM
theorem Pn:az ["beside", "start"] ["beside", "start"] (ap hE):=Be
theorem mR(Y:Ev K mg):GQ P w base Y.A3 2 dS :=
 bj (bK Y.A3.F Pn (by decide) (λxn A outer s H E hr=>by
  unfold dF
  exact(au (aF (ce ba bb (by rfl) Y.xJ aaP (AG (ab (zj (cp rfl (by rfl) Y.xt (AG (ab (xr (gO Y) hr (ab (aT 0) (ab (aT 1) ah))) ah)))) ah))))))) mJ
theorem CD:az ["net", "beside", "seen", "told", "start", "piece", "place"] ["net"] (ap jo):=Be
theorem i7(Y:Ev K mg):GQ P w base Y.BK 3 cN :=
 bj (bK Y.BK.F CD (by decide) (λxn A outer s H E hr=>by
  unfold eU
  exact(am (aD 1 CD.nd rfl (Or.inl rfl) (xr (eu Y) hr (ab (aT 0) ah)))
  (am (qp 2 CD.nd rfl (Or.inl rfl) Y.E1)
  (am (bB 3 CD.nd rfl (Or.inl rfl) (bz ah))
  (am (bx aaU rfl (aK (xZ hr (aT 0) (wV ak))) (aH 4 CD.nd rfl (Or.inl rfl)) (au (bn (xG (jG (DP hr)) jE (aT 4) (wQ 2)) (am (aD 5 CD.nd rfl (Or.inl rfl) (xr (mR Y) hr (ab (aT 1) (ab (aT 4) ah))))
  (am (bx aaU rfl (aK (aT 5)) (aH 6 CD.nd rfl (Or.inl rfl)) (au (qq 2 (pv 2) (aT 6))))
  (au (bV (wV (cL 3 aa6 aa5 aX bq (pv 3) (ab (aT 5) ah))))))) aQ)))
  (au (aF (ce ba bb (by rfl) Y.xJ aaP (cr (wQ 3))))))))))) ou
theorem mO:(["tie", "names"]:List Str).Nodup:=by decide +kernel
theorem LR:az ["net", "names"] ["net", "names"] (ap Ew):=Be
theorem rX(Y:Ev K mg):GQ P w base Y.EV 1 iy :=
 bj (bK Y.EV.F LR (by decide) (λxn A outer s H E hr=>by
  unfold gU
  exact(au (aF (aW (ab (xZ hr (aT 0) (wV ak)) (ab (ce ba bb (by rfl) Y.xJ aaP (AG (ab (zj (cb (N:=["tie", "names"]) (aK (xZ hr (aT 0) (wV ak))) (λ_ _ _ _ _=>aI (i:=0) mO rfl (Or.inl rfl)) (λ_ _ _ _ _=>mi (xG (lK (DP hr)) lH (xZ hr (aT 0) (wV ak)) (wQ 1))) (λ_ _ _ _ _=>(aT 0)))) ah))) ah))))))) rm
theorem jJ:(["name", "named"]:List Str).Nodup:=by decide +kernel
theorem N8:az ["net", "names", "named"] ["net", "names"] (ap jt):=Be
theorem gM(Y:Ev K mg):GQ P w base Y.BM 2 cv :=
 bj (bK Y.BM.F N8 (by decide) (λxn A outer s H E hr=>by
  unfold dH
  exact(am (aD 2 N8.nd rfl (Or.inr rfl) (xr (dg Y) hr (ab (aT 0) ah)))
  (au (aF (cM (sn rfl) wm (by rfl) Y.GR PyProof.Rows.boot_sum (AG (ab (zj (cb (N:=["name", "named"]) (aK (aT 1)) (λ_ _ _ _ _=>aI (i:=0) jJ rfl (Or.inl rfl)) (λ_ _ _ _ _=>bp) (λ_ _ _ _ _=>(xZ hr (xZ hr (aT 1) (wQ 0)) (wV ak))))) ah)))))))) mL
theorem DE:az ["net", "forest", "one", "other", "come", "names", "here", "name"] ["net", "forest", "one", "other"] (ap Hd):=Be
theorem nH(Y:Ev K mg):GQ P w base Y.Ib 3 eN :=
 bj (bK Y.Ib.F DE (by decide) (λxn A outer s H E hr=>by
  unfold jh
  exact(am (aD 4 DE.nd rfl (Or.inl rfl) (xr (gO Y) hr (ab (xr (eu Y) hr (ab (xr (rX Y) hr (ab (aT 0) (ab (aT 1) ah))) ah)) (ab (aT 3) ah))))
  (am (bn (xG (jG (DP hr)) jE (aT 2) (wQ 4)) (au (aF qw)) aQ)
  (am (bB 5 DE.nd rfl (Or.inl rfl) (bz ah))
  (am (aD 6 DE.nd rfl (Or.inl rfl) (aT 2))
  (am (ma aaU (xG (oA (yF hr)) lG (aT 6) (wQ 3)) (am (me (xZ hr (aT 4) (wQ 6)) (fV (n:=2) rfl (aU (aH 7 DE.nd rfl (Or.inl rfl)) (aU (aH 6 DE.nd rfl (Or.inl rfl)) eF)) (bf (bf fS))))
  (au (bV (wV (cL 5 aa6 aa5 aX bq (pv 5) (ab (aT 7) ah)))))))
  (au (aF (ce ba bb (by rfl) Y.xJ aaP (cr (wQ 5)))))))))))) tD
theorem BA:az ["_law_state", "_law_many", "_law_letters", "_law_base", "_law_size", "_law_at", "_law_first", "_law_found", "_law_k", "_law_two"] ["_law_state", "_law_many"] (ap CJ):=Be
theorem pC(Y:Ev K mg):w4 P w K mg base ye 2 Y.xS.f Y.xS.fd ["_law_state", "_law_many"] (Bi ⟨P,w,K,zA K⟩ 2 (B4 10 du)) :=
 nI Y.xS.F BA (by decide) (λxn A outer s H E hr=>by
  unfold du
  exact(am (aD 2 BA.nd rfl (Or.inl rfl) vR)
  (am (aD 3 BA.nd rfl (Or.inl rfl) (xZ hr (aT 2) (wV (xf 0 (aG Y) hr (ab ak ah)))))
  (am (aD 4 BA.nd rfl (Or.inl rfl) (xf 0 (aG Y) hr (ab ak ah)))
  (am (aD 5 BA.nd rfl (Or.inl rfl) (xf 0 (aG Y) hr (ab (aJ (aT 4) (wV ak)) ah)))
  (am (aD 6 BA.nd rfl (Or.inl rfl) (xf 0 (aG Y) hr (ab ak ah)))
  (am (bB 7 BA.nd rfl (Or.inl rfl) (bz ah))
  (am (bx aaU rfl (fU (by rfl) Y.zG (ab (aT 1) ah)) (aH 8 BA.nd rfl (Or.inl rfl)) (am (aD 9 BA.nd rfl (Or.inl rfl) (aJ (xZ hr (aT 2) (wV (eB (aJ (aT 6) (wV (dh ak (wQ 8)))) (wV ak)))) (wV (xZ hr (aT 2) (wV (eB (aJ (aT 6) (wV (qx (aT 8) (wV ak)))) (wV ak)))))))
  (au (bn (sh (qy (xG sA pP (aT 1) (wV ak)) (nK (xG (cD (Au hr)) cC (aT 4) (wV ak))))) (au (bV (wV (cL 7 aa6 aa5 aX bq (pv 7) (ab (dh (aT 3) (wV (aJ (aT 8) (wV ak)))) ah))))) (au (bV (wV (cL 7 aa6 aa5 aX bq (pv 7) (ab (aJ (aJ (dh (aT 3) (wQ 5)) (wQ 9)) (wV (dh (aT 3) (wV (cF (aT 4) (wQ 5)))))) ah)))))))))
  (au (uj 7 (pv 7)))))))))))
theorem fm(Y:Ev K mg):w4 P w K mg base ye 2 Y.xS.f Y.xS.fd ["_law_state", "_law_many"] (Bi ⟨P,w,K,zA K⟩ 2 cG):=lZ (pC Y) pO
theorem LS:az ["_law_state", "_law_sort"] ["_law_state", "_law_sort"] (ap Ey):=Be
theorem rZ(Y:Ev K mg):GO P w base Y.EX 2 iA :=
 jP (lY Y.EX.F LS (by decide) (λxn A outer s H E hr=>by
  unfold gX
  exact(am (bn (xG (cD (Au hr)) cC (aT 1) (wV ak)) (au (aF ak)) aQ)
  (am (bn (xG (cD (Au hr)) cC (aT 1) (wV ak)) (au (aF (cF (xf 0 (aG Y) hr (ab ak ah)) (wV ak)))) aQ)
  (am (bn (xG (cD (Au hr)) cC (aT 1) (wV ak)) (au (aF (cF (xf 0 (aG Y) hr (ab ak ah)) (wV ak)))) aQ)
  (au (aF (xZ hr (zj (bz (ab (cF (ja ak (wV ak)) (wV ak)) (ab (cF ak (wV (ja ak (wV ak)))) (ab ak (ab (xf 0 (aG Y) hr (ab (ja ak (wV ak)) ah)) ah)))))) (wV (xf 0 (aG Y) hr (ab ak ah))))))))))) rq
theorem Ef:az ["_law_state", "_law_family", "_law_many", "_law_k", "_law_half", "_law_side", "_law_one"] ["_law_state", "_law_family", "_law_many", "_law_k"] (ap Ex):=Be
theorem rY(Y:Ev K mg):GO P w base Y.EW 2 iz :=
 jP (lY Y.EW.F Ef (by decide) (λxn A outer s H E hr=>by
  unfold gW
  exact(am (bn (xG (cD (Au hr)) cC (aT 1) (wV ak)) (au (aF (aW (ab (eB (aT 3) (wQ 2)) (ab (eB (aJ (aT 3) (wV ak)) (wQ 2)) ah))))) aQ)
  (am (bn (xG (cD (Au hr)) cC (aT 1) (wV ak)) (au (aF (aW (ab ak (ab (aJ ak (wV (xf 0 (aG Y) hr (ab (cF (aT 2) (wV ak)) ah)))) ah))))) aQ)
  (am (bn (sh (qy (xG (cD (Au hr)) cC (aT 1) (wV ak)) (nK (xG wE vc (aT 2) (wV ak))))) (am (aD 4 Ef.nd rfl (Or.inl rfl) (qx (aT 2) (wV ak)))
  (am (aD 5 Ef.nd rfl (Or.inl rfl) (xf 0 (aG Y) hr (ab ak ah)))
  (am (aD 6 Ef.nd rfl (Or.inl rfl) (xf 0 (aG Y) hr (ab (aT 4) ah)))
  (au (aF (aW (ab (aJ (dh (aT 5) (wQ 4)) (wQ 6)) (ab (aJ (dh (aT 5) (wQ 4)) (wV (eB (aJ (aJ (aT 6) (wV ak)) (wV (xf 0 (aG Y) hr (ab (cF (aT 4) (wV ak)) ah)))) (wQ 4)))) ah)))))))) aQ)
  (am (aD 6 Ef.nd rfl (Or.inl rfl) (xf 0 (aG Y) hr (ab (aT 2) ah)))
  (au (aF (aW (ab (aT 6) (ab (eB (aJ (aJ (aT 6) (wV ak)) (wV (xf 0 (aG Y) hr (ab (cF (aT 2) (wV ak)) ah)))) (wQ 2)) ah))))))))))) rp
theorem Ak:az ["_law_state", "_law_most", "_law_ties_most", "_law_many", "_law_words_here", "_law_pool", "_law_count", "_law_names", "_law_family", "_law_sort", "_law_ties", "_law_k", "_law_one", "_law_other", "_law_two"] ["_law_state", "_law_most", "_law_ties_most"] (ap Hg):=Be
theorem ug(Y:Ev K mg):GO P w base Y.Ic 3 jY :=
 jP (lY Y.Ic.F Ak (by decide) (λxn A outer s H E hr=>by
  unfold ji
  exact(am (aD 3 Ak.nd rfl (Or.inl rfl) (xf 0 (aG Y) hr (ab (aJ (aT 1) (wV ak)) ah)))
  (am (aD 4 Ak.nd rfl (Or.inl rfl) (zj (dB 0 (fm Y) (hr.mono (by decide)) Y.xS.n.mg Y.xS.n.kp Y.xS.b (pv 0) (ab (aJ (aT 3) (wV ak)) ah))))
  (am (aD 5 Ak.nd rfl (Or.inl rfl) (kX (aT 4) gj (gi (wV (cM (wj rfl) wo (by rfl) Y.DA PyProof.Rows.boot_max (AG (ab ak (ab (aJ (aT 3) (wV (xf 0 (aG Y) hr (ab ak ah)))) ah))))))))
  (am (aD 6 Ak.nd rfl (Or.inl rfl) (xf 0 (aG Y) hr (ab (aJ (aT 2) (wV ak)) ah)))
  (am (aD 7 Ak.nd rfl (Or.inl rfl) (zj (dB 0 (fm Y) (hr.mono (by decide)) Y.xS.n.mg Y.xS.n.kp Y.xS.b (pv 0) (ab (aT 6) ah))))
  (am (vP 8 9 rfl Ak.nd rfl rfl (by decide) rfl rfl (ab (xf 0 (aG Y) hr (ab ak ah)) (ab (xf 0 (aG Y) hr (ab ak ah)) ah)) rfl)
  (am (bB 10 Ak.nd rfl (Or.inl rfl) (bz ah))
  (am (bx aaU rfl (fU (by rfl) Y.zG (ab (aT 6) ah)) (aH 11 Ak.nd rfl (Or.inl rfl)) (am (me (xf 0 (rY Y) hr (ab (aT 8) (ab (cM eI eJ (by rfl) Y.Ah acz (cr (wQ 5))) (ab (aT 11) ah)))) (fV (n:=2) rfl (aU (aH 12 Ak.nd rfl (Or.inl rfl)) (aU (aH 13 Ak.nd rfl (Or.inl rfl)) eF)) (bf (bf fS))))
  (am (aD 14 Ak.nd rfl (Or.inl rfl) (zj (cp rfl (by rfl) Y.xt (AG (ab (zj (bz (ab (xZ hr (aT 5) (wQ 12)) (ab (xZ hr (aT 5) (wQ 13)) ah)))) ah)))))
  (au (bV (wV (cL 10 aa6 aa5 aX bq (pv 10) (ab (aW (ab (xZ hr (aT 7) (wQ 11)) (ab (xZ hr (aT 14) (wV ak)) (ab (xZ hr (aT 14) (wV ak)) (ab (xf 0 (rZ Y) hr (ab (aT 9) ah)) ah))))) ah))))))))
  (au (aF (aW (ab (ce ba bb (by rfl) Y.xJ aaP (AG (ab (zj (cp rfl (by rfl) Y.xt (AG (ab (kX (aT 4) gj (gi (wQ 3))) ah)))) ah))) (ab (ce ba bb (by rfl) Y.xJ aaP (AG (ab (zj (sd (by rfl) Y.xt (cr (wQ 10)))) ah))) ah))))))))))))))) tE
theorem bG:(["_law_tie"]:List Str).Nodup:=by decide +kernel
theorem fM:(["_law_word", "_law_state", "_law_left"]:List Str).Nodup:=by decide +kernel
theorem LQ:az ["_law_state", "_law_net_here", "_law_known", "_law_left"] ["_law_state", "_law_net_here"] (ap dN):=Be
theorem iM(Y:Ev K mg):w4 P w K mg base ye 3 Y.xl.f Y.xl.fd ["_law_state", "_law_net_here"] (Bi ⟨P,w,K,zA K⟩ 2 (B4 4 bC)) :=
 nI Y.xl.F LQ (by decide) (λxn A outer s H E hr=>by
  unfold bC
  exact(am (aD 2 LQ.nd rfl (Or.inl rfl) (zj (oO rfl (by rfl) Y.xt (by rfl) Y.E1 (AG (ab (aJ (aJ (zj (mh uC uD (by rfl) Y.E2 PyProof.Rows.boot_list (AG (ab (xZ hr (aT 1) (wV ak)) ah)))) (wV (zj (cb (N:=["_law_tie"]) (aK (xZ hr (aT 1) (wV ak))) (λ_ _ _ _ _=>aI (i:=0) bG rfl (Or.inl rfl)) (λ_ _ _ _ _=>bp) (λ_ _ _ _ _=>(xZ hr (aT 0) (wV ak))))))) (wV (zj (cb (N:=["_law_tie"]) (aK (xZ hr (aT 1) (wV ak))) (λ_ _ _ _ _=>aI (i:=0) bG rfl (Or.inl rfl)) (λ_ _ _ _ _=>bp) (λ_ _ _ _ _=>(xZ hr (aT 0) (wV ak))))))) ah)))))
  (am (bB 3 LQ.nd rfl (Or.inr rfl) (dB 0 (fm Y) (hr.mono (by decide)) Y.xS.n.mg Y.xS.n.kp Y.xS.b (pv 0) (ab (cM eI eJ (by rfl) Y.Ah acz (cr (wQ 2))) ah)))
  (au (uk (mh (nV rfl) nW (by rfl) Y.C0 PyProof.Rows.boot_dict (AG (ab (zj (cb (N:=["_law_word", "_law_state", "_law_left"]) (aK (aT 2)) (λ_ _ _ _ _=>aI (i:=0) fM rfl (Or.inl rfl)) (λ_ _ _ _ _=>bp) (λ_ _ _ _ _=>(aW (ab (aT 0) (ab (cL 2 ad6 ad5 lN rM (pv 2) (ab (xf 1 (aG Y) hr (ab (cM eI eJ (by rfl) Y.Ah acz (cr (wQ 2))) ah)) ah)) ah)))))) ah))))))))
theorem ip(Y:Ev K mg):w4 P w K mg base ye 3 Y.xl.f Y.xl.fd ["_law_state", "_law_net_here"] (Bi ⟨P,w,K,zA K⟩ 2 cg):=lZ (iM Y) iP
theorem kQ:(["_law_place", "_law_words_here"]:List Str).Nodup:=by decide +kernel
theorem CF:az ["_law_net_here", "_law_words_here", "_law_times", "_law_more", "_law_ties", "_law_name", "_law_one", "_law_other", "_law_cost_here", "_law_two"] ["_law_net_here", "_law_words_here", "_law_times", "_law_more"] (ap jv):=Be
theorem fj(Y:Ev K mg):GQ P w base Y.BO 1 ci :=
 bj (bK Y.BO.F CF (by decide) (λxn A outer s H E hr=>by
  unfold eY
  exact(am (bB 4 CF.nd rfl (Or.inl rfl) (bz ah))
  (am (bx aaU rfl (aK (xZ hr (aT 0) (wV ak))) (fV (n:=4) rfl (aU (aH 5 CF.nd rfl (Or.inl rfl)) (aU (aH 6 CF.nd rfl (Or.inl rfl)) (aU (aH 7 CF.nd rfl (Or.inl rfl)) (aU (aH 8 CF.nd rfl (Or.inl rfl)) eF)))) (bf (bf (bf (bf fS))))) (am (aD 9 CF.nd rfl (Or.inl rfl) (zj (cp rfl (by rfl) Y.xt (AG (ab (zj (bz (ab (xZ hr (aT 1) (wQ 6)) (ab (xZ hr (aT 1) (wQ 7)) ah)))) ah)))))
  (au (bV (wV (cL 4 aa6 aa5 aX bq (pv 4) (ab (aW (ab (aT 5) (ab (xZ hr (aT 9) (wV ak)) (ab (xZ hr (aT 9) (wV ak)) (ab (aJ (dh (aT 8) (wQ 2)) (wQ 3)) ah))))) ah)))))))
  (au (aF (aW (ab (ce ba bb (by rfl) Y.xJ aaP (AG (ab (zj (cp rfl (by rfl) Y.xt (AG (ab (zj (cb (N:=["_law_place", "_law_words_here"]) (aK (xZ hr (aT 0) (wV ak))) (λ_ _ _ _ _=>aI (i:=0) kQ rfl (Or.inl rfl)) (λ_ _ _ _ _=>bp) (λ_ _ _ _ _=>(xZ hr (aT 1) (wQ 0))))) ah)))) ah))) (ab (ce ba bb (by rfl) Y.xJ aaP (cr (wQ 4))) ah))))))))) oz
theorem oG:(["_law_word"]:List Str).Nodup:=by decide +kernel
theorem iT:(["_law_piece"]:List Str).Nodup:=by decide +kernel
theorem zK:az ["_law_script", "_law_state", "_law_turn", "_law_net_here", "_law_words_here", "_law_plain", "_law_tree", "_law_net_called", "_law_others", "_law_other", "_law_one", "#t"] ["_law_script"] (ap Hh):=Be
theorem sZ(Y:Ev K mg)(hB:BMain mg base):w4 P w K mg base ye 4 Y.CW.f Y.CW.fd ["_law_script"] (spT ⟨P,w,K,zA K⟩ 1 (B0 11 (f7 Y.wZ))) :=
 lX (nm := "#t") Y.CW.F zK rfl (by decide) rfl (by unfold D3;decide +kernel) (λxn ES A outer s H E hr=>by
  unfold f7
  exact(am (qv 1 0 zK.nd rfl (Or.inl rfl) (ql Y) (hr.mono (by decide)) Y.zw.n.mg Y.zw.n.kp Y.zw.b (pv 0))
  (am (bx aaU rfl (fU (by rfl) Y.zG (ab (aJ ak (wV (cM eI eJ (by rfl) Y.Ah acz (AG (ab (kX (aT 0) gj (gi (wV ak))) ah))))) ah)) (aH 2 zK.nd rfl (Or.inl rfl)) (am (aD 3 zK.nd rfl (Or.inl rfl) (xf 1 (ug Y) hr (ab ak (ab ak ah))))
  (am (bB 4 zK.nd rfl (Or.inl rfl) (dB 1 (ip Y) (hr.mono (by decide)) Y.xl.n.mg Y.xl.n.kp Y.xl.b (pv 1) (ab (aT 3) ah)))
  (am (aD 5 zK.nd rfl (Or.inl rfl) (zj (mh (nV rfl) nW (by rfl) Y.C0 PyProof.Rows.boot_dict (AG (ab (zj (vW 4 (pv 4) (N:=["_law_word"]) (λ_ _ _ _ _=>aI (i:=0) oG rfl (Or.inl rfl)) (λ_ _ _ _ _=>bp) (λ_ _ _ _ _=>(aW (ab (aT 0) (ab (aT 0) ah)))))) ah)))))
  (am (aD 6 zK.nd rfl (Or.inl rfl) (CT 11 (fT Y hB) hr (ab (aT 3) ah)))
  (am (aD 7 zK.nd rfl (Or.inl rfl) (xr (fj Y) hr (ab (aT 3) (ab (aT 4) (ab ak (ab ak ah))))))
  (am (aD 8 zK.nd rfl (Or.inl rfl) (zj (bz (ab (aT 7) ah))))
  (am (bn (xG sA pP (uo (HD hr) rfl (by rfl) Y.DA (zj (cb (N:=["_law_tie"]) (aK (xZ hr (aT 3) (wV ak))) (λ_ _ _ _ _=>aI (i:=0) bG rfl (Or.inl rfl)) (λ_ _ _ _ _=>bp) (λ_ _ _ _ _=>(cM ir wq (by rfl) Y.E3 ad7 (AG (ab (xZ hr (aT 0) (wV ak)) ah))))))) (wV (ja ak (wV ak)))) (au (aD 8 zK.nd rfl (Or.inl rfl) (aJ (aT 8) (wV (zj (bz (ab (xr (fj Y) hr (ab (aT 3) (ab (aT 5) (ab ak (ab ak ah))))) (ab (xr (fj Y) hr (ab (aT 3) (ab (aT 5) (ab ak (ab (vU (wV ak)) ah))))) ah)))))))) aQ)
  (am (bx aaU rfl (aK (aT 8)) (aH 9 zK.nd rfl (Or.inl rfl)) (au (bn (sh (sI (xG (iQ (Au hr)) jF (CT 11 (fT Y hB) hr (ab (aT 9) ah)) (wQ 6)) (sI (xG (iQ (Au hr)) jF (xr (cK Y) hr (ab (aT 9) ah)) (wV (xr (cK Y) hr (ab (aT 3) ah)))) (wg (xG (iQ (Au hr)) jF (xr (gL Y) hr (ab (aT 9) ah)) (wV (xr (gL Y) hr (ab (aT 3) ah)))))))) (au (aF jb)) aQ)))
  (am (bn (xG (tK (HD hr)) rC (zj (mf (by rfl) Y.xt (AG (ab (zj (cb (N:=["_law_piece"]) (aK (xr (i7 Y) hr (ab (aT 7) ah))) (λ_ _ _ _ _=>aI (i:=0) iT rfl (Or.inl rfl)) (λ_ _ _ _ _=>bp) (λ_ _ _ _ _=>(cM eI eJ (by rfl) Y.Ah acz (cr (wQ 0)))))) ah)))) (wV (zj (mf (by rfl) Y.xt (AG (ab (zj (cb (N:=["_law_piece"]) (aK (xr (i7 Y) hr (ab (aT 3) ah))) (λ_ _ _ _ _=>aI (i:=0) iT rfl (Or.inl rfl)) (λ_ _ _ _ _=>bp) (λ_ _ _ _ _=>(cM eI eJ (by rfl) Y.Ah acz (cr (wQ 0)))))) ah)))))) (au (aF jb)) aQ)
  (am (bn (xG (oA (yF hr)) lG (xr (gM Y) hr (ab (aT 7) (ab (aT 6) ah))) (wV (xr (gM Y) hr (ab (aT 3) (ab (aT 6) ah))))) (au (aF jb)) aQ)
  (au (bx aaU rfl (aK (kX (xZ hr (aT 3) (wV ak)) gj (gi (wV ak)))) (aH 10 zK.nd rfl (Or.inl rfl)) (au (bx aaU rfl (aK (xZ hr (aT 3) (wV ak))) (aH 9 zK.nd rfl (Or.inl rfl)) (au (bn (xG (vg (Au hr)) tG (xr (nH Y) hr (ab (aT 7) (ab (aT 6) (ab (FG 4 hr (wQ 10)) (ab (FG 4 hr (wQ 9)) ah))))) (wV (xr (nH Y) hr (ab (aT 3) (ab (aT 6) (ab (aT 10) (ab (aT 9) ah))))))) (au (aF jb)) aQ)))))))))))))))))
  (au (aF jb)))))
theorem vk(Y:Ev K mg)(hB:BMain mg base):w4 P w K mg base ye 4 Y.CW.f Y.CW.fd ["_law_script"] (AI K Y.wZ):=t9 (sZ Y hB) (tF _)
end Pre
namespace Pre
open PySem L2
variable{fd:abA}{ps:List Str}
theorem Pj(us:List Value)(h:us.length=1)(k:∀a0,ac0 fd ⟨[a0],[]⟩=pure (ps.zip [a0])):ac0 fd ⟨us,[]⟩=pure (ps.zip us):=by obtain⟨a0,u0,rfl⟩:=aaD (h);obtain rfl:=List.length_eq_zero_iff.mp (aaW (h));exact k a0
theorem Sf(us:List Value)(h:us.length=2)(k:∀a0 a1,ac0 fd ⟨[a0,a1],[]⟩=pure (ps.zip [a0,a1])):ac0 fd ⟨us,[]⟩=pure (ps.zip us):=by obtain⟨a0,u0,rfl⟩:=aaD (h);obtain⟨a1,u1,rfl⟩:=aaD (aaW (h));obtain rfl:=List.length_eq_zero_iff.mp (aaW (aaW (h)));exact k a0 a1
theorem Se(us:List Value)(h:us.length=3)(k:∀a0 a1 a2,ac0 fd ⟨[a0,a1,a2],[]⟩=pure (ps.zip [a0,a1,a2])):ac0 fd ⟨us,[]⟩=pure (ps.zip us):=by obtain⟨a0,u0,rfl⟩:=aaD (h);obtain⟨a1,u1,rfl⟩:=aaD (aaW (h));obtain⟨a2,u2,rfl⟩:=aaD (aaW (aaW (h)));obtain rfl:=List.length_eq_zero_iff.mp (aaW (aaW (aaW (h))));exact k a0 a1 a2
theorem Sd(us:List Value)(h:us.length=4)(k:∀a0 a1 a2 a3,ac0 fd ⟨[a0,a1,a2,a3],[]⟩=pure (ps.zip [a0,a1,a2,a3])):ac0 fd ⟨us,[]⟩=pure (ps.zip us):=by obtain⟨a0,u0,rfl⟩:=aaD (h);obtain⟨a1,u1,rfl⟩:=aaD (aaW (h));obtain⟨a2,u2,rfl⟩:=aaD (aaW (aaW (h)));obtain⟨a3,u3,rfl⟩:=aaD (aaW (aaW (aaW (h))));obtain rfl:=List.length_eq_zero_iff.mp (aaW (aaW (aaW (aaW (h)))));exact k a0 a1 a2 a3
structure yk(K:aah)(x:Str)(st:Stmt) where
 {f:Addr}
 {od an:Option Addr}
 {sl:Array (Option Value)}
 {oc kV dc pm cd ct:Value}
 a:abX K aaQ x=some (some (.ref f))
 l:K.lookup f=some ⟨oc,od,.func (acF x x (cT st) (aZ st) (ap st) .none kV dc pm an cd ct),sl⟩
 c:ael K cd x=true
 k:abH K (.ref f)=true
variable{K:aah}{mg:Str->Option Value}{x:Str}{st:Stmt}
def yg{h:Heap}(X:K.In h)(G:h.Ns aaQ mg)(d:yk K x st)
  (hb:∀(kV doc pm:Value) (an:Option Addr) (xn ct:Value) (us:List Value),us.length=ps.length->ac0 (acF x x (cT st) (aZ st) (ap st) .none kV doc pm an xn ct) ⟨us,[]⟩=pure (ps.zip us):=by (intro _ _ _ _ _ _ us hl;first|exact Pj us hl λ_=>rfl|exact Sf us hl λ_ _=>rfl|exact Se us hl λ_ _ _=>rfl|exact Sd us hl λ_ _ _ _=>rfl)):Df K mg x st ps :=
 ⟨d.f,_,qo d.l d.c d.k,(qo d.l d.c d.k).binds hb,PySem.W.mg_of X G d.a,d.k⟩
theorem wy{l:afg}{w:World}{h:Heap}{fa c T:Addr}(X:K.In h)(G:h.Ns aaQ mg)(Q9:mg "law" = some (.ref fa))
  (d1:yk K "is_open" jp) (d2:yk K "ties_by_name" dM) (d3:yk K "open_ties" fE) (d4:yk K "waiting" g9) (d5:yk K "ranks" CK) (d6:yk K "cheaper_first" cJ) (d7:yk K "without_round" cI) (d8:yk K "cheapest" fF) (d9:yk K "neighbours" dP) (R7:yk K "came_by" ju) (R6:yk K "reached" hE) (R5:yk K "pieces" jo) (R4:yk K "only" Ew) (R3:yk K "cost_of" jt) (R1:yk K "way" Hd) (R0:yk K "_law_begin" yE) (RZ:yk K "_law_next" Dh) (RY:yk K "_law_words" CJ) (RX:yk K "_law_cost" Ey) (RW:yk K "_law_ends" Ex) (RV:yk K "_law_net" Hg) (RU:yk K "_law_other_words" dN) (RT:yk K "_law_called" jv) (LF:yk K "law" Hh) (hcd:d6.cd=.ref c) (hC:abO K c T=true)
  (z1:abX K aaQ "abs" = some none) (z2:abX K aaQ "dict" = some none) (z3:abX K aaQ "len" = some none) (z4:abX K aaQ "list" = some none) (z5:abX K aaQ "max" = some none) (z6:abX K aaQ "range" = some none) (z7:abX K aaQ "set" = some none) (z8:abX K aaQ "sorted" = some none) (z9:abX K aaQ "sum" = some none) (z10:abX K aaQ "tuple" = some none)  :
  ∃fd:abA,(∀(s:Shared) (v:Value),BindsTo s fd ⟨[v],[]⟩ [("_law_script",v)])/\(∃c,abO K c T=true)/\∀base:Heap,K.In base->base.Ns aaQ mg->BMain mg base->w4 l.prog w K mg base ye 4 fa fd ["_law_script"] (Q.AI K T):=by
 obtain⟨V,_,v,vT⟩:∃V:Ev K mg,∃hb,V.CW=yg X G LF hb/\V.wZ=T:=⟨{BL:=yg X G d1,zf:=yg X G d2,zT:=yg X G d3,A2:=yg X G d4,CV:=yg X G d5,yb:=yg X G d6,yH:=yg X G d7,zU:=yg X G d8,zg:=yg X G d9,BN:=yg X G R7,A3:=yg X G R6,BK:=yg X G R5,EV:=yg X G R4,BM:=yg X G R3,Ib:=yg X G R1,zw:=yg X G R0,Dx:=yg X G RZ,xS:=yg X G RY,EX:=yg X G RX,EW:=yg X G RW,Ic:=yg X G RV,xl:=yg X G RU,BO:=yg X G RT,CW:=yg X G LF,E3:=abt X G z1,C0:=abt X G z2,Ah:=abt X G z3,E2:=abt X G z4,DA:=abt X G z5,zG:=abt X G z6,E1:=abt X G z7,xt:=abt X G z8,GR:=abt X G z9,xJ:=abt X G z10,wZ:=T,yU:=⟨c,hcd,hC⟩},λ_ _ _ _ _ _ us hl=>Pj us hl λ_=>rfl,rfl,rfl⟩
 have g:=λbase hB=>vk (P:=l.prog) (w:=w) (base:=base) V hB
 rw[v,vT]at g
 have e:=Q9.symm.trans (PySem.W.mg_of X G LF.a)
 obtain rfl:fa=LF.f:=by injection e with e;injection e
 exact⟨_,λs v=>.of_eq rfl,⟨c,hC⟩,λbase _ _=>g base⟩
theorem walk{l:afg}{q:aaB}{loose:List Str}{XP:(Str->Option Value)->Heap->Prop}{YP:World->Heap->Prop}{d:DefRec}{K:Params->aah}{T:Addr}(hn:l.most=some 63)(Ke:d.params.defaults=[])
  (hY:∀(w:World) (h:Heap),YP w h->(K w.params).In h/\h.get? T=some (adA #[])) (hKT:∀w:World,(K w.params).lookup T=none)
  (F:∀(w:World) (mg:Str->Option Value) (fa:Addr) (h:Heap),(K w.params).In h->h.Ns aaQ mg->mg d.name=some (.ref fa) ->
   ∃fd:abA,(∀(s:Shared) (u:Value),BindsTo s fd ⟨[u],[]⟩ [("_law_script",u)])/\(∃c,abO (K w.params) c T=true)/\∀base:Heap,(K w.params).In base->base.Ns aaQ mg->BMain mg base->w4 l.prog w (K w.params) mg base ye 4 fa fd ["_law_script"] (Q.AI (K w.params) T)) :
  PySem.W.WalkO q loose XP YP l.row.toRowW d [] (λf vs=>PySem.call f vs) :=
 L2.qM (n:=63) (k:=4) (x := "_law_script") (sp:=λw=>Q.AI (K w.params) T) hn (by decide) Ke ⟨rfl,by decide,by decide,rfl⟩ hY hKT F λw H a ns hl hS hT=>⟨a,ns,rfl,hS,hl,hT,λH' ps e=>⟨rfl,ps,e⟩⟩
end Pre
open PySem PySem.W PyProof.Rows
set_option maxRecDepth 100000 in
set_option maxHeartbeats 0 in
theorem PySem.Challenge.cw_cheaptree_k17_whole_places_called_otherw_holds : PySem.Challenge.rw_cheaptree_k17_whole_places_called_otherw.Holds := by
 w_on; o_law; km_head; (case hw=>w_witness2)
 k_fill
 refine Pre.walk (l:=PySem.Challenge.rw_cheaptree_k17_whole_places_called_otherw) rfl rfl (fun w h Y=>⟨PySem.W.km_in_of Y,PySem.W.km_tabs_of Y _ List.mem_cons_self⟩) ?hKT ?F
 case F =>
  intro w mg fa h KX G hmg
  refine' Pre.wy KX G hmg ⟨?a1,?l1,?c1,?k1⟩ ⟨?a2,?l2,?c2,?k2⟩ ⟨?a3,?l3,?c3,?k3⟩ ⟨?a4,?l4,?c4,?k4⟩ ⟨?a5,?l5,?c5,?k5⟩ ⟨?a6,?l6,?c6,?k6⟩ ⟨?a7,?l7,?c7,?k7⟩ ⟨?a8,?l8,?c8,?k8⟩ ⟨?a9,?l9,?c9,?k9⟩ ⟨?a10,?l10,?c10,?k10⟩ ⟨?a11,?l11,?c11,?k11⟩ ⟨?a12,?l12,?c12,?k12⟩ ⟨?a13,?l13,?c13,?k13⟩ ⟨?a14,?l14,?c14,?k14⟩ ⟨?a15,?l15,?c15,?k15⟩ ⟨?a16,?l16,?c16,?k16⟩ ⟨?a17,?l17,?c17,?k17⟩ ⟨?a18,?l18,?c18,?k18⟩ ⟨?a19,?l19,?c19,?k19⟩ ⟨?a20,?l20,?c20,?k20⟩ ⟨?a21,?l21,?c21,?k21⟩ ⟨?a22,?l22,?c22,?k22⟩ ⟨?a23,?l23,?c23,?k23⟩ ⟨?a24,?l24,?c24,?k24⟩ ?hcd ?hC2 ?z1 ?z2 ?z3 ?z4 ?z5 ?z6 ?z7 ?z8 ?z9 ?z10
  case a1 | l1 | c1 | k1 | a2 | l2 | c2 | k2 | a3 | l3 | c3 | k3 | a4 | l4 | c4 | k4 | a5 | l5 | c5 | k5 | a6 | l6 | c6 | k6 | a7 | l7 | c7 | k7 | a8 | l8 | c8 | k8 | a9 | l9 | c9 | k9 | a10 | l10 | c10 | k10 | a11 | l11 | c11 | k11 | a12 | l12 | c12 | k12 | a13 | l13 | c13 | k13 | a14 | l14 | c14 | k14 | a15 | l15 | c15 | k15 | a16 | l16 | c16 | k16 | a17 | l17 | c17 | k17 | a18 | l18 | c18 | k18 | a19 | l19 | c19 | k19 | a20 | l20 | c20 | k20 | a21 | l21 | c21 | k21 | a22 | l22 | c22 | k22 | a23 | l23 | c23 | k23 | a24 | l24 | c24 | k24 | z1 | z2 | z3 | z4 | z5 | z6 | z7 | z8 | z9 | z10=>k_is
  (case hcd=>exact rfl); (case hC2=>kernel_rfl)
 case hKT=>(intro w; kernel_rfl)
