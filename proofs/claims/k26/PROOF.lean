import PyProof.Rows.All
import Wide.All
import OpenK.AllK
import Wide.FinOn
import Lean
import PyProof.EqAt
import PyProof.EqKinds
import PyProof.TupleCall
import KE.KDictOf
import KE.KDictSum
import KE.KIntText
import KE.KLam
import KE.KMinBuiltin
import KE.KNestM
import KE.KPairComp
import KE.KSortKey
import KE.KSortTup
import KE.KTab
import KE.LcSums
import PyProof.AttrMissHeap
import PyProof.Conv_int_bool
import PyProof.DictValues
import PyProof.Draws
import PyProof.EnumFor
import PyProof.EnumMake
import PyProof.EnumStmt
import PyProof.FactsAll.list_1
import PyProof.ListStr
import PyProof.MeetsStr2
import PyProof.NeKinds
import PyProof.ReprLen
import PyProof.ReprRoads
import PyProof.Rows.EnumRows
import PyProof.Rows.SetFrom
import PyProof.Rows.SortRev
import PyProof.Rows.StrBin
import PyProof.Rows.TupAdd
import PyProof.SetRoads
import PyProof.StrBlockG
import PyProof.StrBlockI
import PyProof.StrLawsChain
import PyProof.StrLawsIn
import PyProof.StrLawsRepr
import PyProof.StrLawsTight
import PyProof.StrWalks
import PyProof.WalksMore
import PyProof.ZipIter
import PySem.Challenge.RW_cheaptree_k26_whole_no_other_is_shown
local macro_rules|`(#v[$a,*])=>`(List.toArray [$a,*])
local macro_rules|`(#[$a,*])=>`(⟨$a,*⟩)
local macro_rules|`(#[])=>`(by omega)
local macro_rules|`(#[0])=>`(by simp)
local macro_rules|`(#[1])=>`(by simp_all)
local macro_rules|`(#[2])=>`(by decide)
local macro_rules|`(#[3])=>`(by simp;omega)
local macro_rules|`(#[4])=>`(by rfl)
noncomputable section
local macro_rules|`(tactic|omega)=>`(tactic|first|lia (config:={})|omega (config:={}))
set_option compiler.extract_closed false
set_option Elab.async false
set_option linter.all false
set_option maxRecDepth 100000
open PySem renaming wpAny_bind->aaa,wpAny_pure->aae,starEach->aai,wpAny_mono->aay,foldedSetIterable->aaC,Program->aaD,sizeLine_eq->aaJ,mainGlobals->aaR,wpAny_holding->aaY,wpAny_newObj_type->aa1,wpAny_call_entry->aa2,compareOp->aa4,wpAny_seqItems->abm,wpAny_callSpecial?_slot->abp,wpAny_field->abz,FuncData->abM,wpAny_standAt->abR,attributeBase->abS,swapsWith->abU,wpAny_setField->abY,wpAny_truthy_bool->ab0,mem_of_lookup->ab3,binaryOp->acg,codeAny_builtin->ach,bootBuiltins->acn,wpAny_askSetting->acr,wpAny_rule->acs,assignEach->act,wpAny_setField_rec->acA,wpAny_Call_Name_kw->acB,wpAny_passesOwn->acC,wpAny_setState_of->acG,wpAny_pyIter_list->acH,wpAny_newList->acI,sysModules->acJ,plainId_quiet->acK,wpAny_tryCatch->acO,codeAmong->acP,wpAny_setEntries_of->acR,codeAny->acS,slot_listiter_next->acU,wpAny_letGo->ac6,bindArgs->ada,Keyword->ade,wpAny_newFunctionEnv->adf,behindInMarks->adi,wpAny_updateSeq->adk,sliceBounds->adm,letOwnedTupleGo->adn,keywordEach->ado,holding->adp,Builtin->adx,tupleKind_room_in1->adA,codeAny_mono->adB,NameKind->adD,wpAny_pyIter_slot->adL,wpAny_comprehension_free->adM,swapsWithSole->adR,swappedStores->adS,strIterType->adT,compPost->adU,SetTable->adV,wpAny_typeOf->ad4,wpAny_execs_nil->ad5,getItem->ad6,strKind_is->aef,relayAll->aeg,wpAny_updateSeq_pair->aeh,wpAny_fieldsOf->aei,wpAny_pyIter_tuple->aeq,wpAny_onRaise->aer,wpAny_attempt->aes,pickOrder->aet,compEnvC->aev,backToKw->aew,strKind->aez,wpAny_assign_Name->aeE,wpAny_Name->aeF,fits_of_scanBound->aeG,closureFor->aeH,call_meets->aeI,builtinsNs->aeJ,codeAny_loop->aeU,wpAny_isInstance->aeZ,wpAny_eqBool_str->ae0,noFill_tuple_add->ae1,wpAny_of_eq->ae8,wpAny_noted->ae9,valueAt->afa,updateSeq->afb,tupleKind->afd,subscripted->afe,standAt->aff,seqIndex?->afg,codeAny_of_tree->afk,callerA->afl,wpAny_newTuple->afC,entry_listiter_next->afD
open List renaming getElem?_eq_getElem->aab,length_map->aac,mem_append_right->aak,getElem?_map->aal,mem_cons_of_mem->aam,mem_cons_self->aan,getElem?_eq_none->aao,size_toArray->aap,getD_eq_getElem?_getD->aaq,getElem?_append_left->aat,map_cons->aau,length_append->aav,getElem?_set_ne->aaw,length_filter_le->aaA,mem_of_getElem?->aaB,length_cons->aaG,mem_append_left->aaH,exists_cons_of_length_eq_add_one->aaI,map_map->aaL,map_append->aaM,replicate->aaO,mem_map_of_mem->aaV,nil_append->aa3,getElem?_zip_eq_some->aa5,mem_append->aa7,filter_sublist->aa8,append_nil->aa9,range->abd,mem_cons->abf,length_replicate->abg,take_length->abi,length_take->abj,mem_filter->abr,getElem?_set->abt,filterMap_map->abx,set_eq_of_length_le->aby,not_mem_nil->abA,mapM_cons->abB,lookup_cons->abC,getElem_inj->abD,nodup_append->abG,take_succ->abI,map_congr_left->abJ,getElem_mem->abQ,zip_cons_cons->abX,filter_congr->ab1,ext_getElem?->ab2,length_nil->ab4,take_of_length_le->ab7,nodup_iff_pairwise_ne->ab8,length_singleton->aca,filter_filter->acb,pairwise_iff_getElem->ace,drop_eq_getElem_cons->acf,nodup_cons->ack,length_range->acl,find?_cons->acm,replicate_succ->acp,getElem?_range->acq,length_pos_of_mem->acx,getElem?_set_self->acy,drop_eq_nil_of_le->acz,mem_of_mem_take->acN,length_drop->acQ,filterMap_cons->acT,mem_singleton->ac0,getElem?_cons_zero->ac1,filter_cons_of_neg->ac2,length->ac8,append_assoc->ac9,filter_cons->adc,of_mem_zip->adt,getElem_of_mem->adu,length_eraseIdx_of_lt->ady,getElem?_append_right->adz,pairwise_cons->adE,mem_of_find?_eq_some->adH,lt_irrefl->adI,pairwise_map->adP,sum_cons->adX,lookup->adY,nodup_range->ad1,all_eq_true->ad2,length_zip->aeb,getD->aeB,filter_append->aeC,take_sublist->aeN,eraseIdxIfInBounds_toArray->aeO,toArray->aeX,take_append_of_le_length->ae4,map_snd_zip->ae5,getElem_map->ae6,range_succ->aft,length_set->afu,forIn_cons->afv,find?_some->afw,perm_ext_iff_of_nodup->afz,findIdx?_eq_none_iff->afF
open PySem.Heap renaming get?_push_of_some->aad,get?_push_size->aag,lt_size->aah,size_push->abn,get?_update_self->abo,SameBut->abV,get?_update_other->ac4,ExtBut->adZ,get?_update_ne->aeo,get?_push_ne->aeQ
open PySem.W renaming Frag->aaf,mg_none_of->aaW,codeHdIn->abq,nsIn->abu,kia_one->abH,keepIn->abN,fnOf->acV,tabObj->adG,kitOne->aek,codeIn->ael,kas_item->aeu,methodObj->aeK,kas_rev->afj,instObj->afp,OpenLaw->afq,lookIn->afE
open Nat renaming le_refl->aaj,ne_of_lt->aas,lt_of_lt_of_le->aaz,zero_add->aaP,lt_or_ge->aaQ,le_trans->aaX,zero_le->aba,lt_succ_of_lt->abk,lt_irrefl->abv,add_assoc->abF,ne_of_gt->abL,lt_succ_self->abP,add_comm->aco,le_succ->ads,lt_trichotomy->adO,le_add_right->ad0,le_of_lt->aeV,le_of_eq->aeW,not_lt_zero->afs
open Option.some renaming inj->aar,injEq->aeL
open Option renaming map_eq_some_iff->aax,map_some->aea,isSome_map->aeM
open PySem.Str renaming ofString->aaE
open Bool renaming false_ne_true->aaF,and_eq_true->aaS,eq_iff_iff->aa0,not_eq_true'->abl,false_eq_true->abO,or_eq_true->aee,not_true->aeD,and_false->afH
open Array renaming length_toList->aaK,getElem?_eq_getElem->abT,getElem?_toList->abW,toList_push->aeR
open PySem.Heap.SameBut renaming update->aaN
open PySem.Builtin.SmallTypes renaming nextOf->aaT,ownedTupleIsFree->ab5,ownedTupleHandOut->aem
open Sum renaming inr->aaU,inl->afn
open Classical renaming byContradiction->aaZ
open PySem.Obj renaming data_mapFields->aa6,mapSeq->abK,isFreed_of_fields->ab9,cls_mapFields->ac7
open PySem.Value renaming none->abb,ref->abe,type->aci,str->ad7,isStrOf_shape->aen
open Nat.succ renaming inj->abh
open PySem.NameKind renaming free->abw,cell->acZ
open Ne renaming symm->abE
open PySem.Expr renaming Compare->abZ
open PySem.F renaming plain_min_loop->ab6,slot_tuple_iterator_next->acM,plainAttrs_list->acY,args_tuple_add_2->adN,entry_tuple_add->adW,slot_tuple_add->ad3,type_list_pop->ad8,slot_list_pop->ad9,slot_zip_next->aed,slot_str_ascii_iterator_iter->aeY,args_tuple_iterator_next_1->ae7,entry_tuple_iterator_next->afx
open Int renaming emod_lt_of_pos->acd,emod_nonneg->acF,toNat_natCast->acL
open PyProof.Rows renaming slot_tuple_getitem->acj,StrsAre->acw,get?_update_seq->acD,callWith_type1->acE,listUpdate_at->adh,entry_list_sort->adq,slot_list_sort->adF,args_list_sort->aej,AllBare->aep,assignInOrder_cons->aex,plain_sorted->aeS,entry_sorted->aeT,tuples'->afc,seqEpoch_at->afh,kind_sorted->afi,boot_sorted->afm
open True renaming intro->acu
open PySem.SetTable renaming grown->acv,below->adb,standIn->ae3
open False renaming elim->acW
open PySem.Builtin.Tuple renaming tupleExact->acX,tupleItemsOf->afB
open PySem.Builtin.Str renaming occurrences->ac3,strSliceIndices->adv
open PySem.Calls renaming callWith_builtin->ac5,call_function_entry->adJ,Name_function_global->afA
open PySem.Around renaming under_plainId->adg
open PySem.Txt renaming slice->adr
open PySem.Builtin.List renaming listExtendWith->adw
open PySem.SeqAt.EqAt renaming int_int->adC,str_str->aey,same->afo
open PySem.Builtin.Slice renaming slicePlaces->adK,sliceAdjust->afG
open List.Sublist renaming refl->adQ
open ForInStep renaming yield->aec
open PySem.Paired renaming length->aeA
open List.Pairwise renaming nil->aeP
open PySem.StrLaws renaming strSliceIndices_plain->ae2
open PySem.PassesOwn renaming never->afr
open PySem.Data renaming cell->afy
theorem Zq0(h:0=0:=by first|exact .inl rfl|exact .inr rfl|assumption):True:=trivial
namespace Zq0 end Zq0 open Zq0 renaming _auto_1->ge
theorem Zq1(h:0=0:=by decide):True:=trivial
namespace Zq1 end Zq1 open Zq1 renaming _auto_1->on
theorem Zq2(h:0=0:=by rfl):True:=trivial
namespace Zq2 end Zq2 open Zq2 renaming _auto_1->oR
theorem Zq3(h:0=0:=by intro _;rfl):True:=trivial
namespace Zq3 end Zq3 open Zq3 renaming _auto_1->At
theorem Zq4(h:0=0:=by with_unfolding_all rfl):True:=trivial
namespace Zq4 end Zq4 open Zq4 renaming _auto_1->AT
theorem Zq5(h:0=0:=by first|exact Or.inl rfl|exact Or.inr (Or.inl rfl)|exact Or.inr (Or.inr rfl)):True:=trivial
namespace Zq5 end Zq5 open Zq5 renaming _auto_1->BT
theorem Zq6(h:0=0:=by simp):True:=trivial
namespace Zq6 end Zq6 open Zq6 renaming _auto_1->B'
theorem Zq7(h:0=0:=by exact λ_ _=>rfl):True:=trivial
namespace Zq7 end Zq7 open Zq7 renaming _auto_1->Ch
theorem Zq8(h:0=0:=by intro _ _ _ _ _ _;rfl):True:=trivial
namespace Zq8 end Zq8 open Zq8 renaming _auto_1->Cl
theorem Zq9(h:0=0:=by decide +kernel):True:=trivial
namespace Zq9 end Zq9 open Zq9 renaming _auto_1->C'
theorem Zq10(h:0=0:=by exact pv _):True:=trivial
namespace Zq10 end Zq10 open Zq10 renaming _auto_1->Da
theorem Zq11(h:0=0:=by exact#[rfl,rfl,rfl,rfl,rfl,rfl,rfl,λ_=>rfl]):True:=trivial
namespace Zq11 end Zq11 open Zq11 renaming _auto_1->Db
theorem Zq12(h:0=0:=by (intro _ _ _ _ _ _ us hl;first|exact Xw us hl λ_=>rfl|exact ba2 us hl λ_ _=>rfl|exact ba3 us hl λ_ _ _=>rfl|exact ba4 us hl λ_ _ _ _=>rfl)):True:=trivial
namespace Zq12 end Zq12 open Zq12 renaming _auto_1->Do
namespace PySem.W.Fast
noncomputable def tw15950456581098316019:=()
noncomputable def tw11664727849362314738:=()
noncomputable def tw13328091630896076046:=()
noncomputable def tw9272849251893703650:=()
noncomputable def tw5700940550751671750:=()
noncomputable def tw17310066166912789420:=()
noncomputable def tw1180849039430825302:=()
noncomputable def tw18088112378926677279:=()
noncomputable def tw3915211419445401214:=()
noncomputable def tw16040001137835010570:=()
noncomputable def tw9029533558385339469:=()
noncomputable def tw7875555409876830142:=()
noncomputable def tw3247697818210663896:=()
noncomputable def tw5833845380830205912:=()
noncomputable def tw11840979555069703839:=()
noncomputable def tw16030784472429974893:=()
noncomputable def tw4499127875162356188:=()
noncomputable def tw5731677607836903373:=()
noncomputable def tw10015423199244229116:=()
noncomputable def tw5552724985665619440:=()
noncomputable def tw10846377851611655376:=()
noncomputable def tw17776987578412239812:=()
noncomputable def tw6145079539905152149:=()
noncomputable def tw15134239123809727024:=()
noncomputable def tw8621685785807769795:=()
noncomputable def tw11305462676152952792:=()
noncomputable def tw10076297789914016005:=()
noncomputable def tw247135744983383585:=()
noncomputable def tw13433708022053467614:=()
noncomputable def tw9492724420387417967:=()
noncomputable def tw2558568507276152428:=()
noncomputable def tw17454064086257514716:=()
noncomputable def tw9811631788612366547:=()
noncomputable def tw13362335272536651178:=()
noncomputable def tw1026204709465041972:=()
noncomputable def tw16235115469866669548:=()
noncomputable def tw11599284214820810442:=()
noncomputable def tw8255527015835097815:=()
noncomputable def tw12913037503674661578:=()
noncomputable def tw15068151878152418182:=()
noncomputable def tw11445548888799220821:=()
noncomputable def tw16314063283794817100:=()
noncomputable def tw1210272310555583879:=()
noncomputable def tw9487716526643334467:=()
noncomputable def tw17385856666872849369:=()
noncomputable def tw3519503241508181611:=()
noncomputable def tw3423310863486802075:=()
noncomputable def tw14968266151241970829:=()
noncomputable def tw14294180462524942948:=()
noncomputable def tw16526281211909601280:=()
noncomputable def tw11554637967092417647:=()
noncomputable def tw4698009930171676341:=()
noncomputable def tw3234910130285036930:=()
noncomputable def tw4116322447740278107:=()
noncomputable def tw6229098547296559963:=()
noncomputable def tw11253000099999864865:=()
noncomputable def tw17795572121085524983:=()
noncomputable def tw11894174075207644381:=()
noncomputable def tw13416363536152136652:=()
noncomputable def tw14940709315303871993:=()
noncomputable def tw3325572570458711071:=()
noncomputable def tw17175714171007774786:=()
noncomputable def tw6461304928179346773:=()
noncomputable def tw15313499960168295264:=()
noncomputable def tw12335011135901008529:=()
noncomputable def tw4359084392498585177:=()
noncomputable def tw17206468714697507116:=()
noncomputable def tw3908831879071851971:=()
noncomputable def tw11251814746618128262:=()
noncomputable def tw7499181916601787062:=()
noncomputable def tw12775856257628156875:=()
noncomputable def tw12083415397156793090:=()
noncomputable def tw17597135273224171424:=()
noncomputable def tw17828315229319134257:=()
noncomputable def tw17990202611723824995:=()
noncomputable def tw3689947641182346355:=()
noncomputable def tw9665945792244874017:=()
noncomputable def tw6220006562790112832:=()
noncomputable def tw6352377861808224526:=()
noncomputable def tw9438754554278311477:=()
noncomputable def tw11295053781220775990:=()
noncomputable def tw18124450096583348523:=()
noncomputable def tw5743189977345644423:=()
noncomputable def tw3155258339666334284:=()
noncomputable def tw17272198056235961953:=()
noncomputable def tw9580545115918296320:=()
noncomputable def tw5156691797662115093:=()
noncomputable def tw11142028816840884976:=()
noncomputable def tw18288883980937154135:=()
noncomputable def tw7074225854283069802:=()
noncomputable def tw4791745147385745537:=()
noncomputable def tw13636084760851920245:=()
noncomputable def tw15197325103641893110:=()
noncomputable def tw9508406867511704254:=()
noncomputable def tw6936888261338910817:=()
noncomputable def tw13361314057143294309:=()
noncomputable def tw1891360455500728373:=()
noncomputable def tw1840938045749331034:=()
noncomputable def tw3821695819086155262:=()
noncomputable def tw8843855726991985487:=()
noncomputable def tw4442518444505421180:=()
noncomputable def tw10193346955133380648:=()
noncomputable def tw5141430778688006975:=()
noncomputable def tw9817113977481961495:=()
noncomputable def tw15249873970553137288:=()
noncomputable def tw11233293181612003710:=()
noncomputable def tw14140202778249311175:=()
noncomputable def tw15041292375874755689:=()
noncomputable def tw13073770227264982141:=()
noncomputable def tw10003809294831067660:=()
noncomputable def tw7524031154044779435:=()
noncomputable def tw7975418002746222092:=()
noncomputable def tw14433737943516674624:=()
noncomputable def tw15503738485426026156:=()
noncomputable def tw15455603279793441757:=()
noncomputable def tw15392440485796967197:=()
noncomputable def tw13508769100047475664:=()
noncomputable def tw15632594515259162663:=()
noncomputable def tw14437829238800728663:=()
noncomputable def tw10211914065268551772:=()
noncomputable def tw1232717605528647774:=()
noncomputable def tw14009386527283100866:=()
noncomputable def tw17197635865792617203:=()
end PySem.W.Fast
def Z0:True:=trivial
namespace L2
open PySem PySem.Spec PyProof.Rows
abbrev _root_.Aas:=List Int
abbrev _root_.Aar:=List (Str×Value)
abbrev _root_.Aao:=Option Value->Shared->Prop
abbrev _root_.Aan:=List Nat
abbrev _root_.Aam:=Array Value
abbrev _root_.Aak:=List Expr
abbrev _root_.Aaj:=List Addr
abbrev _root_.Aah:=List (Option Nat)
abbrev _root_.Aag:=Str->Option Value
abbrev _root_.Aae:=List Value
abbrev _root_.Aac:=List (Addr×Obj)
abbrev _root_.Aab:=Value->Shared->Prop
abbrev _root_.Aaa:=List Str
abbrev Key:=Sum Int Str
abbrev _root_.Aau:=List Key
noncomputable def GK:Key->Value->Bool
 |.inl k,v=>Value.isInt k v
 |.inr x,v=>Value.isStrOf x v
noncomputable def Uv(w:World):Key->Int
 |.inl k=>hashInt k
 |.inr x=>hashStr w x
def aJ:∀{k:Key} {v:Value},GK k v=true->(∃i t,k=afn i/\v=Value.int i t)\/(∃x t,k=aaU x/\v=ad7 x t)
 |.inl i,v,h=>by obtain⟨t,e⟩:=Value.isInt_shape h;exact .inl #[i,t,rfl,e]
 |.inr x,v,h=>by obtain⟨t,e⟩:=aen h;exact .inr #[x,t,rfl,e]
def tS(i:Int)(t:Tok):GK (.inl i) (.int i t)=true:=by simp[GK,Value.isInt]
def tR(x:Str)(t:Tok):GK (.inr x) (.str x t)=true:=by simp[GK,Value.isStrOf]
def zF(a b:Int):decide ((afn a:Key)=afn b)=(a==b):=by
 by_cases e:a=b
 .subst e;simp
 .have h:¬ (afn a:Key)=afn b:=λq=>e (Sum.inl.inj q);rw[decide_eq_false h];exact(beq_eq_false_iff_ne.mpr e).symm
def zC(a b:Str):decide ((aaU a:Key)=aaU b)=decide (a=b):=by simp_all
def zE(a:Int)(b:Str):decide ((afn a:Key)=aaU b)=false:=decide_eq_false (λq=>nomatch q)
def zD(a:Str)(b:Int):decide ((aaU a:Key)=afn b)=false:=decide_eq_false (λq=>nomatch q)
noncomputable def ay(prog:aaD)(w:World):PySem.KeyKind prog w Key where
 is:=GK
 hash:=Uv w
 inj:=λv a b ha hb=>by
  rcases aJ ha with ⟨i,t,rfl,rfl⟩|⟨x,t,rfl,rfl⟩
  .rcases aJ hb with ⟨j,u,rfl,e⟩|⟨y,u,rfl,e⟩
   .injection e with e1 _;rw[e1]
   .exact nomatch e
  .rcases aJ hb with ⟨j,u,rfl,e⟩|⟨y,u,rfl,e⟩
   .exact nomatch e
   .injection e with e1 _;rw[e1]
 byValue:=λk v h=>by rcases aJ h with ⟨i,t,rfl,rfl⟩|⟨x,t,rfl,rfl⟩<;>rfl
 pyHash:=λhv h=>by
  rcases aJ hv with ⟨i,t,rfl,rfl⟩|⟨x,t,rfl,rfl⟩
  .exact wpAny_pyHash_int h
  .exact wpAny_pyHash_str h
 eqBool:=λhu hv h=>by
  rcases aJ hu with ⟨i,t,rfl,rfl⟩|⟨x,t,rfl,rfl⟩
  .rcases aJ hv with ⟨j,u,rfl,rfl⟩|⟨y,u,rfl,rfl⟩
   .rw[zF]at h;exact wpAny_eqBool_int h
   .rw[zE]at h;exact SeqAt.EqAt.int_str i t y u _ _ _ _ h
  .rcases aJ hv with ⟨j,u,rfl,rfl⟩|⟨y,u,rfl,rfl⟩
   .rw[zD]at h;exact SeqAt.EqAt.str_int x t j u _ _ _ _ h
   .rw[zC]at h;exact ae0 h
 «strs»:=λk x t v h=>by
  rcases aJ h with ⟨i,u,rfl,e⟩|⟨y,u,rfl,e⟩
  .exact nomatch e
  .injection e with e1 _;subst e1;cases v<;>rfl
def pj(prog:aaD)(w:World)(i:Int)(t:Tok):(ay prog w).is (.inl i) (.int i t)=true:=tS i t
def ph(prog:aaD)(w:World)(x:Str)(t:Tok):(ay prog w).is (.inr x) (.str x t)=true:=tR x t
inductive V where
 |Bw|bl (b:Bool)|int (i:Int)|str (x:Str)|JK (b:Array UInt8)|Pd (b:UInt64)|ref (a:Addr)|ty (n:String)
 deriving DecidableEq
abbrev _root_.Aav:=Option V
abbrev _root_.Aai:=List V
def RelV:V->Value->Prop
 |.Bw,u=>u=abb
 |.bl b,u=>u=Value.bool b
 |.int i,u=>∃t,u=Value.int i t
 |.str x,u=>∃t,u=ad7 x t
 |.JK b,u=>∃t,u=Value.bytes b t
 |.Pd b,u=>∃t,u=Value.float b t
 |.ref a,u=>u=abe a
 |.ty n,u=>u=aci n
abbrev AS:Aai->List Value->Prop:=Paired RelV
variable{xs:Aai}{us:Aae}
def AS.length(r:AS xs us):xs.length=us.length:=aeA r
def AS.get:∀{xs:Aai} {us:Aae} {i:Nat} {x:V},AS xs us->xs[i]?=some x->∃u,us[i]?=some u/\RelV x u
 |_,_,_,_,.nil,e=>by simp_all
 |_,_,0,_,.cons r _,e=>by simp_all
 |_,_,i+1,x,.cons _ t,e=>by obtain⟨u,h1,h2⟩:=AS.get (i:=i) (x:=x) t #[1];exact#[u,#[1],h2]
variable{x:V}{u:Value}
def AS.set(r:RelV x u):∀{xs:Aai} {us:Aae} (i:Nat),AS xs us->AS (xs.set i x) (us.set i u)
 |_,_,_,.nil=>.nil
 |_,_,0,.cons _ t=>.cons r t
 |_,_,i+1,.cons q t=>.cons q (AS.set r i t)
def AS.append:∀{xs ys:Aai} {us ws:Aae},AS xs us->AS ys ws->AS (xs++ys) (us++ws)
 |_,_,_,_,.nil,s=>s
 |_,_,_,_,.cons r t,s=>.cons r (AS.append t s)
def AS.take:∀{xs:Aai} {us:Aae} (n:Nat),AS xs us->AS (xs.take n) (us.take n)
 |_,_,0,_=>.nil
 |_,_,_+1,.nil=>.nil
 |_,_,n+1,.cons r t=>.cons r (AS.take n t)
def AS.drop:∀{xs:Aai} {us:Aae} (n:Nat),AS xs us->AS (xs.drop n) (us.drop n)
 |_,_,0,r=>r
 |_,_,_+1,.nil=>.nil
 |_,_,n+1,.cons _ t=>AS.drop n t
def Fo:Aav->Option Value->Prop
 |some v,some u=>RelV v u
 |none,none=>True
 |_,_=>False
def KV{O:Type}:List (O×V)->List (O×Value)->Prop:=Paired λ(p:O×V) (q:O×Value)=>p.1=q.1/\RelV p.2 q.2
noncomputable def kV:Key->V
 |.inl i=>.int i
 |.inr x=>.str x
inductive HO where
 |lst (xs:Aai)
 |tup (xs:Aai)
 |dK (eQ:List (Key×V))|dT (eQ:List (Aau×V))
 |set (S:Int->Bool) (n:Nat)
 |ins (C dx:Addr) (fs:List (Str×V))
 |own (x:Addr)
 |xd (fs:List (Str×V))
 |met (f x:Addr)
 |SJ (lo hi:Int)
 |D1 (o:Obj) (u:HO)
 |Mo (ps:Aam)
 |ext (T:Heap->Prop)
abbrev Hp:=Addr->Option HO
noncomputable def upd(H:Hp)(a:Addr)(o:HO):Hp:=λb=>if b=a then some o else H b
variable{H:Hp}{a:Addr}{o:HO}
def ah:upd H a o a=some o:=by unfold upd;rw[if_pos rfl]
variable{b:Addr}
def af(h:b≠a):upd H a o b=H b:=by unfold upd;rw[if_neg h]
def wK{u:HO}:upd (upd H a o) a u=upd H a u:=by funext b;unfold upd;split<;>rfl
def wB{u:HO}(h:H a=some o)(h':H b=some u)(d:o≠u):a≠b:=by intro e;subst e;rw[h]at h';exact d (aar h')
def ao(h:H a=some o)(h':H b=none):a≠b:=by intro e;subst e;rw[h]at h';cases h'
variable(P:aaD)(w:World)
def BG(H:Hp)(h:Heap)(a:Addr):HO->Prop
 |.lst xs=>xs.length<=sizeLine/\∃(gE:Aae) (n:Nat),AS xs gE/\h.get? a=some {cls:=.type "list",data:=.seq gE.toArray n}
 |.tup xs=>xs.length<=sizeLine/\∃gE:Aae,AS xs gE/\IsTup h a gE.toArray
 |.dK eQ=>eQ.length<=sizeLine/\(a==acJ)=false/\∃vs,KV eQ vs/\h.DictOf (ay P w) a vs
 |.dT eQ=>eQ.length<=sizeLine/\(a==acJ)=false/\∃xs:List (Aau×Addr×Value),
   Paired (λ(p:Aau×V) (q:Aau×Addr×Value)=>p.1=q.1/\H q.2.1=some (.tup (p.1.map kV))/\RelV p.2 q.2.2) eQ xs /\
   ∃o es ep,h.get? a=some o/\o.ExactDict/\o.data=.dict es ep/\es.toList=xs.map (entryOfKey (afd (ay P w)))/\(xs.map (·.1)).Nodup
 |.set S n=>h.SetOf (intKind P w) a S n
 |.ins C dx fs=>H dx=some (.own a)/\fs.length<=1000/\dx≠a/\h.get? a=some (afp C dx) /\
   ∃mA,h.Ns1 dx mA/\(∀f,Fo (fs.lookup f) (mA f))/\PySem.Within mA (fs.map (·.1))
 |.own _=>∃o,h.get? a=some o
 |.xd fs=>∃mA,h.Ns1 a mA/\∀f,Fo (fs.lookup f) (mA f)
 |.SJ lo hi=>∃t u v,h.get? a=some {cls:=.type "range",data:=.fields #v[.int lo t,.int hi u,.int 1 v]}
 |.D1 o u=>h.get? a=some o/\BG H h a u
 |.Mo ps=>h.get? a=some {cls:=.none,data:=.fields ps}
 |.met f x=>h.get? a=some (aeK (.ref f) (.ref x))
 |.ext T=>T h/\(∃o,h.get? a=some o)/\∀h1 h2:Heap,T h1->(∀o,h1.get? a=some o->h2.get? a=some o)->T h2
def D4(H:Hp)(h:Heap):Prop:=∀a o,H a=some o->BG P w H h a o
variable{P:aaD}{w:World}{H':Hp}{h h':Heap}
def BG.lt(x:BG P w H h a o):a<h.objs.size:=by
 cases o with
 |lst xs=>obtain⟨_,_,_,_,e⟩:=x;exact aah e
 |tup xs=>obtain⟨_,_,_,p⟩:=x;exact p.lt
 |dK eQ=>obtain⟨_,_,_,_,o,_,_,e,_⟩:=x;exact aah e
 |dT eQ=>obtain⟨_,_,_,_,o,_,_,e,_⟩:=x;exact aah e
 |set S n=>obtain⟨o,_,_,_,e,_⟩:=x;exact aah e
 |ins C dx fs=>obtain⟨_,_,_,e,_⟩:=x;exact aah e
 |own y=>obtain⟨_,e⟩:=x;exact aah e
 |xd fs=>obtain⟨_,⟨_,_,_,e,_⟩,_⟩:=x;exact aah e
 |SJ lo hi=>obtain⟨_,_,_,e⟩:=x;exact aah e
 |D1 ob u=>obtain⟨e,_⟩:=x;exact aah e
 |Mo ps=>exact aah (x)
 |met f y=>exact aah (x)
 |ext T=>obtain⟨_,⟨_,e⟩,_⟩:=x;exact aah e
variable{α:Type}
def Paired.NW{w:Type}{F G:α->w->Prop}:∀{l₁:List α} {l₂:List w},Paired F l₁ l₂->(∀a b,F a b->G a b)->Paired G l₁ l₂
 |_,_,.nil,_=>.nil
 |_,_,.cons r t,f=>.cons (f _ _ r) (Paired.NW t f)
def BG.G1(x:BG P w H h a o)(k:∀b u,(b=a\/H b=some (.own a))->h.get? b=some u->h'.get? b=some u)
  (ho:∀b,H b=some (.own a)->H' b=some (.own a)) (ht:∀b xs,H b=some (.tup xs)->H' b=some (.tup xs)):BG P w H' h' a o:=by
 induction o with
 |lst xs=>obtain⟨z,gE,n,r,e⟩:=x;exact#[z,gE,n,r,k _ _ (.inl rfl) e]
 |tup xs=>obtain⟨z,gE,r,ob,e,c⟩:=x;exact#[z,gE,r,ob,k _ _ (.inl rfl) e,c]
 |dK eQ=>obtain⟨z,y,vs,r,ob,es,ep,e,c⟩:=x;exact#[z,y,vs,r,ob,es,ep,k _ _ (.inl rfl) e,c]
 |dT eQ=>obtain⟨z,y,xs,r,ob,es,ep,e,c⟩:=x;exact#[z,y,xs,Paired.NW r λp q z=>#[z.1,ht _ _ z.2.1,z.2.2],ob,es,ep,k _ _ (.inl rfl) e,c]
 |set S n=>obtain⟨ob,es,ep,t,e,c⟩:=x;exact#[ob,es,ep,t,k _ _ (.inl rfl) e,c]
 |ins C dx fs=>obtain⟨d,z,ne,e,mA,⟨od,es,ep,e2,c⟩,r⟩:=x;exact#[ho _ d,z,ne,k _ _ (.inl rfl) e,mA,#[od,es,ep,k _ _ (.inr d) e2,c],r]
 |own y=>obtain⟨ob,e⟩:=x;exact#[ob,k _ _ (.inl rfl) e]
 |xd fs=>obtain⟨mA,⟨od,es,ep,e,c⟩,r⟩:=x;exact#[mA,#[od,es,ep,k _ _ (.inl rfl) e,c],r]
 |SJ lo hi=>obtain⟨t,u,v,e⟩:=x;exact#[t,u,v,k _ _ (.inl rfl) e]
 |D1 ob u ih=>obtain⟨e,q⟩:=x;exact#[k _ _ (.inl rfl) e,ih q]
 |Mo ps=>have e:h.get? a=some {cls:=.none,data:=.fields ps}:=x;show h'.get? a=some {cls:=.none,data:=.fields ps};exact k a _ (.inl rfl) e
 |met f y=>have e:h.get? a=some (aeK (.ref f) (.ref y)):=x;show h'.get? a=some (aeK (.ref f) (.ref y));exact k a _ (.inl rfl) e
 |ext T=>obtain⟨p,⟨o,e⟩,st⟩:=x;exact#[st _ _ p λo q=>k _ _ (.inl rfl) q,#[o,k _ _ (.inl rfl) e],st]
def D4.lt(x:D4 P w H h)(e:H a=some o):a<h.objs.size:=(x a o e).lt
def D4.fresh(x:D4 P w H h)(e:h.objs.size<=a):H a=none:=by
 cases q:H a with
 |none=>rfl
 |some u=>exact absurd (aaz (x.lt q) e) (abv _)
def D4.kept(x:D4 P w H h)(k:∀b u,h.get? b=some u->h'.get? b=some u):D4 P w H h':=λa o e=>(x a o e).G1 (λb u _ q=>k b u q) (λ_ q=>q) λ_ _ q=>q
def D4.laid(x:D4 P w H h)(k:∀b u,h.get? b=some u->h'.get? b=some u)(hp:h.objs.size<=a)(new:BG P w (upd H a o) h' a o):D4 P w (upd H a o) h':=λb u e=>by
 have hn:=x.fresh hp;by_cases hb:b=a
 .subst hb;rw[ah]at e;cases e;exact new
 .rw[af hb]at e;exact(x b u e).G1 (λc v _ q=>k c v q) (λc q=>by rw[af (ao q hn)];exact q) λc xs q=>by rw[af (ao q hn)];exact q
def Rd(H:Hp)(a:Addr)(u:HO):Prop:=H a=some u\/∃o,H a=some (.D1 o u)
def Rd.ok{u:HO}(r:Rd H a u)(x:D4 P w H h):BG P w H h a u:=by
 rcases r with r|⟨o,r⟩
 .exact x a u r
 .obtain⟨_,q⟩:=x a _ r;exact q
def Sj:Option HO->Prop
 |some (.lst _)=>True
 |some (.dK _)=>True
 |some (.dT _)=>True
 |some (.set _ _)=>True
 |some (.ins _ _ _)=>True
 |some (.ext _)=>True
 |_=>False
variable{x e:Addr}{o':HO}
def D4.write(ok:D4 P w H h)(mu:Sj (H x))(he:e=x\/H e=some (.own x))(k:∀b u,b≠e->h.get? b=some u->h'.get? b=some u)(O6:∃u,h'.get? e=some u)
  (new:BG P w (upd H x o') h' x o'):D4 P w (upd H x o') h':=λb u q=>by
 have QU:∀c y,H c=some (.own y)->c≠x:=λc y r z=>by subst z;rw[r]at mu;exact mu
 have Uj:∀c xs,H c=some (.tup xs)->c≠x:=λc xs r z=>by subst z;rw[r]at mu;exact mu
 by_cases hb:b=x
 .subst hb;rw[ah]at q;cases q;exact new
 .rw[af hb]at q;by_cases Lw:b=e
  .have q':H b=some (.own x):=by simp_all
   rw[q]at q';cases q';obtain⟨v,hv⟩:=O6;exact#[v,#[1]]
  .refine(ok b u q).G1 (λc v hc r=>k c v ?_ r) (λc r=>by rw[af (QU c b r)];exact r) λc xs r=>by rw[af (Uj c xs r)];exact r
   rcases hc with rfl|hc
   .exact Lw
   .rintro rfl;rcases he with z|z
    .exact QU c b hc z
    .rw[hc]at z;cases z;exact hb rfl
structure Un(fs ex:Aaj)(H H':Hp)(h h':Heap):Prop where
 keep:∀b o,h.get? b=some o->H b=none->b∉fs->b∉ex->h'.get? b=some o
 slot:∀b o,h.get? b=some o->H b=none->b∈fs->b∉ex->∃sl,h'.get? b=some {o with slots:=sl}
 free:∀b o,h.get? b=some o->H b=none->b∉ex->H' b=none
 there:∀b o,h.get? b=some o->b∉ex->∃o',h'.get? b=some o'
 Gj:∀b xs,H b=some (.tup xs)->H' b=some (.tup xs)
 Hb:∀b o u,H b=some (.D1 o u)->H' b=some (.D1 o u)
 Ht:∀b ps,H b=some (.Mo ps)->∃more,H' b=some (.Mo (ps++more))
section
variable{fs ZF ex ex':Aaj}{H1 H2:Hp}{h1 h2:Heap}
def Un.any(u:Un fs ex H H1 h h1){ob:Obj}(q:h.get? b=some ob)(n:H b=none)(hx:b∉ex):∃sl,h1.get? b=some {ob with slots:=sl}:=by
 by_cases hb:b∈fs
 .exact u.slot b ob q n hb hx
 .exact#[ob.slots,u.keep b ob q n hb hx]
def Un.kept(k:∀b u,h.get? b=some u->h'.get? b=some u):Un fs ex H H h h' :=
 #[λb ob q _ _ _=>k b ob q,λb ob q _ _ _=>#[ob.slots,k b ob q],λ_ _ _ n _=>n,λb ob q _=>#[ob,k b ob q],λ_ _ q=>q,λ_ _ _ q=>q,λ_ ps q=>#[#v[],#[1]]]
def Un.refl:Un fs ex H H h h:=Un.kept λ_ _ q=>q
def Un.laid(k:∀b u,h.get? b=some u->h'.get? b=some u)(hp:h.objs.size<=a)(hn:H a=none):Un fs ex H (upd H a o) h h' where
 keep:=λb u q _ _ _=>k b u q
 slot:=λb u q _ _ _=>#[u.slots,k b u q]
 free:=λb u q n _=>by rw[af (aas (aaz (aah q) hp))];exact n
 there:=λb u q _=>#[u,k b u q]
 Gj:=λb xs q=>by rw[af (ao q hn)];exact q
 Hb:=λb u xs q=>by rw[af (ao q hn)];exact q
 Ht:=λb ps q=>#[#v[],by rw[af (ao q hn),q];simp]
def Un.write(mu:Sj (H x))(he:e=x\/H e=some (.own x))(k:∀b u,b≠e->h.get? b=some u->h'.get? b=some u)(O6:∃u,h'.get? e=some u):Un fs ex H (upd H x o) h h':=by
 have hx:∀b,H b=none->b≠x:=λb n z=>by subst z;rw[n]at mu;exact mu
 have hb:∀b,H b=none->b≠e:=λb n z=>by simp_all
 have hm:∀b u,H b=some u->¬ Sj (some u)->b≠x:=λb u q nm z=>by simp_all
 refine#[λb u q n _ _=>k b u (hb b n) q,λb u q n _ _=>#[u.slots,k b u (hb b n) q],λb u q n _=>by rw[af (hx b n)];exact n,λb u q _=>?_,
  λb xs q=>by rw[af (hm b _ q λz=>z)];exact q,λb u xs q=>by rw[af (hm b _ q λz=>z)];exact q,λb ps q=>#[#v[],by rw[af (hm b _ q λz=>z),q];simp]]
 by_cases Lw:b=e
 .subst Lw;exact O6
 .exact#[u,k b u Lw q]
end
noncomputable def V8(h:Heap)(H:Hp):Aaj:=(abd h.objs.size).filter λa=>(H a).isSome
noncomputable def Gx(h:Heap)(H:Hp):Heap:=PySem.W.hideAll h (V8 h H)
def tX(h:Heap)(H:Hp):(Gx h H).objs.size=h.objs.size:=PySem.W.hideAll_size _ _
def vG{o:Obj}(e:h.get? b=some o)(n:H b=none):(Gx h H).get? b=some o :=
 PySem.W.hideAll_get _ e λhm=>by have q  := (List.mem_filter.mp hm).2;rw[n]at q;simp at q
def xC{o:Obj}(e:(Gx h H).get? b=some o):h.get? b=some o/\H b=none:=by
 have e'  := PySem.W.of_hideAll _ e;refine#[e',?_];cases q:H b with
 |none=>rfl
 |some x=>have hm:b∈V8 h H:=List.mem_filter.mpr #[List.mem_range.mpr (aah e'),#[1]];have z:(Gx h H).get? b=none:=PySem.W.hideAll_none _ hm;rw[z]at e;cases e
noncomputable def iy(g h:Heap)(L:Addr):Aac:=(abd h.objs.size).filterMap λa=>if a=L\/(g.get? a).isSome=true then none else (h.get? a).map λo=>(a,o)
variable{g:Heap}{L:Addr}
def eM{o:Obj}(h1:a≠L)(h2:g.get? a=none)(h3:h.get? a=some o):(a,o)∈iy g h L :=
 List.mem_filterMap.mpr #[a,List.mem_range.mpr (aah h3),#[1]]
def lw{p:Addr×Obj}(hp:p∈iy g h L):p.1≠L/\g.get? p.1=none/\h.get? p.1=some p.2:=by
 obtain⟨b,_,e⟩:=List.mem_filterMap.mp hp;split at e
 .cases e
 .rename_i hn;cases q:h.get? b with
  |none=>rw[q]at e;simp at e
  |some u=>
   rw[q]at e;simp only[aea,aeL]at e;subst e;refine#[λz=>hn (.inl z),?_,q];cases r:g.get? b with
   |none=>rfl
   |some v=>exact(hn (.inr #[1])).elim
def jA:News g L h (iy g h L):=λp hp=>let #[a,b,c]:=lw hp;#[c,a,b]
structure Mod(K:aaf)(mg:Aag)(base:Heap):Prop where
 kin:K.In base
 glob:base.Ns aaR mg
 blt:∃mb,base.Ns aeJ mb/\∀x:Str,x ≠ "__name__" -> mb x=acn x
 nolimit:base.NoLimit
structure Cx where
 prog:aaD
 w:World
 K:aaf
 mg:Str->Option Value
 base:Heap
 A:Around
 N:List Str
 s0:Shared
 Ha:Hp
 env:Env
 outer:List Env
 stack:List Env
 ex:List Addr
 fn:Str->Bool
 calm:Bool
 pn:List (Addr×Obj)
 xe:Value->Shared->Prop
noncomputable def KH(l:List Env):Aaj:=l.filterMap (·.frame)
noncomputable abbrev Cx.fs(X:Cx):Aaj:=KH X.outer
def Hq(sc:Scope)(x:Str):Prop:=sc.names.lookup x=some .local\/sc.names.lookup x=some .cell\/sc.names.lookup x=some .free
def Loc(sc:Scope)(x:Str):Prop:=sc.names.lookup x=some .local\/sc.names.lookup x=some .cell
def Look(env:Env)(h:Heap)(m:Aag)(x:Str)(u:Value):Prop :=
 (env.kindOf x=some .local/\m x=some u)\/((env.kindOf x=some .cell\/env.kindOf x=some .free)/\∃c,env.cells.lookup x=some c/\h.IsCell c (some u))
structure Cx.Ok(X:Cx):Prop where
 mod:Mod X.K X.mg X.base
 kind:X.env.scope.kind=.function
 glob:X.env.globals=aaR
 blt:X.env.builtins=aeJ
 above:X.s0.heap.objs.size<=X.env.locals
 inj:∀x y c,X.env.cells.lookup x=some c->X.env.cells.lookup y=some c->x=y
 has:∀x,(X.env.kindOf x=some .cell\/X.env.kindOf x=some .free)->∃c,X.env.cells.lookup x=some c
 R7:∀x c,X.fn x=true->X.env.cells.lookup x=some c->X.s0.heap.objs.size<=c
 hd:X.calm=true->X.A.handled=none
 frames:X.A.frames=some X.stack
 SG:X.stack=X.outer\/(X.stack=X.env::X.outer/\X.env.frame=some X.env.locals)
 Xn:∀b∈X.ex,b≠X.env.locals/\∀x c,X.env.cells.lookup x=some c->c≠b
 bs:∀b o,X.base.get? b=some o->X.s0.heap.get? b=some o/\X.Ha b=none
 MY:X.base.objs.size<=X.s0.heap.objs.size
 Kk:∀b o,X.base.get? b=some o->b∉X.ex
 L9:∀b∈X.ex,b∉X.fs
 FU:X.s0.heap.FunFrames X.base X.outer
 Pc:∀b∈X.fs,X.Ha b=none
structure Inv(X:Cx)(pins:Aac)(U:List (Aav))(H:Hp)(s:Shared):Prop where
 ok:X.Ok
 os:s.os=X.s0.os
 bare:aep s.gens
 base:Un X.fs X.ex X.Ha H X.s0.heap s.heap
 loc:∃m,s.heap.Ns X.env.locals m/\∀(i:Nat) (x:Str) (v:V),X.N[i]?=some x->U[i]?=some (some v)->Hq X.env.scope x->∃u,RelV v u/\Look X.env s.heap m x u
 cell:∀x c,X.env.cells.lookup x=some c->∃v,s.heap.IsCell c v
 free:H X.env.locals=none
 Dl:∀x c,X.env.cells.lookup x=some c->H c=none
 pin:∀p∈X.pn++pins,s.heap.get? p.1=some p.2/\H p.1=none/\p.1≠X.env.locals/\p.1∉X.fs/\∀v,p.2.data≠.cell v
 Bv:D4 X.prog X.w H s.heap
 len:U.length=X.N.length
variable{X:Cx}{pins:Aac}{U:List (Aav)}{s:Shared}
def Cx.Ok.Ul(ok:X.Ok){o:Obj}(e:X.base.get? b=some o):b∉X.fs:=λhb=>by have:=(ok.FU.mem hb).1;rw[e]at this;cases this
def Inv.bs(I:Inv X pins U H s):∀b o,X.base.get? b=some o->s.heap.get? b=some o/\H b=none:=λb o e=>#[I.base.keep b o (I.ok.bs b o e).1 (I.ok.bs b o e).2 (I.ok.Ul e) (I.ok.Kk b o e),I.base.free b o (I.ok.bs b o e).1 (I.ok.bs b o e).2 (I.ok.Kk b o e)]
def Inv.bk(I:Inv X pins U H s):∀b o,X.base.get? b=some o->s.heap.get? b=some o:=λb o e=>(I.bs b o e).1
def Inv.mod(I:Inv X pins U H s):Mod X.K X.mg X.base:=I.ok.mod
def Inv.G8(I:Inv X pins U H s):X.K.In s.heap:=I.ok.mod.kin.keeps I.bk
def Inv.fr(I:Inv X pins U H s):∃m,Fr X.base X.env.locals s.heap m :=
 let #[m,hn,_]:=I.loc
 #[m,hn,I.bk,aaX I.ok.MY I.ok.above]
def Inv.lt(I:Inv X pins U H s):X.env.locals<s.heap.objs.size:=let #[_,hn,_]:=I.loc;hn.lt
def Inv.sz(I:Inv X pins U H s):X.s0.heap.objs.size<=s.heap.objs.size:=aaX I.ok.above (aeV I.lt)
def Inv.Uk(I:Inv X pins U H s)(h:s.heap.objs.size<=a):a∉X.fs:=λhb=>by obtain⟨_,o,ho,_⟩:=I.ok.FU.mem hb;exact absurd (aaz (aah ho) (aaX I.sz h)) (abv _)
def Inv.OG(I:Inv X pins U H s):∀x c,X.env.cells.lookup x=some c->c≠X.env.locals:=λx c e z=>by obtain⟨v,o,ho,hd⟩:=I.cell x c e;obtain⟨m,⟨o',es,ep,EI,Tf,_⟩,_⟩:=I.loc;rw[z,EI]at ho;cases ho;rw[Tf]at hd;cases hd
def Inv.FU(I:Inv X pins U H s):s.heap.FunFrames X.base X.outer:=by
 have all:∀(l:List Env),(∀b∈KH l,b∈X.fs)->X.s0.heap.FunFrames X.base l->s.heap.FunFrames X.base l:=by
  intro l;induction l with
  |nil=>intro _ _;trivial
  |cons env r ih=>intro hs hl;obtain⟨hk,⟨L,o,hf,hn,ho,hd⟩,hr⟩:=hl;have hL  := hs L (by unfold KH;rw[acT,hf];exact aan);obtain⟨sl,e⟩:=I.base.slot L o ho (I.ok.Pc L hL) hL λz=>I.ok.L9 L z hL;exact#[hk,#[L,_,hf,hn,e,hd],ih (λb hb=>hs b (by unfold KH;rw[acT,hf];exact aam _ hb)) hr]
 exact all X.outer (λ_ hb=>hb) I.ok.FU
def Inv.stack(I:Inv X pins U H s):s.heap.FunFrames X.base X.stack:=by
 rcases I.ok.SG with e|⟨e,hf⟩
 .rw[e];exact I.FU
 .rw[e];obtain⟨m,hn,_⟩:=I.loc;refine .cons (by rw[I.ok.kind];decide) hf hn ?_ I.FU;exact Heap.get?_none_of_le (aaX I.ok.MY I.ok.above)
def Inv.Ej(I:Inv X pins U H s):∀b∈KH X.stack,b∈X.env.locals::X.fs:=λb hb=>by
 rcases I.ok.SG with e|⟨e,hf⟩
 .rw[e]at hb;exact aam _ hb
 .rw[e]at hb;unfold KH at hb;rw[acT,hf]at hb;exact hb
def Inv.I0(I:Inv X pins U H s):∀b∈KH X.stack,H b=none:=λb hb=>by
 rcases List.mem_cons.mp (I.Ej b hb)with e|hb
 .rw[e];exact I.free
 .obtain⟨_,o,ho,_⟩:=I.ok.FU.mem hb;exact I.base.free b o ho (I.ok.Pc b hb) λz=>I.ok.L9 b z hb
variable{t':Nat}
def Inv.step{g':Array GenState}{d':Drawn}{ch:Aaj}(I:Inv X pins U H s)
  (Lv:∀b∈ch,(b∈X.ex\/X.s0.heap.objs.size<=b)/\b≠X.env.locals/\(∀x c,X.env.cells.lookup x=some c->c≠b)/\∀p∈X.pn++pins,p.1≠b)
  (keep:∀b o,b≠X.env.locals->b∉X.fs->b∉ch->s.heap.get? b=some o->H b=none->h'.get? b=some o)
  (slot:∀b o,b≠X.env.locals->b∈X.fs->b∉ch->s.heap.get? b=some o->H b=none->∃sl,h'.get? b=some {o with slots:=sl}) (free:∀b o,b∉ch->s.heap.get? b=some o->H b=none->H' b=none)
  (there:∀b o,b∉ch->s.heap.get? b=some o->∃o',h'.get? b=some o')
  (Gj:∀b xs,H b=some (.tup xs)->H' b=some (.tup xs)) (Hb:∀b o u,H b=some (.D1 o u)->H' b=some (.D1 o u)) (Ht:∀b ps,H b=some (.Mo ps)->∃more,H' b=some (.Mo (ps++more)))
  (ns:∀m,s.heap.Ns X.env.locals m->h'.Ns X.env.locals m) (Bv:D4 X.prog X.w H' h') (hg:aep g') :
  Inv X pins U H' {s with heap:=h',gens:=g',drawn:=d',toks:=t'}:=by
 have Ws:∀b o,X.s0.heap.get? b=some o->b≠X.env.locals:=λb o e=>aas (aaz (aah e) I.ok.above);have OY:∀b o,X.s0.heap.get? b=some o->b∉X.ex->b∉ch:=λb o e hx hb=>by
  rcases(Lv b hb).1 with z|z
  .exact hx z
  .exact absurd (aaz (aah e) z) (abv _)
 have cellK:∀x c,X.env.cells.lookup x=some c->∀v,s.heap.IsCell c v->h'.IsCell c v:=λx c e v #[o,ho,hd]=>by
  have Q3  := λz=>(Lv c z).2.2.1 x c e rfl;by_cases hc:c∈X.fs
  .obtain⟨sl,q⟩:=slot c o (I.OG x c e) hc Q3 ho (I.Dl x c e);exact#[_,q,hd]
  .exact#[o,keep c o (I.OG x c e) hc Q3 ho (I.Dl x c e),hd]
 refine#[I.ok,I.os,hg,#[λb o e n hb hx=>?_,λb o e n hb hx=>?_,λb o e n hx=>?_,λb o e hx=>?_,λb xs e=>Gj b xs (I.base.Gj b xs e),λb o xs e=>Hb b o xs (I.base.Hb b o xs e),λb ps e=>?_],?_,λx c e=>?_,?_,λx c e=>?_,λp hp=>?_,Bv,I.len]
 .exact keep b o (Ws b o e) hb (OY b o e hx) (I.base.keep b o e n hb hx) (I.base.free b o e n hx)
 .obtain⟨sl,e1⟩:=I.base.slot b o e n hb hx;obtain⟨XW,e2⟩:=slot b _ (Ws b o e) hb (OY b o e hx) e1 (I.base.free b o e n hx);exact#[XW,e2]
 .obtain⟨o',e1⟩:=I.base.there b o e hx;exact free b o' (OY b o e hx) e1 (I.base.free b o e n hx)
 .obtain⟨o',e1⟩:=I.base.there b o e hx;exact there b o' (OY b o e hx) e1
 .obtain⟨m1,e1⟩:=I.base.Ht b ps e;obtain⟨m2,e2⟩:=Ht b _ e1;exact#[m1++m2,#[1]]
 .obtain⟨m,hn,hl⟩:=I.loc;refine#[m,ns m hn,λi x v e1 e2 e3=>?_];obtain⟨u,r,l⟩:=hl i x v e1 e2 e3;refine#[u,r,?_];rcases l with l|⟨k,c,e,z⟩
  .exact .inl l
  .exact .inr #[k,c,e,cellK x c e _ z]
 .obtain⟨v,z⟩:=I.cell x c e;exact#[v,cellK x c e v z]
 .obtain⟨m,⟨o,_,_,ho,_⟩,_⟩:=I.loc;exact free _ o (λz=>(Lv _ z).2.1 rfl) ho I.free
 .obtain⟨v,o,ho,hd⟩:=I.cell x c e;exact free c o (λz=>(Lv c z).2.2.1 x c e rfl) ho (I.Dl x c e)
 .obtain⟨e,n,ne,nf,d⟩:=I.pin p hp;have Q3  := λz=>(Lv p.1 z).2.2.2 p hp rfl;exact#[keep p.1 p.2 ne nf Q3 e n,free p.1 p.2 Q3 e n,ne,nf,d]
def Inv.un(I:Inv X pins U H s)(u:Un X.fs [] H H' s.heap h')(Bv:D4 X.prog X.w H' h'):Inv X pins U H' {s with heap:=h',toks:=t'}:=by
 obtain⟨m,⟨o,es,ep,ho,r⟩,_⟩:=id I.loc;obtain⟨sl,hL⟩:=u.any ho I.free #[0];exact I.step (ch:=[]) (λ_ z=>nomatch z) (λb o _ hb _ e n=>u.keep b o e n hb #[0]) (λb o _ hb _ e n=>u.slot b o e n hb #[0]) (λb o _ e n=>u.free b o e n #[0]) (λb o _ e=>u.there b o e #[0]) u.Gj u.Hb u.Ht (λm' hm=>by obtain⟨o',HI,To,EI,r'⟩:=hm;rw[ho]at EI;cases EI;exact#[_,HI,To,hL,r']) Bv I.bare
def Inv.call{g':Array GenState}{d':Drawn}{ch:Aaj}(I:Inv X pins U H s)(u:Un (KH X.stack) ch H H' s.heap h')(Bv:D4 X.prog X.w H' h')(hg:aep g')
  (Lv:∀b∈ch,(b∈X.ex\/X.s0.heap.objs.size<=b)/\b≠X.env.locals/\(∀x c,X.env.cells.lookup x=some c->c≠b)/\∀p∈X.pn++pins,p.1≠b) :
  Inv X pins U H' {s with heap:=h',gens:=g',drawn:=d',toks:=t'}:=by
 obtain⟨m,⟨o,es,ep,ho,r⟩,_⟩:=id I.loc;obtain⟨sl,hL⟩:=u.any ho I.free λz=>(Lv _ z).2.1 rfl;exact I.step Lv (λb o hL hb hc e n=>u.keep b o e n (λz=>(List.mem_cons.mp (I.Ej b z)).elim hL hb) hc) (λb o _ _ hc e n=>u.any e n hc) (λb o hc e n=>u.free b o e n hc) (λb o hc e=>u.there b o e hc) u.Gj u.Hb u.Ht (λm' hm=>by obtain⟨o',HI,To,EI,r'⟩:=hm;rw[ho]at EI;cases EI;exact#[_,HI,To,hL,r']) Bv hg
variable{it:Addr}
def Inv.turned(I:Inv X pins U H s)(k:∀b o,b≠it->s.heap.get? b=some o->h'.get? b=some o)(hn:H it=none)(hL:it≠X.env.locals)
  (h1:it∈X.ex\/X.s0.heap.objs.size<=it) (h2:∀x c,X.env.cells.lookup x=some c->c≠it) (h3:∀p∈X.pn++pins,p.1≠it):Inv X pins U H {s with heap:=h',toks:=t'}:=by
 have QW:∀b u,H b=some u->b≠it:=λb u e z=>by simp_all
 refine I.step (ch:=[it]) (λb hb=>?_) (λb o _ _ hc e _=>k b o (λz=>hc #[1]) e) (λb o _ _ hc e _=>#[o.slots,k b o (λz=>hc #[1]) e]) (λ_ _ _ _ n=>n)
  (λb o hc e=>#[o,k b o (λz=>hc #[1]) e]) (λ_ _ e=>e) (λ_ _ _ e=>e) (λb ps e=>#[#v[],#[1]]) (λm hm=>?_) (λb u e=>?_) I.bare
 .have e:b=it:=by simp_all
  subst e;exact#[h1,hL,h2,h3]
 .obtain⟨o,es,ep,ho,r⟩:=hm;exact#[o,es,ep,k _ o (abE hL) ho,r]
 .refine(I.Bv b u e).G1 (λc v hc q=>k c v ?_ q) (λ_ q=>q) λ_ _ q=>q;rcases hc with z|z
  .rw[z];exact QW b u e
  .exact QW c _ z
def Inv.tok(I:Inv X pins U H s)(t:Nat):Inv X pins U H {s with toks:=t}:=I.un Un.refl I.Bv
def Inv.kept(I:Inv X pins U H s)(k:∀b u,s.heap.get? b=some u->h'.get? b=some u):Inv X pins U H {s with heap:=h',toks:=t'}:=I.un (Un.kept k) (I.Bv.kept k)
def Inv.laid(I:Inv X pins U H s)(k:∀b u,s.heap.get? b=some u->h'.get? b=some u)(hp:s.heap.objs.size<=a)(new:BG X.prog X.w (upd H a o) h' a o):
  Inv X pins U (upd H a o) {s with heap:=h',toks:=t'}:=I.un (Un.laid k hp (I.Bv.fresh hp)) (I.Bv.laid k hp new)
def Inv.write(I:Inv X pins U H s)(mu:Sj (H x))(he:e=x\/H e=some (.own x))(k:∀b u,b≠e->s.heap.get? b=some u->h'.get? b=some u)(O6:∃u,h'.get? e=some u)
  (new:BG X.prog X.w (upd H x o) h' x o):Inv X pins U (upd H x o) {s with heap:=h',toks:=t'}:=I.un (Un.write mu he k O6) (I.Bv.write mu he k O6 new)
def Inv.weak{sa:List (Aav)}(I:Inv X pins U H s)(hl:sa.length=U.length)(w:∀(i:Nat) v,sa[i]?=some (some v)->U[i]?=some (some v)):Inv X pins sa H s :=
 #[I.ok,I.os,I.bare,I.base,let #[m,hn,HC]:=I.loc;#[m,hn,λi x v e1 e2 e3=>HC i x v e1 (w i v e2) e3],I.cell,I.free,I.Dl,I.pin,I.Bv,hl.trans I.len]
def Inv.Jd{MB:Aac}(I:Inv X pins U H s)(h:∀p∈MB,s.heap.get? p.1=some p.2/\H p.1=none/\p.1≠X.env.locals/\p.1∉X.fs/\∀v,p.2.data≠.cell v):Inv X MB U H s :=
 #[I.ok,I.os,I.bare,I.base,I.loc,I.cell,I.free,I.Dl,λp hp=>(List.mem_append.mp hp).elim (λz=>I.pin p (aaH _ z)) (h p),I.Bv,I.len]
variable{N:Aaa}{i j:Nat}
def n4(hN:N.Nodup){x:Str}(a:N[i]?=some x)(b:N[j]?=some x):i=j:=by obtain⟨h1,e1⟩:=List.getElem?_eq_some_iff.mp a;obtain⟨h2,e2⟩:=List.getElem?_eq_some_iff.mp b;exact(abD hN).mp (e1.trans e2.symm)
variable{M:Model}{A:Around}{E:Aab}{v:V}{Q:Unit->Shared->Prop}
def gG{x:Str}(I:Inv X pins U H s)(hN:X.N.Nodup)(hi:X.N[i]?=some x)(hx:Loc X.env.scope x)(r:RelV v u)
  (h:∀s',Inv X pins (U.set i (some v)) H s'->(∃a,abV a s.heap s'.heap/\(a=X.env.locals\/X.env.cells.lookup x=some a))->Q () s') (hf:autoParam (X.fn x=true\/X.env.scope.names.lookup x=some .local) ge):wpAny M A (storeName X.env x u) Q E s:=by
 obtain⟨m,hn,hl⟩:=id I.loc;have Vc:(X.env.scope.kind==.class || (X.env.scope.kind==.module && X.env.locals != X.env.globals))=false:=by rw[I.ok.kind];rfl
 have his:i<U.length:=by rw[I.len];exact(List.getElem?_eq_some_iff.mp hi).1
 have OG:=I.OG;have tracked:∀{a:Addr} {h':Heap},(∃o,s.heap.get? a=some o/\H a=none)->abV a s.heap h'->D4 X.prog X.w H h':=λ{a h'} ha hs b ob e=>by
  obtain⟨_,_,Fb⟩:=ha;refine(I.Bv b ob e).G1 (λc w' hc q=>(hs.2 c ?_).trans q) (λ_ q=>q) λ_ _ q=>q;rintro rfl;rcases hc with rfl|hc
  .rw[Fb]at e;cases e
  .rw[Fb]at hc;cases hc
 rcases hx with hk|hk
 .refine wpAny_storeName_local hk hn (λh' Ji hs=>?_) Vc;obtain⟨oL,_,_,JB,_⟩:=id hn;refine h _ #[I.ok,I.os,I.bare,#[λb o e n hb hx=>?_,λb o e n hb hx=>?_,I.base.free,λb o e hx=>?_,I.base.Gj,I.base.Hb,I.base.Ht],#[_,Ji,λj y v' e1 e2 e3=>?_],λy c e=>?_,I.free,I.Dl,λp hp=>?_,tracked #[oL,JB,I.free] hs,by simpa using I.len] #[_,hs,.inl rfl]
  .exact(hs.2 b (aas (aaz (aah e) I.ok.above))).trans (I.base.keep b o e n hb hx)
  .obtain⟨sl,e1⟩:=I.base.slot b o e n hb hx;exact#[sl,(hs.2 b (aas (aaz (aah e) I.ok.above))).trans e1]
  .obtain⟨o',e1⟩:=I.base.there b o e hx;exact#[o',(hs.2 b (aas (aaz (aah e) I.ok.above))).trans e1]
  .by_cases hj:j=i
   .subst hj;rw[hi]at e1;cases e1;rw[acy his]at e2;cases e2;exact#[u,r,.inl #[hk,#[0]]]
   .rw[aaw (abE hj)]at e2;obtain⟨u',r',q⟩:=hl j y v' e1 e2 e3;refine#[u',r',?_];rcases q with ⟨k,e⟩|⟨k,c,e,z⟩
    .refine .inl #[k,?_];have:y≠x:=λe=>hj (n4 hN e1 (e ▸ hi));simp[this,e]
    .exact .inr #[k,c,e,z.sameBut hs (OG y c e)]
  .obtain⟨w',z⟩:=I.cell y c e;exact#[w',z.sameBut hs (OG y c e)]
  .obtain⟨e,n,ne,nf,d⟩:=I.pin p hp;exact#[(hs.2 p.1 ne).trans e,n,ne,nf,d]
 .have U8:X.fn x=true:=by simp_all
  obtain⟨c,hc⟩:=I.ok.has x (.inl hk);obtain⟨w',z⟩:=I.cell x c hc;refine wpAny_storeName_cell I.ok.kind hk hc z (λh' Ft hs=>?_);obtain⟨oc,O3,US⟩:=id z;refine h {s with heap:=h'} #[I.ok,I.os,I.bare,#[λb o e n hb hx=>?_,λb o e n hb hx=>?_,I.base.free,λb o e hx=>?_,I.base.Gj,I.base.Hb,I.base.Ht],#[m,hn.sameBut hs (abE (OG x c hc)),λj y v' e1 e2 e3=>?_],λy c' e=>?_,I.free,I.Dl,λp hp=>?_,tracked #[oc,O3,I.Dl x c hc] hs,by simpa using I.len] #[c,hs,.inr hc]
  .exact(hs.2 b (aas (aaz (aah e) (I.ok.R7 x c U8 hc)))).trans (I.base.keep b o e n hb hx)
  .obtain⟨sl,e1⟩:=I.base.slot b o e n hb hx;exact#[sl,(hs.2 b (aas (aaz (aah e) (I.ok.R7 x c U8 hc)))).trans e1]
  .obtain⟨o',e1⟩:=I.base.there b o e hx;exact#[o',(hs.2 b (aas (aaz (aah e) (I.ok.R7 x c U8 hc)))).trans e1]
  .by_cases hj:j=i
   .subst hj;rw[hi]at e1;cases e1;rw[acy his]at e2;cases e2;exact#[u,r,.inr #[.inl hk,c,hc,Ft]]
   .rw[aaw (abE hj)]at e2;obtain⟨u',r',q⟩:=hl j y v' e1 e2 e3;refine#[u',r',?_];rcases q with q|⟨k,c',e,z'⟩
    .exact .inl q
    .refine .inr #[k,c',e,z'.sameBut hs ?_];rintro rfl;exact hj (n4 hN e1 (I.ok.inj _ _ _ e hc ▸ hi))
  .by_cases W8:c'=c
   .subst W8;exact#[_,Ft]
   .obtain⟨w2,z2⟩:=I.cell y c' e;exact#[w2,z2.sameBut hs W8]
  .obtain⟨e,n,ne,nf,d⟩:=I.pin p hp;refine#[(hs.2 p.1 ?_).trans e,n,ne,nf,d];intro q;rw[q,O3]at e;have q':oc=p.2:=aar e;exact d w' (by rw[<- q'];exact US)
def fL{x:Str}(I:Inv X pins U H s)(hN:X.N.Nodup)(hi:X.N[i]?=some x)(hx:Loc X.env.scope x)(r:RelV v u)
  (h:∀s',Inv X pins (U.set i (some v)) H s'->Q () s') (hf:autoParam (X.fn x=true\/X.env.scope.names.lookup x=some .local) ge):wpAny M A (storeName X.env x u) Q E s :=
 gG I hN hi hx r (λs' I' _=>h s' I') hf
variable{s':Shared}
def Inv.R6{ch:Aaj}(I:Inv X pins U H s)(ho:s'.os=s.os)(u:Un (KH X.stack) ch H H' s.heap s'.heap)(Bv:D4 X.prog X.w H' s'.heap)(hg:aep s'.gens)
  (Lv:∀b∈ch,(b∈X.ex\/X.s0.heap.objs.size<=b)/\b≠X.env.locals/\(∀x c,X.env.cells.lookup x=some c->c≠b)/\∀p∈X.pn++pins,p.1≠b):Inv X pins U H' s':=by
 obtain⟨h',g',d',t',o'⟩:=s';have e:o'=s.os:=ho;subst e;exact I.call (g':=g') (t':=t') (d':=d') u Bv hg Lv
abbrev XK:=Value->Option Addr->Hp->Prop
abbrev St:=List (Aav)
abbrev VK:=V->Hp->Prop
abbrev TE:=St->Hp->VK->Prop
abbrev TT:=St->Hp->(Bool->Hp->Prop)->Prop
abbrev TA:=St->Hp->(Aai->Hp->Prop)->Prop
structure Ends where
 nx:St->Hp->Prop
 rt:VK
 bk:St->Hp->Prop:=λ_ _=>False
 ct:St->Hp->Prop:=λ_ _=>False
abbrev TS:=Ends->St->Hp->Prop
def EP(X:Cx)(pins:Aac)(U:St)(Q:VK)(u:Value)(s':Shared):Prop:=∃v H',Inv X pins U H' s'/\RelV v u/\Q v H'
def TP(X:Cx)(pins:Aac)(U:St)(Q:Bool->Hp->Prop)(b:Bool)(s':Shared):Prop:=∃H',Inv X pins U H' s'/\Q b H'
def AP(X:Cx)(pins:Aac)(U:St)(Q:Aai->Hp->Prop)(us:Aae)(s':Shared):Prop:=∃vs H',Inv X pins U H' s'/\AS vs us/\Q vs H'
def SP(X:Cx)(pins:Aac)(D:Ends)(f:Flow)(s':Shared):Prop :=
 match f with
 |.next=>∃sa H',Inv X pins sa H' s'/\D.nx sa H'
 |.brk=>∃sa H',Inv X pins sa H' s'/\D.bk sa H'
 |.cont=>∃sa H',Inv X pins sa H' s'/\D.ct sa H'
 |.ret u=>∃v sa H',Inv X pins sa H' s'/\RelV v u/\D.rt v H'
def PE(X:Cx)(e:Expr)(t:TE):Prop :=
 ∀(pins:Aac) (s:Shared) (U:St) (H:Hp) (Q:VK),Inv X pins U H s->t U H Q->wpAny (model X.prog X.w) X.A (eval e X.env) (EP X pins U Q) X.xe s
def PT(X:Cx)(e:Expr)(t:TT):Prop :=
 ∀(pins:Aac) (s:Shared) (U:St) (H:Hp) (Q:Bool->Hp->Prop),Inv X pins U H s->t U H Q->wpAny (model X.prog X.w) X.A (isTrue e X.env (eval e X.env)) (TP X pins U Q) X.xe s
def PW(X:Cx)(e:Expr)(t:TT):Prop :=
 ∀(whole:Sem Value) (pins:Aac) (s:Shared) (U:St) (H:Hp) (Q:Bool->Hp->Prop),Inv X pins U H s->t U H Q->wpAny (model X.prog X.w) X.A (isTrue e X.env whole) (TP X pins U Q) X.xe s
def PW.pt{e:Expr}{t:TT}(h:PW X e t):PT X e t:=h _
def PA(X:Cx)(es:Aak)(t:TA):Prop :=
 ∀(pos:Pos) (pins:Aac) (s:Shared) (U:St) (H:Hp) (Q:Aai->Hp->Prop),Inv X pins U H s->t U H Q->wpAny (model X.prog X.w) X.A (spliced (backTo pos (aai es X.env))) (AP X pins U Q) X.xe s
def PS(X:Cx)(st:Stmt)(t:TS):Prop :=
 ∀(pins:Aac) (s:Shared) (U:St) (H:Hp) (D:Ends),Inv X pins U H s->t D U H->wpAny (model X.prog X.w) X.A (exec st X.env) (SP X pins D) X.xe s
def IT(X:Cx)(st:List Stmt)(t:TS):Prop :=
 ∀(pins:Aac) (s:Shared) (U:St) (H:Hp) (D:Ends),Inv X pins U H s->t D U H->wpAny (model X.prog X.w) X.A (execs st X.env) (SP X pins D) X.xe s
def BZ{t:Sem α}{Q Q':α->Shared->Prop}(h:wpAny M A t Q E s)(hQ:∀a s,Q a s->Q' a s):wpAny M A t Q' E s:=aay h hQ λ_ _ x=>x
def B2(i:Nat):TE:=λU H Q=>∃v,U[i]?=some (some v)/\Q v H
def tC(v:V):TE:=λ_ H Q=>Q v H
variable{pos:Pos}
def za{x:Str}(hN:X.N[i]?=some x)(hv:Hq X.env.scope x)(hd:autoParam ((x==("__debug__" : Str))=false) on)(FT:autoParam ((x==("__classdict__" : Str))=false) on):PE X (.Name x pos) (B2 i):=by
 intro pins s U H Q I h;obtain⟨v,e,h⟩:=h;obtain⟨m,hn,hl⟩:=I.loc;obtain⟨u,r,l⟩:=hl i x v hN e hv;have fin:EP X pins U Q u s:=#[v,H,I,r,h]
 rcases l with ⟨hk,hm⟩|⟨hk,c,hc,Dk⟩
 .exact aeF (wpAny_loadName_local I.ok.kind hk hn hm fin) hd
 .rcases hk with hk|hk
  .exact aeF (wpAny_loadName_cell I.ok.kind hk hc Dk fin) hd
  .exact aeF (wpAny_loadName_free I.ok.kind hk hc Dk fin FT) hd
def aA{i j pos}:PE X (.Constant (.int i) j pos) (tC (.int i)):=λ_ _ _ H _ I h=>wpAny_Constant_int #[.int i,H,I.tok _,#[_,rfl],h]
def A2{b j pos}:PE X (.Constant (.bool b) j pos) (tC (.bl b)):=λ_ _ _ H _ I h=>Constant_bool #[.bl b,H,I,rfl,h]
def sJ{j pos}:PE X (.Constant .none j pos) (tC .Bw):=λ_ _ _ H _ I h=>Constant_none #[.Bw,H,I,rfl,h]
def aQ{x j pos}:PE X (.Constant (.str x) j pos) (tC (.str x)):=λ_ _ _ H _ I h=>Calls.Constant_str #[.str x,H,I.tok _,#[_,rfl],h]
def Gl(X:Cx)(x:Str):Prop:=X.env.kindOf x=some .globalImplicit
def qf{U:St}{x:Str}{Q:Aab}(I:Inv X pins U H s)(hg:Gl X x)(hm:X.mg x=some u)(h:Q u s)
  (hd:autoParam ((x==("__debug__" : Str))=false) on):wpAny (model X.prog X.w) X.A (eval (.Name x pos) X.env) Q E s :=
 afA I.ok.kind hg (Calls.loadGlobal_global (by rw[I.ok.glob];exact I.mod.glob.keeps I.bk) hm h) hd
def bV{U:St}{x:Str}{Q:Aab}(I:Inv X pins U H s)(hg:Gl X x)(hm:X.mg x=none)(hv:acn x=some u)(h:Q u s)
  (hn:autoParam (x ≠ "__name__") on) (hd:autoParam ((x==("__debug__" : Str))=false) on):wpAny (model X.prog X.w) X.A (eval (.Name x pos) X.env) Q E s:=by
 obtain⟨mb,h1,h2⟩:=I.mod.blt;exact afA I.ok.kind hg (Calls.loadGlobal_builtin (by rw[I.ok.glob];exact I.mod.glob.keeps I.bk) hm (by rw[I.ok.blt];exact h1.keeps I.bk) ((h2 x hn).trans hv) h) hd
def xf{x:Str}(hg:Gl X x)(hm:X.mg x=some u)(r:RelV v u)(hd:autoParam ((x==("__debug__" : Str))=false) on):PE X (.Name x pos) (tC v) :=
 λ_ _ _ H _ I h=>qf I hg hm #[v,H,I,r,h] hd
def xh{x:Str}(hg:Gl X x)(hm:X.mg x=none)(hv:acn x=some u)(r:RelV v u)(hn:autoParam (x ≠ "__name__") on)(hd:autoParam ((x==("__debug__" : Str))=false) on):PE X (.Name x pos) (tC v) :=
 λ_ _ _ H _ I h=>bV I hg hm hv #[v,H,I,r,h] hn hd
variable{a b:Expr}{ta tb:TE}
variable{tA SF:TT}{rest:Aak}
def Gm(t u:TT):TT:=λU H Q=>t U H λc H1=>if c=true then u U H1 Q else Q false H1
def IY(t u:TT):TT:=λU H Q=>t U H λc H1=>if c=true then Q true H1 else u U H1 Q
def Dr(t:TT):TT:=λU H Q=>t U H λc H1=>Q (!c) H1
def pw_and1(ha:PT X a tA):PW X (.BoolOp .And [a] pos) tA:=by
 intro wh pins s U H Q I h;refine isTrue_and (BZ (ha pins s U H Q I h) λc s1 e=>?_);cases c with
 |true=>exact isTrue_and_nil e
 |false=>exact e
def pw_or1(ha:PT X a tA):PW X (.BoolOp .Or [a] pos) tA:=by
 intro wh pins s U H Q I h;refine isTrue_or (BZ (ha pins s U H Q I h) λc s1 e=>?_);cases c with
 |false=>exact isTrue_or_nil e
 |true=>exact e
def pw_and(ha:PT X a tA)(hb:PW X (.BoolOp .And (b::rest) pos) SF):PW X (.BoolOp .And (a::b::rest) pos) (Gm tA SF):=by
 intro wh pins s U H Q I h;refine isTrue_and (BZ (ha pins s U H _ I h) λc s1 #[H1,I1,q1]=>?_);cases c with
 |true=>exact hb wh pins s1 U H1 Q I1 q1
 |false=>exact#[H1,I1,q1]
def pw_or(ha:PT X a tA)(hb:PW X (.BoolOp .Or (b::rest) pos) SF):PW X (.BoolOp .Or (a::b::rest) pos) (IY tA SF):=by
 intro wh pins s U H Q I h;refine isTrue_or (BZ (ha pins s U H _ I h) λc s1 #[H1,I1,q1]=>?_);cases c with
 |true=>exact#[H1,I1,q1]
 |false=>exact hb wh pins s1 U H1 Q I1 q1
def yZ(ha:PT X a tA):PT X (.UnaryOp .Not a pos) (Dr tA):=by intro pins s U H Q I h;exact isTrue_not (ha pins s U H _ I h)
def Qu(ta tb:TE):TE:=λU H Q=>ta U H λx H1=>∃c,x=.bl c/\if c=true then tb U H1 Q else Q (.bl false) H1
def zd{op}{t:TE}(h:PE X a t):PE X (.BoolOp op [a] pos) t:=λpins s U H Q I hw=>BoolOp_one (h pins s U H Q I hw)
def zg(ha:PE X a ta)(hb:PE X (.BoolOp .And (b::rest) pos) tb):PE X (.BoolOp .And (a::b::rest) pos) (Qu ta tb):=by
 intro pins s U H Q I h;refine BoolOp_and (BZ (ha pins s U H _ I h) λv s1 #[x,H1,I1,r1,q1]=>?_);obtain⟨c,rfl,q1⟩:=q1;cases r1;refine ab0 ?_;cases c with
 |true=>exact hb pins s1 U H1 Q I1 q1
 |false=>exact#[.bl false,H1,I1,rfl,q1]
def XU(t:TT)(ta tb:TE):TE:=λU H Q=>t U H λc H1=>if c=true then ta U H1 Q else tb U H1 Q
variable{c:Expr}
def u6(hc:PT X c tA)(ha:PE X a ta)(hb:PE X b tb):PE X (.IfExp c a b pos) (XU tA ta tb):=by
 intro pins s U H Q I h;refine wpAny_IfExp (BZ (hc pins s U H _ I h) λd s1 #[H1,I1,q1]=>?_);cases d with
 |true=>exact ha pins s1 U H1 Q I1 q1
 |false=>exact hb pins s1 U H1 Q I1 q1
def CN(K:aaf)(H:Hp)(a:Addr)(xs:Aai):Prop :=
 Rd H a (.lst xs) \/
  ∃(o:Obj) (gE:Aam) (n:Nat),K.lookup a=some o/\o.cls=.type "list" /\ o.dict=none/\o.data=.seq gE n/\gE.size<=sizeLine/\AS xs gE.toList
def C3(K:aaf)(H:Hp)(a:Addr)(xs:Aai):Prop :=
 Rd H a (.tup xs) \/
  ∃(o:Obj) (gE:Aam) (n:Nat),K.lookup a=some o/\o.cls=.type "tuple" /\ o.data=.seq gE n/\gE.size<=sizeLine/\AS xs gE.toList
noncomputable def VF:Value->Option V
 |.none=>some .Bw
 |.bool b=>some (.bl b)
 |.int i _=>some (.int i)
 |.str x _=>some (.str x)
 |.bytes b _=>some (.JK b)
 |.float b _=>some (.Pd b)
 |.ref a=>some (.ref a)
 |.type n=>some (.ty n)
 |_=>none
def RelV.abs{x:V}(r:RelV x u):VF u=some x:=by
 cases x with
 |Bw=>cases r;rfl
 |bl _=>cases r;rfl
 |int _=>obtain⟨t,rfl⟩:=r;rfl
 |str _=>obtain⟨t,rfl⟩:=r;rfl
 |JK _=>obtain⟨t,rfl⟩:=r;rfl
 |Pd _=>obtain⟨t,rfl⟩:=r;rfl
 |ref _=>cases r;rfl
 |ty _=>cases r;rfl
variable{y:V}
def RelV.inj{x:V}(r:RelV x u)(q:RelV y u):x=y:=aar (r.abs.symm.trans q.abs)
def AS.inj:∀{xs ys:Aai} {us:Aae},AS xs us->AS ys us->xs=ys
 |_,_,_,.nil,.nil=>rfl
 |_,_,_,.cons r t,.cons r' t'=>by rw[r.inj r',AS.inj t t']
variable{U:St}{a:Addr}{ys:Aai}
variable{K:aaf}
def CN.of(h:H a=some (.lst xs)):CN K H a xs:=.inl (.inl h)
theorem Inv.list(I:Inv X pins U H s)(h:CN X.K H a xs):∃gE:Aae,AS xs gE/\PlainL s.heap a gE.toArray/\xs.length<=sizeLine:=by
 rcases h with h|⟨o,gE,n,hk,hc,hd,hs,hz,r⟩
 .obtain⟨z,gE,n,r,e⟩:=h.ok I.Bv;exact#[gE,r,#[_,n,e,rfl,rfl,rfl],z]
 .refine#[gE.toList,r,#[o,n,I.G8 a o hk,hc,hd,by simpa using hs],?_];have e:=r.length;simp only[aaK]at e;omega
theorem Inv.tuple(I:Inv X pins U H s)(h:C3 X.K H a xs):∃gE:Aae,AS xs gE/\IsTup s.heap a gE.toArray/\xs.length<=sizeLine:=by
 rcases h with h|⟨o,gE,n,hk,hc,hs,hz,r⟩
 .obtain⟨z,gE,r,p⟩:=h.ok I.Bv;exact#[gE,r,p,z]
 .refine#[gE.toList,r,#[o,I.G8 a o hk,hc,n,by simpa using hs],?_];have e:=r.length;simp only[aaK]at e;omega
def Inv.EA(I:Inv X pins U H s)(h:CN X.K H a xs)(h':CN X.K H a ys):xs=ys:=by
 obtain⟨gE,r,⟨o,n,e,_,_,d⟩,_⟩:=I.list h;obtain⟨Fl,r',⟨o',n',e',_,_,d'⟩,_⟩:=I.list h';rw[e]at e';have:gE=Fl:=by simp_all
 subst this;exact r.inj r'
def Inv.D0(I:Inv X pins U H s)(h:C3 X.K H a xs)(h':C3 X.K H a ys):xs=ys:=by
 obtain⟨gE,r,⟨o,e,_,n,d⟩,_⟩:=I.tuple h;obtain⟨Fl,r',⟨o',e',_,n',d'⟩,_⟩:=I.tuple h';rw[e]at e';cases e';rw[d]at d';injection d' with d1 _;have:gE=Fl:=by simpa using congrArg Array.toList d1
 subst this;exact r.inj r'
noncomputable abbrev Cx.Gi(X:Cx)(E:Aab):Cx:={X with xe:=E}
noncomputable abbrev Cx.JQ(X:Cx):Cx:=X.Gi λ_ _=>False
def Cx.Ok.Gi(ok:X.Ok)(E:Aab):(X.Gi E).Ok :=
 #[ok.mod,ok.kind,ok.glob,ok.blt,ok.above,ok.inj,ok.has,ok.R7,ok.hd,ok.frames,ok.SG,ok.Xn,ok.bs,ok.MY,ok.Kk,ok.L9,ok.FU,ok.Pc]
def Cx.Ok.DF(ok:(X.Gi E).Ok):X.Ok :=
 #[ok.mod,ok.kind,ok.glob,ok.blt,ok.above,ok.inj,ok.has,ok.R7,ok.hd,ok.frames,ok.SG,ok.Xn,ok.bs,ok.MY,ok.Kk,ok.L9,ok.FU,ok.Pc]
def Inv.Gi(I:Inv X pins U H s)(E:Aab):Inv (X.Gi E) pins U H s:=#[I.ok.Gi E,I.os,I.bare,I.base,I.loc,I.cell,I.free,I.Dl,I.pin,I.Bv,I.len]
def Inv.DF(I:Inv (X.Gi E) pins U H s):Inv X pins U H s:=#[I.ok.DF,I.os,I.bare,I.base,I.loc,I.cell,I.free,I.Dl,I.pin,I.Bv,I.len]
def SP.DF{D:Ends}{f:Flow}(h:SP (X.Gi E) pins D f s'):SP X pins D f s':=by
 cases f with
 |next=>obtain⟨sa,H',I,q⟩:=h;exact#[sa,H',I.DF,q]
 |brk=>obtain⟨sa,H',I,q⟩:=h;exact#[sa,H',I.DF,q]
 |cont=>obtain⟨sa,H',I,q⟩:=h;exact#[sa,H',I.DF,q]
 |ret u=>obtain⟨v,sa,H',I,r,q⟩:=h;exact#[v,sa,H',I.DF,r,q]
def IT.JQ{st:List Stmt}{t:TS}(h:IT X.JQ st t):IT X st t:=λpins s U H D I hw=>aay (h pins s U H D (I.Gi _) hw) (λ_ _ q=>q.DF) λ_ _ z=>acW z
variable{st:Stmt}{rest:List Stmt}{t u:TS}{e:Expr}{te:TE}
def Mp:TS:=λD U H=>D.nx U H
def GY(t u:TS):TS:=λD U H=>t {D with nx:=u D} U H
def lf:IT X [] Mp:=λ_ _ U H _ I h=>ad5 #[U,H,I,h]
def aL(h1:PS X st t)(h2:IT X rest u):IT X (st::rest) (GY t u):=by
 intro pins s U H D I h;refine wpAny_execs_cons (BZ (h1 pins s U H _ I h) λf s1 q=>?_);cases f with
 |next=>obtain⟨sa,H',I',q⟩:=q;exact h2 pins s1 sa H' D I' q
 |ret v=>exact q
 |brk=>exact q
 |cont=>exact q
def cV(h1:PS X st t):IT X [st] t:=by
 intro pins s U H D I h;refine wpAny_execs_cons (BZ (h1 pins s U H D I h) λf s1 q=>?_);cases f with
 |next=>exact ad5 q
 |ret v=>exact q
 |brk=>exact q
 |cont=>exact q
def Inv.quiet(I:Inv X pins U H s):interactive X.env=false:=by simp[interactive,I.ok.kind]
def Qq(te:TE):TS:=λD U H=>te U H λ_ H1=>D.nx U H1
def lg(he:PE X e te)(hs:autoParam (abU e none pos.line X.env=pure false) oR):PS X (.Expr e pos) (Qq te):=by intro pins s U H D I h;exact wpAny_Expr_any (BZ (he pins s U H _ I h) λv s1 #[x,H1,I1,r1,q1]=>#[U,H1,I1,q1]) I.quiet hs
def Nr(te:TE):TS:=λD U H=>te U H D.rt
def fq(he:PE X e te):PS X (.Return (some e) pos) (Nr te):=by intro pins s U H D I h;exact wpAny_Return_some (BZ (he pins s U H _ I h) λv s1 #[x,H1,I1,r1,q1]=>#[x,U,H1,I1,r1,q1])
def Qp(c:TT)(t u:TS):TS:=λD U H=>c U H λb H1=>if b=true then t D U H1 else u D U H1
def qQ{a b:List Stmt}{tc:TT}(hc:PT X c tc)(ha:IT X a t)(hb:IT X b u):PS X (.If c a b pos) (Qp tc t u):=by
 intro pins s U H D I h;refine wpAny_If (BZ (hc pins s U H _ I h) λd s1 #[H1,I1,q1]=>?_);cases d with
 |true=>exact ha pins s1 U H1 D I1 q1
 |false=>exact hb pins s1 U H1 D I1 q1
abbrev TG:=V->St->Hp->(St->Hp->Prop)->Prop
abbrev JU:=List V->St->Hp->(St->Hp->Prop)->Prop
def PG(X:Cx)(target:Expr)(t:TG):Prop :=
 ∀(pins:Aac) (s:Shared) (U:St) (H:Hp) (v:V) (u:Value) (Q:St->Hp->Prop),Inv X pins U H s->RelV v u->t v U H Q ->
  wpAny (model X.prog X.w) X.A (assign target X.env u) (λ_ s'=>∃sa H',Inv X pins sa H' s'/\Q sa H') X.xe s
def Sh(X:Cx)(ts:Aak)(t:JU):Prop :=
 ∀(pins:Aac) (s:Shared) (U:St) (H:Hp) (vs:Aai) (us:Aae) (Q:St->Hp->Prop),Inv X pins U H s->AS vs us->t vs U H Q ->
  wpAny (model X.prog X.w) X.A (assignInOrder ((act ts X.env).map (·.2)) us) (λ_ s'=>∃sa H',Inv X pins sa H' s'/\Q sa H') X.xe s
abbrev Le:=V->V->V->Hp->(Hp->Prop)->Prop
def HR(X:Cx)(t:Le):Prop :=
 ∀(pins:Aac) (s:Shared) (U:St) (H:Hp) (o i v:V) (ov iv u:Value) (Q:Hp->Prop),Inv X pins U H s->RelV o ov->RelV i iv->RelV v u->t o i v H Q ->
  wpAny (model X.prog X.w) X.A (setItem ov iv u) (λ_ s'=>∃H',Inv X pins U H' s'/\Q H') X.xe s
def B8(i:Nat):TG:=λv U H Q=>Q (U.set i (some v)) H
def lm{x:Str}(hN:X.N.Nodup)(hi:X.N[i]?=some x)(hx:Loc X.env.scope x)(hf:autoParam (X.fn x=true\/X.env.scope.names.lookup x=some .local) ge):PG X (.Name x pos) (B8 i):=by intro pins s U H v u Q I r h;exact aeE (fL I hN hi hx r (λs' I'=>#[_,H,I',h]) hf)
def Ou:JU:=λvs U H Q=>vs=[]/\Q U H
def HG(t:TG)(u:JU):JU:=λvs U H Q=>∃v r,vs=v::r/\t v U H λsa H'=>u r sa H' Q
def pZ:Sh X [] Ou:=by intro pins s U H vs us Q I r h;obtain⟨e,h⟩:=h;subst e;exact assignInOrder_nil #[U,H,I,h]
def nT{es:Aak}{t:TG}{u:JU}(h1:PG X e t)(h2:Sh X es u)
  (hs:autoParam ((act (e::es) X.env).map (·.2)=assign e X.env::(act es X.env).map (·.2)) oR):Sh X (e::es) (HG t u):=by
 intro pins s U H vs us Q I r h;obtain⟨v,vr,e1,h⟩:=h;subst e1;cases r with
 |cons r rr=>rw[hs];refine aex (BZ (h1 pins s U H _ _ _ I r h) λ_ s1 #[ss,H1,I1,q1]=>?_);exact h2 pins s1 ss H1 _ _ Q I1 rr q1
def Oq(K:aaf)(n:Nat)(t:JU):TG:=λv U H Q=>∃a xs,v=.ref a/\C3 K H a xs/\xs.length=n/\t xs U H Q
variable{k n:Nat}
def sD{es:Aak}{t:JU}(hc:X.calm=true)(h:Sh X es t)
  (hn:autoParam ((act es X.env).length=n) oR) (GN:autoParam ((act es X.env).findIdx? (·.1)=none) oR):PG X (.Tuple es k pos) (Oq X.K n t):=by
 intro pins s U H v u Q I r hw;obtain⟨a,xs,e1,hq,hl,hw⟩:=hw;subst e1;cases r;obtain⟨gE,rv,ht,hz⟩:=I.tuple hq;refine assign_Tuple_tuple (I.ok.hd hc) ht (by simp[hn,<- hl,rv.length]) GN λh' hx=>?_;have I1  := I.kept (t':=s.toks) λb o e=>hx b o (aas (aah e)) e;exact h pins _ U H xs _ Q I1 #[1] hw
def Ot(to ti:TE)(t:Le):TG:=λv U H Q=>to U H λo H1=>ti U H1 λi H2=>t o i v H2 λH3=>Q U H3
variable{to:TE}
def j4{o i:Expr}{ti:TE}{t:Le}(ho:PE X o to)(hi:PE X i ti)(hs:HR X t)
  (ha:autoParam (∀v,assign (.Subscript o i pos) X.env v=(do
   let ov <- adp [v] (eval o X.env);let iv <- adp [v,ov] (eval i X.env)
   aff pos
   adp [v,ov,iv] (setItem ov iv v)
   release [v,ov,iv] [])) At):PG X (.Subscript o i pos) (Ot to ti t):=by
 intro pins s U H v u Q I r h;refine aaa (aaY (BZ (ho pins s U H _ I h) λov s1 #[x,H1,I1,r1,q1]=>?_));refine aaa (aaY (BZ (hi pins s1 U H1 _ I1 q1) λiv s2 #[y,H2,I2,r2,q2]=>?_));refine aaa (abR (aaa (aaY (BZ (hs pins s2 U H2 x y v ov iv u _ I2 r1 r2 r q2) λ_ s3 #[H3,I3,q3]=>?_))));exact wpAny_release #[U,H3,I3,q3]
def Gk(te:TE)(g:TG):TS:=λD U H=>te U H λx H1=>g x U H1 D.nx
variable{tg:Expr}
def gW{g:TG}(he:PE X e te)(hg:PG X tg g)(hs:autoParam (adR [tg] e pos.line X.env=pure false) oR)(hw:autoParam (adS [tg] e X.env=pure none) oR)
  (h1:autoParam ((act [tg] X.env).map (·.2)=[assign tg X.env]) oR):PS X (.Assign [tg] e pos) (Gk te g):=by
 intro pins s U H D I h;refine wpAny_Assign_stores (BZ (he pins s U H _ I h) λv s1 #[x,H1,I1,r1,q1]=>?_) hs hw;rw[h1];exact BZ (hg pins s1 U H1 x v _ I1 r1 q1) λ_ s2 q=>q
variable{pos':Pos}
def bu{x:Str}(hN:X.N.Nodup)(hi:X.N[i]?=some x)(hx:Loc X.env.scope x)(he:PE X e te)(hs:autoParam (abU e (some (.Name x pos')) pos.line X.env=pure false) oR)(hf:autoParam (X.fn x=true\/X.env.scope.names.lookup x=some .local) ge):
  PS X (.Assign [.Name x pos'] e pos) (Gk te (B8 i)):=by
 intro pins s U H D I h;refine wpAny_Assign_Name (BZ (he pins s U H _ I h) λv s1 #[y,H1,I1,r1,q1]=>?_) hs;exact fL I1 hN hi hx r1 (λs2 I2=>#[_,H1,I2,q1]) hf
def TM(i j:Nat)(ta:TA):TS:=λD U H=>ta U H λvs H1=>∃v w,vs=[v,w]/\D.nx ((U.set i (some v)).set j (some w)) H1
variable{py:Pos}
def y0{x y:Str}{a:Expr}{ta:TA}{px pt:Pos}{kt k2 pt2}(hc:X.calm=true)(hN:X.N.Nodup)(hi:X.N[i]?=some x)(hj:X.N[j]?=some y)(Ew:i≠j)
  (hx:X.env.scope.names.lookup x=some .local) (hy:X.env.scope.names.lookup y=some .local) (ha:PA X [a,b] ta)
  (hw:adS [.Tuple [.Name x px,.Name y py] kt pt] (.Tuple [a,b] k2 pt2) X.env=pure (some [x,y]))
  (hs:autoParam (adR [.Tuple [.Name x px,.Name y py] kt pt] (.Tuple [a,b] k2 pt2) pos.line X.env=pure false) oR) :
  PS X (.Assign [.Tuple [.Name x px,.Name y py] kt pt] (.Tuple [a,b] k2 pt2) pos) (TM i j ta):=by
 intro pins s U H D I h;refine aaa (abR ?_);refine aaa (aae ?_);refine aaa (Tuple_ (BZ (ha _ pins s U H _ I h) λus s1 #[vs,H1,I1,r1,q1]=>?_));obtain⟨v,w,e1,q1⟩:=q1;subst e1;obtain⟨u1,u2,rfl,rv,Fq⟩:∃u1 u2,us=[u1,u2]/\RelV v u1/\RelV w u2:=by
  cases r1 with
  |cons p q=>
   cases q with
   |cons p' q'=>cases q';exact#[_,_,rfl,p,p']
 refine aa1 ?_ (by show 2<=sizeLine;decide);have I2:Inv X pins U H1 {s1 with heap:=s1.heap.push {cls:=.type "tuple",data:=.seq [u1,u2].toArray}}:=I1.kept λb o e=>aad _ e;rw[hw];refine aaa (aae ?_);refine aaa (acs (aaa (unpackItems_tuple (items:=#v[u1,u2]) (I.ok.hd hc) (IsTup.new s1.heap _) λh' Yw=>?_)));have I3:=I2.kept (t':=s1.toks) λb o e=>Yw b o (aas (aah e)) e;refine aaa (aex (wpAny_bindName (fL I3 hN hj (.inl hy) Fq (λs2 I4=>?_) (.inr hy))));refine aex (wpAny_bindName (fL I4 hN hi (.inl hx) rv (λs3 I5=>assignInOrder_nil (aae ?_)) (.inr hx)));rw[List.set_comm _ _ (abE Ew)]at I5;exact#[_,H1,I5,q1]
def Np(c:TT)(tb:TS):TS:=λD U H=>∃W:Nat->St->Hp->Prop,(∃m,W m U H)/\∀m U H,W m U H ->
 c U H λb H1=>if b=true then ∃N:St->Hp->Prop,(∀sa H',N sa H'->∃m',m'<m/\W m' sa H')/\tb {D with nx:=N,ct:=N,bk:=D.nx} U H1 else D.nx U H1
variable{body:List Stmt}
def uX{tc:TT}{tb:TS}(hp:PassesOwn (model X.prog X.w) X.A X.env X.xe)(hc:PT X c tc)(hb:IT X body tb):PS X (.While c body [] pos) (Np tc tb):=by
 intro pins s U H D I h;obtain⟨W,⟨m0,w0⟩,turn⟩:=h;refine wpAny_While (codeAny_whileLoop (λn s'=>∃sa H',Inv X pins sa H' s'/\W n sa H') ?_ m0 #[U,H,I,w0]);rintro n s1 ⟨ss,H1,I1,w1⟩;refine acC hp (BZ (hc pins s1 ss H1 _ I1 (turn n ss H1 w1)) λb s2 #[H2,I2,q2]=>?_);cases b with
 |true=>
  obtain⟨N,hN,q2⟩:=q2;refine acC hp (BZ (hb pins s2 ss H2 _ I2 q2) λf s3 q3=>?_);cases f with
  |next=>obtain⟨sm,H3,I3,n3⟩:=q3;obtain⟨m',hm,w3⟩:=hN sm H3 n3;exact#[m',hm,sm,H3,I3,w3]
  |cont=>obtain⟨sm,H3,I3,n3⟩:=q3;obtain⟨m',hm,w3⟩:=hN sm H3 n3;exact#[m',hm,sm,H3,I3,w3]
  |brk=>exact q3
  |ret v=>exact q3
 |false=>exact ad5 #[ss,H2,I2,q2]
structure It where
 go:Nat->Hp->Prop
 yld:Nat->Hp->V->Hp->Prop
 stop:Nat->Hp->Prop
def Dz(X:Cx)(pins:Aac)(H:Hp)(b:Addr):Prop :=
 H b=none/\b≠X.env.locals/\b∉X.fs/\(b∈X.ex\/X.s0.heap.objs.size<=b)/\(∀x c,X.env.cells.lookup x=some c->c≠b)/\∀p∈X.pn++pins,p.1≠b
def Inv.HH{b:Addr}(I:Inv X pins U H s)(hb:s.heap.objs.size<=b)(hn:H' b=none):Dz X pins H' b:=by
 refine#[hn,abL (aaz I.lt hb),I.Uk hb,.inr (aaX I.sz hb),λx c e z=>?_,λp hp z=>?_]
 .obtain⟨v,q⟩:=I.cell x c e;exact absurd (aaz q.lt #[1]) (abv _)
 .exact absurd (aaz (aah (I.pin p hp).1) #[1]) (abv _)
structure Turn(P:aaD)(w:World)(K:aaf)(tg:Expr)(J:It)(fp:Aaj)(it:Addr)(tn:Nat->Heap->Prop):Prop where
 mem:it∈fp
 obj:∀i h,tn i h->∀b∈fp,∃o,h.get? b=some o/\∀v,o.data≠.cell v
 keep:∀i h h',tn i h->(∀b∈fp,∀o,h.get? b=some o->h'.get? b=some o)->tn i h'
 item:∀(X:Cx),X.prog=P->X.w=w->X.K=K->X.calm=true->∀(i:Nat) (pins:Aac) (s:Shared) (U:St) (H:Hp) (E:Aab),Inv X pins U H s->(∀b∈fp,Dz X pins H b)->tn i s.heap->J.go i H ->
  wpAny (model P w) X.A (pyNext (.ref it)) (λr s1=>∃u,r=some u /\
   wpAny (model P w) X.A (adn tg (.ref it) u) (λ_ s2=>∃x H',Inv X pins U H' s2/\RelV x u/\J.yld i H x H'/\tn (i+1) s2.heap/\∀b∈fp,H' b=none) E s1) E s
 done:∀(X:Cx),X.prog=P->X.w=w->X.K=K->X.calm=true->∀(i:Nat) (pins:Aac) (s:Shared) (U:St) (H:Hp) (E:Aab),Inv X pins U H s->(∀b∈fp,Dz X pins H b)->tn i s.heap->J.stop i H ->
  wpAny (model P w) X.A (pyNext (.ref it)) (λr s1=>r=none/\Inv X pins U H s1) E s
 self:∀(A:Around) (i:Nat) (s:Shared) (Q:Aab) (E:Aab),tn i s.heap->Q (.ref it) s->wpAny (model P w) A (pyIter (.ref it)) Q E s
abbrev TI:=St->Hp->(It->Hp->Prop)->Prop
def Xx(X:Cx)(pins:Aac)(U:St)(tg:Expr)(R:It->Hp->Prop)(O0:Value)(s2:Shared):Prop :=
 ∃(it:Addr) (fp:Aaj) (tn:Nat->Heap->Prop) (J:It) (H':Hp),O0=.ref it/\Inv X pins U H' s2/\Turn X.prog X.w X.K tg J fp it tn/\tn 0 s2.heap/\(∀b∈fp,Dz X pins H' b)/\R J H'
def PI(X:Cx)(tg iter:Expr)(wi:TI):Prop :=
 ∀(pins:Aac) (s:Shared) (U:St) (H:Hp) (R:It->Hp->Prop),Inv X pins U H s->wi U H R ->
  wpAny (model X.prog X.w) X.A (eval iter X.env) (λv s1=>wpAny (model X.prog X.w) X.A (pyIter v) (Xx X pins U tg R) X.xe s1) X.xe s
def mZ{u:Value}{o:Obj}{n:String}{vs:Aam}(ho:s.heap.get? it=some o)(hc:o.cls=.type n)(hd:o.data=.fields vs)
  (hn:["enumerate", "zip", "dict_itemiterator", "dict_reverseitemiterator", "odict_iterator", "itertools.zip_longest", "itertools.pairwise"].contains n=false) (hQ:Q () s):wpAny M A (adn tg (.ref it) u) Q E s:=by
 cases tg<;>first
  |exact aae hQ
  |(cases u<;>first
    |exact aae hQ
    |(
      refine aaa (wpAny_load ho ?_);rw[hc,hd];show wpAny M A (if (["enumerate", "zip", "dict_itemiterator", "dict_reverseitemiterator", "odict_iterator", "itertools.zip_longest", "itertools.pairwise"].contains n && vs[0]?==some _)=true then _ else _) Q E s;rw[if_neg #[1]];exact aae hQ))
noncomputable def ON(K:aaf)(a:Addr):It :=
 #[λi H=>∃xs x,CN K H a xs/\xs[i]?=some x,λi H x H'=>H'=H/\∀xs,CN K H a xs->xs[i]?=some x,λi H=>∃xs,CN K H a xs/\xs.length<=i]
noncomputable def VJ(K:aaf)(a:Addr):It :=
 #[λi H=>∃xs x,C3 K H a xs/\xs[i]?=some x,λi H x H'=>H'=H/\∀xs,C3 K H a xs->xs[i]?=some x,λi H=>∃xs,C3 K H a xs/\xs.length<=i]
noncomputable def Tw(lo:Int)(n:Nat):It:=#[λi _=>i<n,λi H x H'=>H'=H/\x=.int (lo+i),λi _=>n<=i]
def lU(a it:Addr):Turn P w K tg (ON K a) [it] it (λi h=>h.IsListIter it a i) where
 mem:=by simp
 obj:=λi h st b hb=>by
  have e:b=it:=by simp_all
  subst e;obtain⟨o,e,c,d⟩:=st;exact#[o,e,λv z=>#[1]]
 keep:=λi h h' st k=>st.at λo e=>k it #[0] o e
 item:=by intro X hP hw hK hc i pins s U H E I hf st hg;subst hP hw hK;obtain⟨xs,x,hq,hx⟩:=hg;obtain⟨gE,rv,p,hz⟩:=I.list hq;obtain⟨u,hu,ru⟩:=rv.get hx;obtain⟨f0,f1,f2,f3,f4,f5⟩:=hf it #[0];refine wpAny_pyNext_list_item st p.isList (x:=u) #[1] λh' Gn sb=>?_;have I1  := I.turned (t':=s.toks) (λb o hb e=>(sb.2 b hb).trans e) f0 f1 f3 f4 f5;obtain⟨o,e,c,d⟩:=id Gn;exact#[u,rfl,mZ e c d (rfl) #[x,H,I1,ru,#[rfl,λys hy=>by rw[I.EA hy hq];exact hx],Gn,λb hb=>(hf b hb).1]]
 done:=by intro X hP hw hK hc i pins s U H E I hf st hg;subst hP hw hK;obtain⟨xs,hq,hx⟩:=hg;obtain⟨gE,rv,p,hz⟩:=I.list hq;obtain⟨f0,f1,f2,f3,f4,f5⟩:=hf it #[0];have hl:=rv.length;exact wpAny_pyNext_list_end (I.ok.hd hc) st p.isList #[1] λh' eb=>#[rfl,I.turned (λb o hb e=>eb b o hb e) f0 f1 f3 f4 f5]
 self:=λ_ _ _ _ _ st h=>wpAny_pyIter_listiter st h
def qG(a it:Addr):Turn P w K tg (VJ K a) [it] it (λi h=>h.IsTupleIter it a i) where
 mem:=by simp
 obj:=λi h st b hb=>by
  have e:b=it:=by simp_all
  subst e;obtain⟨o,e,c,d⟩:=st;exact#[o,e,λv z=>#[1]]
 keep:=λi h h' st k=>st.at λo e=>k it #[0] o e
 item:=by intro X hP hw hK hc i pins s U H E I hf st hg;subst hP hw hK;obtain⟨xs,x,hq,hx⟩:=hg;obtain⟨gE,rv,p,hz⟩:=I.tuple hq;obtain⟨u,hu,ru⟩:=rv.get hx;obtain⟨f0,f1,f2,f3,f4,f5⟩:=hf it #[0];refine wpAny_pyNext_tuple_item st (p) (x:=u) #[1] λh' Gn sb=>?_;have I1  := I.turned (t':=s.toks) (λb o hb e=>(sb.2 b hb).trans e) f0 f1 f3 f4 f5;obtain⟨o,e,c,d⟩:=id Gn;exact#[u,rfl,mZ e c d (rfl) #[x,H,I1,ru,#[rfl,λys hy=>by rw[I.D0 hy hq];exact hx],Gn,λb hb=>(hf b hb).1]]
 done:=by intro X hP hw hK hc i pins s U H E I hf st hg;subst hP hw hK;obtain⟨xs,hq,hx⟩:=hg;obtain⟨gE,rv,p,hz⟩:=I.tuple hq;obtain⟨f0,f1,f2,f3,f4,f5⟩:=hf it #[0];have hl:=rv.length;exact wpAny_pyNext_tuple_end (I.ok.hd hc) st (p) #[1] λh' eb=>#[rfl,I.turned (λb o hb e=>eb b o hb e) f0 f1 f3 f4 f5]
 self:=λ_ _ _ _ _ st h=>wpAny_pyIter_tupleiter st h
theorem qH(it:Addr)(lo:Int)(n:Nat):Turn P w K tg (Tw lo n) [it] it (λi h=>IsRangeIter h it (lo+(i:Nat)*1) ((n:Int) - (i:Nat)) 1) where
 mem:=by simp
 obj:=λi h st b hb=>by simp_all
 keep:=λi h h' st k=>k it #[0] _ st
 item:=by intro X hP hw hK hc i pins s U H E I hf st hg;subst hP hw hK;obtain⟨f0,f1,f2,f3,f4,f5⟩:=hf it #[0];have W:=Walks.range (prog:=X.prog) (w:=X.w) (I.ok.hd hc) it lo 1 n;refine W.item i s _ _ hg st λv h' tk hv Gn kk=>?_;obtain⟨t,rfl⟩:=hv;have I1:Inv X pins U H {s with heap:=h',toks:=tk}:=I.turned (λb o hb e=>kk b o #[1] e) f0 f1 f3 f4 f5;refine#[_,rfl,mZ Gn rfl rfl (rfl) #[.int _,H,I1,#[t,?_],#[rfl,rfl],Gn,λb hb=>(hf b hb).1]];rw[Int.mul_one]
 done:=by intro X hP hw hK hc i pins s U H E I hf st hg;obtain⟨f0,f1,f2,f3,f4,f5⟩:=hf it #[0];exact wpAny_pyNext_range_end (I.ok.hd hc) st (by have:n<=i:=hg;omega) λh' eb=>#[rfl,I.turned (λb o hb e=>eb b o hb e) f0 f1 f3 f4 f5]
 self:=λ_ _ _ _ _ st h=>wpAny_pyIter_rangeiter st h
def Rr(K:aaf)(tl:TE):TI:=λU H R=>tl U H λx H1=>∃a,x=.ref a/\(∃xs,CN K H1 a xs)/\R (ON K a) H1
def wZ{l:Expr}{tl:TE}(hl:PE X l tl):PI X tg l (Rr X.K tl):=by
 intro pins s U H R I h;refine BZ (hl pins s U H _ I h) λv s1 #[x,H1,I1,r1,q1]=>?_;obtain⟨a,e,⟨xs,hq⟩,q⟩:=q1;subst e;cases r1;obtain⟨gE,rv,p,hz⟩:=I1.list hq;refine acH p.isList ?_;refine#[s1.heap.objs.size,[s1.heap.objs.size],_,_,H1,rfl,I1.kept (t':=s1.toks) λb o e=>aad _ e,lU a _,#[_,aag _ rfl,rfl,rfl],λb hb=>?_,q];have e:b=s1.heap.objs.size:=by simpa using hb
 subst e;exact I1.HH (aaj _) (I1.Bv.fresh (aaj _))
theorem uS{R:It->Hp->Prop}{lo hi:Int}{t u v:Tok}{tk:Nat}(I:Inv X pins U H s)(h1 : -(2 ^ 62)<=lo)(h2:lo<2 ^ 62)(h3 : -(2 ^ 62)<=hi)(h4:hi<2 ^ 62)
  (q:R (Tw lo (hi - lo).toNat) H):wpAny (model X.prog X.w) X.A (pyIter (.ref s.heap.objs.size)) (Xx X pins U tg R) E {s with heap:=s.heap.push {cls:=.type "range",data:=.fields #v[.int lo t,.int hi u,.int 1 v]},toks:=tk}:=by
 refine wpAny_pyIter_range (IsRange.new ..) (small_one h1 h2 h3 h4) ?_;have I1:Inv X pins U H {s with heap:=s.heap.push {cls:=.type "range",data:=.fields #v[.int lo t,.int hi u,.int 1 v]},toks:=tk}:=I.kept λb o e=>aad _ e;refine#[(s.heap.push {cls:=.type "range",data:=.fields #v[.int lo t,.int hi u,.int 1 v]}).objs.size,[(s.heap.push {cls:=.type "range",data:=.fields #v[.int lo t,.int hi u,.int 1 v]}).objs.size],_,_,H,rfl,
  I1.kept (t':=tk) λb o e=>aad _ e,qH _ lo (hi - lo).toNat,?_,λb hb=>?_,q]
 .have e1:lo+((0:Nat):Int)*1=lo:=by simp
  have e2:(((hi - lo).toNat:Nat):Int) - ((0:Nat):Int)=Builtin.Range.rangeSize lo hi 1:=by rw[rangeSize_one];split<;>omega
  show IsRangeIter _ _ (lo+((0:Nat):Int)*1) ((((hi - lo).toNat:Nat):Int) - ((0:Nat):Int)) 1;rw[e1,e2];exact aag _ rfl
 .have e:b=(s.heap.push {cls:=.type "range",data:=.fields #v[.int lo t,.int hi u,.int 1 v]}).objs.size:=by simpa using hb
  subst e;exact I1.HH (aaj _) (I1.Bv.fresh (aaj _))
def Rq(ta:TA):TI:=λU H R=>ta U H λvs H1=>∃j:Int,vs=[.int j] /\ -(2 ^ 62)<=j/\j<2 ^ 62/\R (Tw 0 j.toNat) H1
variable{p:Pos}
theorem sC{a:Expr}{ta:TA}(hg:Gl X "range")(hm:X.mg "range" = none)(ha:PA X [a] ta)(hs:autoParam (aai [a] X.env=[(false,eval a X.env)]) oR):PI X tg (.Call (.Name "range" p) [a] [] pos) (Rq ta):=by
 intro pins s U H R I h;refine Call_ (bV I hg hm boot_range (acE (BZ (ha pos pins s U H _ I h) λus s1 #[vs,H1,I1,r1,q1]=>?_) hs rfl));obtain⟨j,e,q1,q2,q⟩:=q1;subst e;cases r1 with
 |cons r rr=>cases rr;obtain⟨t,rfl⟩:=r;exact call_range_1 (uS I1 #[] #[] q1 q2 #[1])
def TQ(wi:TI)(g:TG)(tb:TS):TS:=λD U H=>wi U H λJ H1=>∃W:Nat->Nat->St->Hp->Prop,(∃m,W 0 m U H1)/\∀i m U H,W i m U H ->
 (J.stop i H/\D.nx U H)\/(J.go i H/\∃N:St->Hp->Prop,(∀sa H',N sa H'->∃m',m'<m/\W (i+1) m' sa H')/\∀x H',J.yld i H x H'->g x U H' λsl H2=>tb {D with nx:=N,ct:=N,bk:=D.nx} sl H2)
noncomputable def C5(fp:Aaj)(h:Heap):Aac:=fp.filterMap λb=>(h.get? b).map λo=>(b,o)
variable{fp:Aaj}
def aM{b:Addr}{o:Obj}(hb:b∈fp)(e:h.get? b=some o):(b,o)∈C5 fp h:=List.mem_filterMap.mpr #[b,hb,by rw[e];rfl]
def tu{p:Addr×Obj}(hp:p∈C5 fp h):p.1∈fp/\h.get? p.1=some p.2:=by
 obtain⟨b,hb,e⟩:=List.mem_filterMap.mp hp;cases q:h.get? b with
 |none=>rw[q]at e;cases e
 |some o=>rw[q]at e;have e'  := aar e;subst e';exact#[hb,q]
def Inv.pinned(I:Inv X pins U H s)(hf:∀b∈fp,Dz X pins H b)(ho:∀b∈fp,∃o,s.heap.get? b=some o/\∀v,o.data≠.cell v):Inv X (pins++C5 fp s.heap) U H s :=
 I.Jd λp hp=>(List.mem_append.mp hp).elim (λz=>I.pin p (aak _ z)) λz=>by obtain⟨hb,e⟩:=tu z;obtain⟨f0,f1,f2,_⟩:=hf p.1 hb;obtain⟨o,e',d⟩:=ho p.1 hb;rw[e]at e';cases e';exact#[e,f0,f1,f2,d]
def Inv.CU{pl:Aac}(I:Inv X (pins++pl) U H s):Inv X pins U H s:=I.Jd λp hp=>I.pin p (aak _ (aaH _ hp))
def sx{iter:Expr}{wi:TI}{g:TG}{tb:TS}(hp:PassesOwn (model X.prog X.w) X.A X.env X.xe)(hc:X.calm=true)(hi:PI X tg iter wi)(hg:PG X tg g)(hb:IT X body tb)
  (hs:autoParam (∀x,aaC iter X.env x=pure x) At):PS X (.For tg iter body [] pos) (TQ wi g tb):=by
 intro pins s U H D I h;refine wpAny_For (BZ (hi pins s U H _ I h) λv s1 h1=>BZ h1 λO0 s2 h2=>?_) hs;obtain⟨it,fp,tn,J,H2,e,I2,T,Lh,f2,W,⟨m0,w0⟩,turn⟩:=h2;subst e;have Nu:∀{H':Hp},(∀b∈fp,H' b=none)->∀b∈fp,Dz X pins H' b:=λhn b hb=>#[hn b hb,(f2 b hb).2]
 refine codeAny_forLoop_any (λn s'=>∃i sa H',Inv X pins sa H' s'/\tn i s'.heap/\(∀b∈fp,H' b=none)/\W i n sa H') ?_ m0 #[0,U,H2,I2,Lh,λb hb=>(f2 b hb).1,w0];rintro n s3 ⟨i,sm,H3,I3,Wa,Xk,w3⟩;rcases turn i n sm H3 w3 with ⟨stop,qn⟩|⟨go,N,hN,step⟩
 .refine acC hp (BZ (T.done X rfl rfl rfl hc i pins s3 sm H3 X.xe I3 (Nu Xk) Wa stop) λr s4 #[hr,I4]=>?_);subst hr;exact ad5 #[sm,H3,I4,qn]
 .refine acC hp (BZ (T.item X rfl rfl rfl hc i pins s3 sm H3 X.xe I3 (Nu Xk) Wa go) λr s4 #[u,hr,h4]=>?_);subst hr;refine acC hp (BZ h4 λ_ s5 #[x,H5,I5,r5,y5,JO,LA]=>?_);have I5':=I5.pinned (Nu LA) (T.obj _ _ JO);refine acC hp (BZ (hg _ s5 sm H5 x u _ I5' r5 (step x H5 y5)) λ_ s6 #[sz,H6,I6,q6]=>?_);refine acC hp (BZ (hb _ s6 sz H6 _ I6 q6) λf s7 q7=>?_);have again:∀{sq:St} {H7:Hp},Inv X (pins++C5 fp s5.heap) sq H7 s7->N sq H7->∃m,m<n/\∃i sa H',Inv X pins sa H' s7/\tn i s7.heap/\(∀b∈fp,H' b=none)/\W i m sa H':=λ{sq H7} I7 n7=>by obtain⟨m',hm,w7⟩:=hN sq H7 n7;refine#[m',hm,i+1,sq,H7,I7.CU,T.keep _ _ _ JO λb hb o e=>(I7.pin (b,o) (aak _ (aak _ (aM hb e)))).1,λb hb=>?_,w7];obtain⟨o,e,d⟩:=T.obj _ _ JO b hb;exact(I7.pin (b,o) (aak _ (aak _ (aM hb e)))).2.1
  cases f with
  |next=>obtain⟨sq,H7,I7,n7⟩:=q7;exact again I7 n7
  |cont=>obtain⟨sq,H7,I7,n7⟩:=q7;exact again I7 n7
  |brk=>obtain⟨sq,H7,I7,q7⟩:=q7;exact#[sq,H7,I7.CU,q7]
  |ret v=>obtain⟨x7,sq,H7,I7,r7,q7⟩:=q7;exact#[x7,sq,H7,I7.CU,r7,q7]
theorem vJ{g:TG}{tb:TS}{D:Ends}(Pv:Nat->St->Hp->Prop)(h0:Pv 0 U H)(hl:∀i U H,i<=xs.length->Pv i U H->CN K H a xs)
  (hs:∀i x U H,xs[i]?=some x->Pv i U H->g x U H λsl H2=>tb {D with nx:=Pv (i+1),ct:=Pv (i+1),bk:=D.nx} sl H2) (hd:∀U H,Pv xs.length U H->D.nx U H) :
  ∃W:Nat->Nat->St->Hp->Prop,(∃m,W 0 m U H)/\∀i m U H,W i m U H ->
   ((ON K a).stop i H/\D.nx U H)\/((ON K a).go i H/\∃N:St->Hp->Prop,(∀sa H',N sa H'->∃m',m'<m/\W (i+1) m' sa H')/\∀x H',(ON K a).yld i H x H'->g x U H' λsl H2=>tb {D with nx:=N,ct:=N,bk:=D.nx} sl H2):=by
 refine#[λi m U H=>m=xs.length - i/\i<=xs.length/\Pv i U H,#[xs.length,#[0],aba _,h0],?_];rintro i m U H ⟨rfl,hi,p⟩;have q:=hl i U H hi p;by_cases Cn:i<xs.length
 .refine .inr #[#[xs,xs[i],q,#[1]],_,λsa H' p'=>#[_,#[],rfl,Cn,p'],λx H' y=>?_];obtain⟨e,y⟩:=y;subst e;exact hs i x U _ (y xs q) p
 .have e:i=xs.length:=by omega
  subst e;exact .inl #[#[xs,q,aaj _],hd U H p]
abbrev R2:=V->V->Hp->VK->Prop
def Co(X:Cx)(f:Value->Value->Sem Value)(r:R2):Prop :=
 ∀(pins:Aac) (s:Shared) (U:St) (H:Hp) (x y:V) (v u:Value) (Q:VK),Inv X pins U H s->RelV x v->RelV y u->r x y H Q ->
  wpAny (model X.prog X.w) X.A (f v u) (EP X pins U Q) X.xe s
def BM(X:Cx)(f:Value)(r:Aai->Hp->VK->Prop):Prop :=
 ∀(pins:Aac) (s:Shared) (U:St) (H:Hp) (xs:Aai) (us:Aae) (Q:VK),Inv X pins U H s->AS xs us->r xs H Q ->
  wpAny (model X.prog X.w) X.A (call f us) (EP X pins U Q) X.xe s
def VG(X:Cx)(r:V->Hp->(Bool->Hp->Prop)->Prop):Prop :=
 ∀(pins:Aac) (s:Shared) (U:St) (H:Hp) (x:V) (v:Value) (Q:Bool->Hp->Prop),Inv X pins U H s->RelV x v->r x H Q ->
  wpAny (model X.prog X.w) X.A (truthy v) (TP X pins U Q) X.xe s
def Fx(r:R2)(ta tb:TE):TE:=λU H Q=>ta U H λx H1=>tb U H1 λy H2=>r x y H2 Q
def rI(C:Int->Int->Prop)(g:Int->Int->V):R2:=λx y H Q=>∃i j,x=.int i/\y=.int j/\C i j/\Q (g i j) H
def G6(g:Int->Int->V):R2:=λx y H Q=>∃i j,x=.int i/\y=.int j/\Q (g i j) H
variable{a:Expr}{tc:TE}
def OI(ha:PE X a ta)(hb:PE X b tb){R:V->V->Hp->Prop}(I:Inv X pins U H s)
  (h:ta U H λx H1=>tb U H1 λy H2=>R x y H2) {Q:Aab} {f:Value->Value->Sem Value}
  (hf:∀v u s2 x y H2,Inv X pins U H2 s2->RelV x v->RelV y u->R x y H2->wpAny (model X.prog X.w) X.A (f v u) Q X.xe s2) :
  wpAny (model X.prog X.w) X.A (eval a X.env) (λv sc=>wpAny (model X.prog X.w) X.A (eval b X.env) (λu st=>wpAny (model X.prog X.w) X.A (f v u) Q X.xe st) X.xe sc) X.xe s:=by
 refine BZ (ha pins s U H _ I h) λv s1 #[x,H1,I1,r1,q1]=>?_;refine BZ (hb pins s1 U H1 _ I1 q1) λu s2 #[y,H2,I2,r2,q2]=>?_;exact hf v u s2 x y H2 I2 r1 r2 q2
variable{r:R2}
def aE{op:Operator}(ho:Co X (acg op) r)(ha:PE X a ta)(hb:PE X b tb):PE X (.BinOp a op b pos) (Fx r ta tb):=by intro pins s U H Q I h;exact wpAny_BinOp (OI ha hb I h λv u s2 x y H2 I2 rx ry q=>ho pins s2 U H2 x y v u Q I2 rx ry q)
variable{f:Value->Value->Sem Value}
def SK{C:Int->Int->Prop}{g:Int->Int->Int}
  (rule:∀(i j:Int) (t u:Tok) (s:Shared) (Q:Aab) (E:Aab),C i j->Q (.int (g i j) s.toks) {s with toks:=s.toks+1}->wpAny (model X.prog X.w) X.A (f (.int i t) (.int j u)) Q E s) :
  Co X f (rI C λi j=>.int (g i j)):=by
 intro pins s U H x y v u Q I rx ry h;obtain⟨i,j,rfl,rfl,hc,q⟩:=h;obtain⟨t,rfl⟩:=rx;obtain⟨t',rfl⟩:=ry;exact rule i j t t' s _ _ hc #[.int _,H,I.tok _,#[_,rfl],q]
def QS{g:Int->Int->Int}
  (rule:∀(i j:Int) (t u:Tok) (s:Shared) (Q:Aab) (E:Aab),Q (.int (g i j) s.toks) {s with toks:=s.toks+1}->wpAny (model X.prog X.w) X.A (f (.int i t) (.int j u)) Q E s) :
  Co X f (G6 λi j=>.int (g i j)):=by
 intro pins s U H x y v u Q I rx ry h;obtain⟨i,j,rfl,rfl,q⟩:=h;obtain⟨t,rfl⟩:=rx;obtain⟨t',rfl⟩:=ry;exact rule i j t t' s _ _ #[.int _,H,I.tok _,#[_,rfl],q]
def LJ{g:Int->Int->Bool}
  (rule:∀(i j:Int) (t u:Tok) (s:Shared) (Q:Aab) (E:Aab),Q (.bool (g i j)) s->wpAny (model X.prog X.w) X.A (f (.int i t) (.int j u)) Q E s) :
  Co X f (G6 λi j=>.bl (g i j)):=by
 intro pins s U H x y v u Q I rx ry h;obtain⟨i,j,rfl,rfl,q⟩:=h;obtain⟨t,rfl⟩:=rx;obtain⟨t',rfl⟩:=ry;exact rule i j t t' s _ _ #[.bl _,H,I,rfl,q]
def OS(i j:Int):Prop:=0<j/\j<1073741824
def VT(i j:Int):Prop:=0<=j/\j<=1000000/\i.natAbs<2 ^ 64
def HV(i j:Int):Prop:=(-(2 ^ 64)<i/\i<2 ^ 64)\/(-(2 ^ 64)<j/\j<2 ^ 64)
def HV.ok{i j:Int}(h:HV i j):IntMulOk i j:=by
 rcases h with ⟨h1,h2⟩|⟨h1,h2⟩
 .exact .of_left (intBits_le_64 h1 h2)
 .exact .of_right (intBits_le_64 h1 h2)
def dy:Co X (acg .Add) (G6 λi j=>.int (i+j)):=QS λ_ _ _ _ _ _ _ q=>add_int q
def zj:Co X (acg .Sub) (G6 λi j=>.int (i - j)):=QS λ_ _ _ _ _ _ _ q=>sub_int q
def cB:Co X (acg .Mult) (rI HV λi j=>.int (i*j)):=SK λ_ _ _ _ _ _ _ hc q=>mul_int q hc.ok
theorem lu:Co X (acg .FloorDiv) (rI OS λi j=>.int (i / j)):=SK λi j _ _ _ _ _ hc q=>by have h1  := hc.1;have h2  := hc.2;exact floordiv_int #[] (by rw[Int.fdiv_eq_ediv_of_nonneg i #[]];exact q) (.inl (PyProof.noPylong_small #[]))
theorem cC:Co X (acg .Mod) (rI (λ_ j=>0<j) λi j=>.int (i % j)):=SK λi j _ _ _ _ _ hc q=>by exact mod_int' #[] (by rw[Int.fmod_eq_emod_of_nonneg i #[]];exact q)
def sU:Co X (acg .Pow) (rI VT λi j=>.int (i ^ j.toNat)):=SK λ_ _ _ _ _ _ _ hc q=>pow_int_small hc.1 hc.2.1 hc.2.2 q
noncomputable def LG:V->V->Bool
 |.Bw,.Bw=>true|.Bw,.int _=>true|.int _,.Bw=>true|.Bw,.bl _=>true|.bl _,.Bw=>true|.Bw,.str _=>true|.str _,.Bw=>true
 |.int _,.int _=>true|.bl _,.bl _=>true|.str _,.str _=>true|.JK _,.JK _=>true
 |.int _,.str _=>true|.str _,.int _=>true|.bl _,.str _=>true|.str _,.bl _=>true
 |_,_=>false
def X3:R2:=λx y H Q=>LG x y=true/\Q (.bl (decide (x=y))) H
def Ua:R2:=λx y H Q=>LG x y=true/\Q (.bl (!decide (x=y))) H
def qu{i j:Int}:decide (V.int i=V.int j)=(i==j):=by rw[aa0];simp
def uj{i j:Bool}:decide (V.bl i=V.bl j)=(i==j):=by rw[aa0];simp
def qt{i j:Str}:decide (V.str i=V.str j)=(i==j):=by rw[aa0];simp
def qv{i j:Array UInt8}:decide (V.JK i=V.JK j)=(i.toList==j.toList):=by rw[aa0];cases i;cases j;simp
def aw{Q:VK}{k k':Bool}(I:Inv X pins U H s)(q:Q (.bl k) H)(e:k=k'):EP X pins U Q (.bool k') s:=by subst e;exact#[.bl k,H,I,rfl,q]
def A9:Co X (aa4 .Eq) X3:=by
 intro pins s U H x y v u Q I rx ry h;obtain⟨hs,q⟩:=h;cases x with
 |Bw=>
  cases rx;cases y with
  |Bw=>cases ry;exact PySem.EqNone.eq_none_none (aw I q #[0])
  |bl j=>cases ry;exact PySem.EqNone.eq_none_bool (aw I q #[0])
  |int j=>obtain⟨t',rfl⟩:=ry;exact PySem.EqNone.eq_none_int (aw I q #[0])
  |str j=>obtain⟨t',rfl⟩:=ry;exact PySem.EqNone.eq_none_str (aw I q #[0])
  |_=>exact absurd (show false=true from hs) aaF
 |bl i=>
  cases rx;cases y with
  |Bw=>cases ry;exact PySem.EqNone.eq_bool_none (aw I q #[0])
  |bl j=>cases ry;exact eq_bool (aw I q uj)
  |str j=>obtain⟨t',rfl⟩:=ry;exact PySem.EqMixed.eq_bool_str (aw I q #[0])
  |_=>exact absurd (show false=true from hs) aaF
 |int i=>
  obtain⟨t,rfl⟩:=rx;cases y with
  |Bw=>cases ry;exact PySem.EqNone.eq_int_none (aw I q #[0])
  |int j=>obtain⟨t',rfl⟩:=ry;exact eq_int (aw I q qu)
  |str j=>obtain⟨t',rfl⟩:=ry;exact PySem.EqMixed.eq_int_str (aw I q #[0])
  |_=>exact absurd (show false=true from hs) aaF
 |str i=>
  obtain⟨t,rfl⟩:=rx;cases y with
  |Bw=>cases ry;exact PySem.EqNone.eq_str_none (aw I q #[0])
  |bl j=>cases ry;exact PySem.EqMixed.eq_str_bool (aw I q #[0])
  |int j=>obtain⟨t',rfl⟩:=ry;exact PySem.EqMixed.eq_str_int (aw I q #[0])
  |str j=>obtain⟨t',rfl⟩:=ry;exact eq_str (aw I q qt)
  |_=>exact absurd (show false=true from hs) aaF
 |JK i=>
  obtain⟨t,rfl⟩:=rx;cases y with
  |JK j=>obtain⟨t',rfl⟩:=ry;exact PySem.W.eq_bytes (aw I q qv)
  |_=>exact absurd (show false=true from hs) aaF
 |_=>cases y<;>exact absurd (show false=true from hs) aaF
def A4:Co X (aa4 .NotEq) Ua:=by
 intro pins s U H x y v u Q I rx ry h;obtain⟨hs,q⟩:=h;cases x with
 |Bw=>
  cases rx;cases y with
  |Bw=>cases ry;exact PySem.EqNone.ne_none_none (aw I q #[0])
  |bl j=>cases ry;exact PySem.EqNone.ne_none_bool (aw I q #[0])
  |int j=>obtain⟨t',rfl⟩:=ry;exact PySem.EqNone.ne_none_int (aw I q #[0])
  |str j=>obtain⟨t',rfl⟩:=ry;exact PySem.EqNone.ne_none_str (aw I q #[0])
  |_=>exact absurd (show false=true from hs) aaF
 |bl i=>
  cases rx;cases y with
  |Bw=>cases ry;exact PySem.EqNone.ne_bool_none (aw I q #[0])
  |bl j=>cases ry;exact ne_bool (aw I q (congrArg not uj))
  |str j=>obtain⟨t',rfl⟩:=ry;exact PySem.EqMixed.ne_bool_str (aw I q #[0])
  |_=>exact absurd (show false=true from hs) aaF
 |int i=>
  obtain⟨t,rfl⟩:=rx;cases y with
  |Bw=>cases ry;exact PySem.EqNone.ne_int_none (aw I q #[0])
  |int j=>obtain⟨t',rfl⟩:=ry;exact ne_int (aw I q (congrArg not qu))
  |str j=>obtain⟨t',rfl⟩:=ry;exact PySem.EqMixed.ne_int_str (aw I q #[0])
  |_=>exact absurd (show false=true from hs) aaF
 |str i=>
  obtain⟨t,rfl⟩:=rx;cases y with
  |Bw=>cases ry;exact PySem.EqNone.ne_str_none (aw I q #[0])
  |bl j=>cases ry;exact PySem.EqMixed.ne_str_bool (aw I q #[0])
  |int j=>obtain⟨t',rfl⟩:=ry;exact PySem.EqMixed.ne_str_int (aw I q #[0])
  |str j=>obtain⟨t',rfl⟩:=ry;exact ne_str (aw I q (congrArg not qt))
  |_=>exact absurd (show false=true from hs) aaF
 |JK i=>
  obtain⟨t,rfl⟩:=rx;cases y with
  |JK j=>obtain⟨t',rfl⟩:=ry;exact PySem.W.ne_bytes (aw I q (congrArg not qv))
  |_=>exact absurd (show false=true from hs) aaF
 |_=>cases y<;>exact absurd (show false=true from hs) aaF
def A6:Co X (aa4 .Lt) (G6 λi j=>.bl (decide (i<j))):=LJ λ_ _ _ _ _ _ _ q=>lt_int q
def A7:Co X (aa4 .LtE) (G6 λi j=>.bl (decide (i<=j))):=LJ λ_ _ _ _ _ _ _ q=>le_int q
def qX:Co X (aa4 .Gt) (G6 λi j=>.bl (decide (j<i))):=LJ λ_ _ _ _ _ _ _ q=>gt_int q
def A8:Co X (aa4 .GtE) (G6 λi j=>.bl (decide (j<=i))):=LJ λ_ _ _ _ _ _ _ q=>ge_int q
def sW:Co X (aa4 .Lt) (λx y H Q=>∃i j,x=.str i/\y=.str j/\Q (.bl (decide (i.cps.toList<j.cps.toList))) H):=by intro pins s U H x y v u Q I rx ry h;obtain⟨i,j,rfl,rfl,q⟩:=h;obtain⟨t,rfl⟩:=rx;obtain⟨t',rfl⟩:=ry;exact lt_str (aw I q rfl)
def sY:Co X (aa4 .In) (λx y H Q=>∃i j,x=.str i/\y=.str j/\Q (.bl (!(ac3 j i 0 j.length 1).isEmpty)) H):=by intro pins s U H x y v u Q I rx ry h;obtain⟨i,j,rfl,rfl,q⟩:=h;obtain⟨t,rfl⟩:=rx;obtain⟨t',rfl⟩:=ry;exact in_str (aw I q rfl)
variable{op:CmpOp}
def Cg(b:Expr)(h:autoParam (op≠.In) on)(h2:autoParam (op≠.NotIn) on):adi op b=false:=by
 have e1:(op==CmpOp.In)=false:=by simp_all
 have e2:(op==CmpOp.NotIn)=false:=by simp_all
 cases b<;>simp[adi,e1,e2]
def lp(ho:Co X (aa4 op) r)(ha:PE X a ta)(hb:PE X b tb)(hm:adi op b=false):PE X (.Compare a [op] [b] pos) (Fx r ta tb):=by intro pins s U H Q I h;exact wpAny_Compare1 (OI ha hb I h λv u s2 x y H2 I2 rx ry q=>ho pins s2 U H2 x y v u Q I2 rx ry q) hm
def IX(t:TE):TT:=λU H Q=>t U H λx H'=>∃k,x=.bl k/\Q k H'
def ii(ho:Co X (aa4 op) r)(ha:PE X a ta)(hb:PE X b tb)(hm:adi op b=false):PT X (.Compare a [op] [b] pos) (IX (Fx r ta tb)):=by
 intro pins s U H Q I h;refine wpAny_isTrue_Compare1 (BZ (ha pins s U H _ I h) λv s1 #[x,H1,I1,r1,q1]=>BZ (hb pins s1 U H1 _ I1 q1) λu s2 #[y,H2,I2,r2,q2]=>BZ (ho pins s2 U H2 x y v u _ I2 r1 r2 q2) λc s3 #[z,H3,I3,r3,k,e,q3]=>?_) hm
 subst e;cases r3;exact ab0 #[H3,I3,q3]
def Ie(r r':R2)(ta tb tc:TE):TE:=λU H Q=>ta U H λx H1=>tb U H1 λy H2=>r x y H2 λz H3=>∃k,z=.bl k /\
 (if k=true then tc U H3 λw' H4=>r' y w' H4 Q else Q (.bl false) H3)
variable{r':R2}
def u7{Ip:CmpOp}(ho:Co X (aa4 op) r)(EI:Co X (aa4 Ip) r')(ha:PE X a ta)(hb:PE X b tb)(hc:PE X c tc)
  (hm:autoParam (lastMarks [op,Ip] [b,c]=false) AT):PE X (.Compare a [op,Ip] [b,c] pos) (Ie r r' ta tb tc):=by
 intro pins s U H Q I h;refine Compare_chain (BZ (ha pins s U H _ I h) λv s1 #[x,H1,I1,r1,q1]=>chain_link (BZ (hb pins s1 U H1 _ I1 q1) λu s2 #[y,H2,I2,r2,q2]=>BZ (ho pins s2 U H2 x y v u _ I2 r1 r2 q2) λd s3 #[z,H3,I3,r3,k,e,q3]=>?_)) hm
 subst e;cases r3;refine ab0 ?_;cases k with
 |false=>exact ite_ff #[.bl false,H3,I3,rfl,q3]
 |true=>exact ite_tt (chain_last (BZ (hc pins s3 U H3 _ I3 q3) λw' s4 #[z',H4,I4,r4,q4]=>EI pins s4 U H4 y z' u w' Q I4 r2 r4 q4))
def uW{Ip:CmpOp}(ho:Co X (aa4 op) r)(EI:Co X (aa4 Ip) r')(ha:PE X a ta)(hb:PE X b tb)(hc:PE X c tc)
  (hm:autoParam (lastMarks [op,Ip] [b,c]=false) AT):PT X (.Compare a [op,Ip] [b,c] pos) (IX (Ie r r' ta tb tc)):=by
 intro pins s U H Q I h;refine isTrue_chain (BZ (ha pins s U H _ I h) λv s1 #[x,H1,I1,r1,q1]=>test_link (BZ (hb pins s1 U H1 _ I1 q1) λu s2 #[y,H2,I2,r2,q2]=>BZ (ho pins s2 U H2 x y v u _ I2 r1 r2 q2) λd s3 #[z,H3,I3,r3,k,e,q3]=>?_)) hm
 subst e;cases r3;refine ab0 ?_;cases k with
 |false=>obtain⟨k',e',q'⟩:=q3;cases e';exact ite_ff #[H3,I3,q']
 |true=>refine ite_tt (test_last (BZ (hc pins s3 U H3 _ I3 q3) λw' s4 #[z',H4,I4,r4,q4]=>BZ (EI pins s4 U H4 y z' u w' _ I4 r2 r4 q4) λd' s5 #[z2,H5,I5,r5,k2,e2,q5]=>?_));subst e2;cases r5;exact ab0 #[H5,I5,q5]
def Se(K:aaf)(x:V)(H:Hp)(k:Bool):Prop :=
 match x with
 |.Bw=>k=false
 |.bl b=>k=b
 |.int i=>k=(i != 0)
 |.str y=>y.length<=sizeLine/\k=((y.length:Int) != 0)
 |.JK y=>y.size<=sizeLine/\k=((y.size:Int) != 0)
 |.ref p=>(∃xs,CN K H p xs/\k=!xs.isEmpty)\/(∃xs,C3 K H p xs/\k=!xs.isEmpty)\/∃eQ,H p=some (.dK eQ)/\k=!eQ.isEmpty
 |_=>False
def rn{O:Type}{eQ:List (O×V)}{vs:List (O×Value)}(r:KV eQ vs):(!vs.isEmpty)=!eQ.isEmpty:=by cases r<;>rfl
variable{gE:Aae}
def j9(r:AS xs gE):(!gE.toArray.isEmpty)=!xs.isEmpty:=by cases r<;>simp
def Em:(sizeLine:Nat)<2 ^ 63:=by rw[aaJ];decide
theorem yT:VG X (λx H Q=>∃k,Se X.K x H k/\Q k H):=by
 intro pins s U H x v Q I rx h;obtain⟨k,e,q⟩:=h;have hl:=Em;have hs:sizeLine=16777216:=aaJ;cases x with
 |Bw=>cases rx;have e':k=false:=e;subst e';exact truthy_none #[H,I,q]
 |bl b=>cases rx;have e':k=b:=e;subst e';exact ab0 #[H,I,q]
 |int i=>obtain⟨t,rfl⟩:=rx;have e':k=(i != 0):=e;subst e';exact PySem.P.truthy_int #[H,I,q]
 |str y=>obtain⟨t,rfl⟩:=rx;obtain⟨hy,e'⟩:y.length<=sizeLine/\k=((y.length:Int) != 0):=e;subst e';exact PySem.P.truthy_str #[] #[H,I.tok _,q]
 |JK y=>obtain⟨t,rfl⟩:=rx;obtain⟨hy,e'⟩:y.size<=sizeLine/\k=((y.size:Int) != 0):=e;subst e';exact PySem.W.truthy_bytes #[] #[H,I.tok _,q]
 |ref p=>
  cases rx;have e'  := e;rcases e' with ⟨xs,hx,e'⟩|⟨xs,hx,e'⟩|⟨eQ,hx,e'⟩
  .subst e';obtain⟨gE,r,pl,hz⟩:=I.list hx;have hlen:=r.length;exact wpAny_truthy_list pl.isList (by simp only[aap];omega) #[H,I.tok _,by rw[j9 r];exact q]
  .subst e';obtain⟨gE,r,pl,hz⟩:=I.tuple hx;have hlen:=r.length;exact truthy_tuple pl (by simp only[aap];omega) #[H,I.tok _,by rw[j9 r];exact q]
  .subst e';obtain⟨hz,hS,vs,r,m⟩:eQ.length<=sizeLine/\(p==acJ)=false/\∃vs,KV eQ vs/\s.heap.DictOf (ay X.prog X.w) p vs:=I.Bv p _ hx;have hlen:eQ.length=vs.length:=aeA r;exact wpAny_truthy_dict hS m #[] #[H,I.tok _,by rw[rn r];exact q]
 |_=>exact(show False from e).elim
def uV(ha:PE X a ta)(he:∀whole,isTrue a X.env whole=(do let v <- whole;aff a.pos;adp [v] (truthy v))):
  PT X a (λU H Q=>ta U H λx H'=>∃k,Se X.K x H' k/\Q k H'):=by
 intro pins s U H Q I h;exact isTrue_plain (BZ (ha pins s U H _ I h) λv s1 #[x,H1,I1,r1,q1]=>yT pins s1 U H1 x v Q I1 r1 q1) (he _)
def qY:Co X (acg .Add) (λx y H Q=>∃i j,x=.str i/\y=.str j/\i.length+j.length<=sizeLine/\Q (.str (i++j)) H):=by intro pins s U H x y v u Q I rx ry h;obtain⟨i,j,rfl,rfl,hz,q⟩:=h;obtain⟨t,rfl⟩:=rx;obtain⟨t',rfl⟩:=ry;exact add_str (λt' tk=>#[.str _,H,I.tok _,#[_,rfl],q]) hz
def vals1{x:V}(r:AS [x] us):∃u,us=[u]/\RelV x u:=by
 cases r with
 |cons r1 r2=>cases r2;exact#[_,rfl,r1]
def oQ:BM X (.builtin "abs") (λxs H Q=>∃i,xs=[.int i]/\Q (.int (if i<0 then -i else i)) H):=by intro pins s U H xs us Q I r h;obtain⟨i,rfl,q⟩:=h;obtain⟨u,rfl,t,rfl⟩:=vals1 r;exact call_abs_int λu tk=>#[.int _,H,I.tok _,#[_,rfl],q]
structure OL(h:Heap)(x dx C:Addr)(mA:Aag):Prop where
 obj:h.get? x=some (afp C dx)
 ns:h.Ns1 dx mA
 ne:dx≠x
def tK{dx:Addr}{mA:Aag}(n:h.Ns1 dx mA):∃od,h.get? dx=some od/\∀name,afE name od=some (mA name):=by
 obtain⟨o,es,ep,ho,hd,hk,_,hm⟩:=n;refine#[o,ho,λname=>?_];have e:=hm name;unfold nsFind findBy at e;rw[<- Array.find?_toList]at e;unfold afE;rw[hd];dsimp only;split
 .rename_i y q;rw[q]at e;exact congrArg some e
 .rename_i q;rw[q]at e;have a:es.toList.any (·.refKey)=false:=by rw[List.any_eq_false];intro y hy;obtain⟨z,t,HD⟩:=hk y (Array.mem_toList_iff.mp hy);simp[DictEntry.refKey,HD]
  have a':¬ es.toList.any (·.refKey)=true:=by rw[a];exact aaF
  rw[if_neg a'];exact congrArg some e
variable{C:Addr}
def OL.look{dx:Addr}{mA:Aag}(I:OL h x dx C mA):∃od,PySem.W.InstAt h x (afp C dx) C (some od)/\∀name,afE name od=some (mA name) :=
 let #[od,ho,hl]:=tK I.ns
 #[od,#[I.obj,rfl,rfl,ho],hl]
variable{prog:aaD}{dx f:Addr}{mA:Aag}{name:Str}{v:Value}
def Fo.some_of{v:V}{o:Option Value}(r:Fo (some v) o):∃u,o=some u/\RelV v u:=by
 cases o with
 |none=>exact(r).elim
 |some u=>exact#[u,rfl,r]
section
variable{a:Addr}{fs ZF:List (Str×V)}
def xV(Bv:D4 P w H h)(e:H a=some (.ins C dx fs)):∃mA,OL h a dx C mA/\(∀f,Fo (fs.lookup f) (mA f))/\PySem.Within mA (fs.map (·.1))/\fs.length<=1000/\H dx=some (.own a):=by
 obtain⟨d,z,ne,ob,mA,n,r,q⟩:=(Bv a _ e)
 exact#[mA,#[ob,n,ne],r,q,z,d]
end
structure VS(K:aaf)(C:Addr):Prop where
 pg:PySem.W.plainGet K C Str.empty=true
 hd:PySem.W.hasDictIn K C=true
 po:PySem.W.plainOver K C=true
 sa:PySem.W.findIn K (.ref C) "__setattr__" = some (some (.builtin "object.__setattr__"))
def VS.get(c:VS K C)(f:Str):PySem.W.plainGet K C f=true:=c.pg
section
variable{a:Addr}{fs:List (Str×V)}{f:Str}{v:V}
end
variable{o value:Expr}{f:Str}{EL:Pos}{tv:TE}
variable{Q:Aab}{c:Value}{b:Bool}
inductive E5 (K:aaf) (H:Hp):V->Value->Prop where
 |Bw:E5 K H .Bw (.type "NoneType")
 |bl (x:Bool):E5 K H (.bl x) (.type "bool")
 |int (i:Int):E5 K H (.int i) (.type "int")
 |str (x:Str):E5 K H (.str x) (.type "str")
 |Pd (x:UInt64):E5 K H (.Pd x) (.type "float")
 |lst {a:Addr} {xs:Aai} (e:H a=some (.lst xs)):E5 K H (.ref a) (.type "list")
 |D1 {a:Addr} {o:Obj} {xs:Aai} (e:H a=some (.D1 o (.lst xs))):E5 K H (.ref a) (.type "list")
 |tup {a:Addr} {xs:Aai} (e:H a=some (.tup xs)):E5 K H (.ref a) (.type "tuple")
 |dK {a:Addr} {eQ:List (Key×V)} (e:H a=some (.dK eQ)):E5 K H (.ref a) (.type "dict")
 |dT {a:Addr} {eQ:List (Aau×V)} (e:H a=some (.dT eQ)):E5 K H (.ref a) (.type "dict")
 |ins {a C dx:Addr} {fs:List (Str×V)} (e:H a=some (.ins C dx fs)) (cl:VS K C) (ha:PySem.W.findIn K (.ref C) "__class__" = some (some (.builtin "object.__class__")))
   (hn:PySem.W.specialIn K (.builtin "object.__class__") "__get__" = some (some (.builtin "getset_descriptor.__get__"))) (O2:PySem.W.takesIn K (.builtin "object.__class__")=some true)
   (hm:PySem.W.mroIn K C (.type "object")=some true):E5 K H (.ref a) (.ref C)
def tU{x:V}{u t:Value}(I:Inv X pins U H s)(rx:RelV x u)(ty:E5 X.K H x t)(e:aek X.K t c=some b)(h:∀tk,Q (.bool b) {s with toks:=tk}):
  wpAny (model X.prog X.w) A (call (.builtin "isinstance") [u,c]) Q E s:=by
 cases ty with
 |Bw=>cases (rx);exact abH PySem.W.kitx_none I.G8 acu e (λz=>nomatch z) h
 |bl y=>cases (rx);exact abH PySem.W.kitx_bool I.G8 acu e (λz=>nomatch z) h
 |int i=>obtain⟨t,q⟩:=(rx);cases q;exact abH PySem.W.kitx_int I.G8 acu e (λz=>nomatch z) h
 |str y=>obtain⟨t,q⟩:=(rx);cases q;exact abH PySem.W.kitx_str I.G8 acu e (λz=>nomatch z) h
 |Pd y=>obtain⟨t,q⟩:=(rx);cases q;exact abH PySem.W.kitx_float I.G8 acu e (λz=>nomatch z) h
 |@lst a xs ea=>
  cases (rx);obtain⟨_,_,n,_,h1⟩:=(show BG X.prog X.w H s.heap a (.lst xs)from I.Bv a _ ea)
  exact abH PySem.W.kitx_list I.G8 #[_,h1,rfl] e (λz=>nomatch z) h
 |@D1 a ob xs ea=>
  cases (rx);obtain⟨_,_,_,n,_,h1⟩:=(show BG X.prog X.w H s.heap a (.D1 ob (.lst xs))from I.Bv a _ ea)
  exact abH PySem.W.kitx_list I.G8 #[_,h1,rfl] e (λz=>nomatch z) h
 |@tup a xs ea=>
  cases (rx);obtain⟨_,_,_,p⟩:=(show BG X.prog X.w H s.heap a (.tup xs)from I.Bv a _ ea)
  obtain⟨o,h1,h2,_⟩:=p;exact abH PySem.W.kitx_tuple I.G8 #[o,h1,h2] e (λz=>nomatch z) h
 |@dK a eQ ea=>
  cases (rx);obtain⟨_,_,vs,_,p⟩:=(show BG X.prog X.w H s.heap a (.dK eQ)from I.Bv a _ ea)
  obtain⟨o,es,ep,h1,h2,_⟩:=p;exact abH PySem.W.kitx_dict I.G8 #[o,h1,h2.1] e (λz=>nomatch z) h
 |@dT a eQ ea=>
  cases (rx);obtain⟨_,_,xs,_,o,es,ep,h1,h2,_⟩:=(show BG X.prog X.w H s.heap a (.dT eQ)from I.Bv a _ ea)
  exact abH PySem.W.kitx_dict I.G8 #[o,h1,h2.1] e (λz=>nomatch z) h
 |@ins a C dx fs ea cl ha hn O2 hm=>cases (rx);obtain⟨mA,O,_⟩:=xV I.Bv ea;obtain⟨od,J,_⟩:=O.look;exact abH (PySem.W.kitx_own (cl.get _) cl.hd ha hn O2 hm) I.G8 J e (λz=>nomatch z) h
structure BS(k:Nat)(A:Around):Prop where
 hd:A.handled=none
 dp:A.depth+3*k+5<recursionLimit
 un:A.units+16*k+200<cLine
 gd:A.guards=some []
theorem BS.mono(r:BS k A)(h:j<=k):BS j A:=#[r.hd,by have:=r.dp;omega,by have:=r.un;omega,r.gd]
theorem BS.deeper(r:BS (k+1) A)(env:Env):BS k (A.deeper env) :=
 #[r.hd,by have:=r.dp;show A.depth+1+3*k+5<_;omega,by have:=r.un;show A.units+3+16*k+200<_;omega,r.gd]
theorem BS.depth(r:BS k A):A.depth<recursionLimit:=by have:=r.dp;omega
theorem BS.Ni(r:BS k A):A.units<cLine:=by have:=r.un;omega
def LF:TA:=λ_ H Q=>Q [] H
def Mq(ta:TE)(tr:TA):TA:=λU H Q=>ta U H λx H1=>tr U H1 λxs H2=>Q (x::xs) H2
variable{es:Aak}{t:TA}
def aN:PA X [] LF:=λ_ _ _ _ H Q I h=>Calls.spliced_nil #[[],H,I,.nil,h]
def aD(ha:PE X e te)(hr:PA X es t)(hs:autoParam (aai (e::es) X.env=(false,eval e X.env)::aai es X.env) oR):PA X (e::es) (Mq te t):=by intro pos pins s U H Q I h;rw[hs];refine Calls.spliced_cons (BZ (ha pins s U H _ I h) λu s1 #[x,H1,I1,r1,q1]=>?_);exact BZ (hr pos pins s1 U H1 _ I1 q1) λus s2 #[xs,H2,I2,r2,q2]=>#[_,H2,I2,.cons r1 r2,q2]
def TL(t:TA):TE:=λU H Q=>t U H λxs H1=>xs.length<=sizeLine/\∀p,H1 p=none->Q (.ref p) (upd H1 p (.tup xs))
def Qm(t:TA):TE:=λU H Q=>t U H λxs H1=>xs.length<=sizeLine/\∀p,H1 p=none->Q (.ref p) (upd H1 p (.lst xs))
def zc{x1}(h:PA X es t):PE X (.Tuple es x1 pos) (TL t):=by intro pins s U H Q I hq;refine wpAny_Tuple_spliced (BZ (h pos pins s U H _ I hq) λus s1 #[xs,H1,I1,r,z,q]=>#[by rw[<- r.length];exact z,?_]);have hf  := I1.Bv.fresh (aaj _);refine#[.ref s1.heap.objs.size,_,I1.laid (λb u e=>aad _ e) (aaj _) ?_,rfl,q _ hf];exact#[z,us,r,#[_,aag _ rfl,rfl,_,rfl]]
def nU(h:PA X es t):PE X (.List es pos) (Qm t):=by intro pins s U H Q I hq;refine wpAny_List_spliced (BZ (h pos pins s U H _ I hq) λus s1 #[xs,H1,I1,r,z,q]=>#[by rw[<- r.length];exact z,?_]);have hf  := I1.Bv.fresh (aaj _);refine#[.ref s1.heap.objs.size,_,I1.laid (λb u e=>aad _ e) (aaj _) ?_,rfl,q _ hf];exact#[z,us,0,r,aag _ rfl]
abbrev Sp:=List V->Hp->VK->XK->Prop
abbrev Po:=List Env->Hp->Shared->XK->Value->Shared->Prop
structure Mk(P:aaD)(w:World)(K:aaf)(mg:Aag)(base:Heap)(A:Around)(outer:List Env)(s:Shared)(H:Hp):Prop where
 frames:A.frames=some outer
 mod:Mod K mg base
 bs:∀b o,base.get? b=some o->s.heap.get? b=some o/\H b=none
 MY:base.objs.size<=s.heap.objs.size
 FU:s.heap.FunFrames base outer
 Pc:∀b∈KH outer,H b=none
 Bv:D4 P w H s.heap
 bare:aep s.gens
def CE(outer:List Env)(P:aaD)(w:World)(H:Hp)(s:Shared)(Q:VK)(u:Value)(s':Shared):Prop :=
 ∃v H',s'.os=s.os/\aep s'.gens/\Un (KH outer) [] H H' s.heap s'.heap/\D4 P w H' s'.heap/\RelV v u/\Q v H'
def CR(CX:Po)(outer:List Env)(P:aaD)(w:World)(H:Hp)(s:Shared)(Q:VK)(E:XK)(r:Result)(s':Shared):Prop :=
 match r with
 |.ok (.ret u)=>CE outer P w H s Q u s'
 |.ok _=>False
 |.error e=>CX outer H s E e s'
structure BD(P:aaD)(w:World)(K:aaf)(mg:Aag)(base:Heap)(CX:Po)(k:Nat)(f:Addr)(fd:abM)(ps:Aaa)(sp:Sp):Prop where
 len:∀vs H Q E,sp vs H Q E->vs.length=ps.length
 run:∀(A:Around) (outer:List Env) (s:Shared) (H:Hp) (args:Args) (us:Aae) (vs:Aai) (Q:VK) (E:XK),BS k A->Mk P w K mg base A outer s H->BindsTo s fd args (ps.zip us)->AS vs us->sp vs H Q E ->
  acS (model P w) A (.call (.ref f) args) (CR CX outer P w H s Q E) s
variable{mg:Aag}{base:Heap}{CX:Po}{fd:abM}{ps:Aaa}{sp:Sp}
def BD.imp{f:Addr}{Wb:Sp}(F:BD P w K mg base CX k f fd ps sp)
  (h:∀vs H Q E,Wb vs H Q E->sp vs H Q E):BD P w K mg base CX k f fd ps Wb :=
 #[λvs H Q E q=>F.len vs H Q E (h _ _ _ _ q),λA outer s H args us vs Q E hr he hb hv hs=>F.run A outer s H args us vs Q E hr he hb hv (h _ _ _ _ hs)]
def Inv.Vs(I:Inv X pins U H s):Mk X.prog X.w X.K X.mg X.base X.A X.stack s H :=
 #[I.ok.frames,I.ok.mod,I.bs,aaX I.ok.MY I.sz,I.stack,I.I0,I.Bv,I.bare]
def Inv.after{Q:VK}{u:Value}(I:Inv X pins U H s)(h:CE X.stack X.prog X.w H s Q u s'):EP X pins U Q u s':=by obtain⟨v,H',os,bare,un,Bv,r,q⟩:=h;obtain⟨hh,g,d,t,Gs⟩:=s';obtain rfl:Gs=s.os:=os;exact#[v,H',I.call un Bv bare (λb z=>absurd z #[0]),r,q]
def Qt(sp:Sp)(Pe:Aai)(E:XK)(t:TA):TE:=λU H Q=>t U H λvs H1=>sp (vs++Pe) H1 Q E
def Binds(K:aaf)(fd:abM)(ps:Aaa)(ds:Aae):Prop :=
 ∀(s:Shared) (us:Aae),K.In s.heap->(us++ds).length=ps.length->BindsTo s fd #[us,[]] (ps.zip (us++ds))
def Binds.all(h:∀us:Aae,us.length=ps.length->ada fd #[us,[]]=pure (ps.zip us)):Binds K fd ps []:=λs us _ hl=>by rw[aa9]at hl ⊢;exact .of_eq (h us hl)
def IS(CX:Po)(X:Cx)(E:XK):Prop:=∀(pins:Aac) (U:St) (H:Hp) (s:Shared) (e:Value) (s':Shared),Inv X pins U H s->CX X.stack H s E e s'->X.xe e s'
variable{f:Addr}{Pe:Aai}{ds:Aae}{E:XK}{x m:Str}{apos:Pos}
variable{vs:Aai}
def yX{Q:VK}(F:BD X.prog X.w X.K X.mg X.base CX k f fd ps sp)(hr:BS k X.A)(hb:Binds X.K fd ps ds)(hd:AS Pe ds)(hx:IS CX X E)
  (I:Inv X pins U H s) (r:AS vs us) (h:sp (vs++Pe) H Q E):wpAny (model X.prog X.w) X.A (call (.ref f) us) (EP X pins U Q) X.xe s:=by
 have r2  := r.append hd;have hl:(us++ds).length=ps.length:=by rw[<- r2.length];exact F.len _ _ _ _ h
 refine wpAny_call (adB (F.run X.A X.stack s H #[us,[]] _ _ Q E hr I.Vs (hb s us I.G8 hl) r2 h) λr s' hq=>?_);cases r with
 |error e=>exact hx pins U H s e s' I hq
 |ok fl=>
  cases fl with
  |ret u=>exact I.after hq
  |next=>exact acW hq
  |brk=>exact acW hq
  |cont=>exact acW hq
def cW(F:BD X.prog X.w X.K X.mg X.base CX k f fd ps sp)(hr:BS k X.A)(hg:Gl X x)(hm:X.mg x=some (.ref f))(hk:abN X.K (.ref f)=true)(hb:Binds X.K fd ps ds)(hd:AS Pe ds)(hx:IS CX X E)
  (ha:PA X (e::es) t) (D7:autoParam ((x==("__debug__" : Str))=false) on) (he:autoParam (aai (e::es) X.env=(false,eval e X.env)::aai es X.env) oR) (CM:autoParam ((backTo pos (aai es X.env)).any (·.1)=false) oR) :
  PE X (.Call (.Name x p) (e::es) [] pos) (Qt sp Pe E t):=by
 intro pins s U H Q I h;refine acB (qf I hg hm ?_ D7);refine PySem.W.callWith_K I.ok.mod.kin hk (BZ (ha pos pins s U H _ I h) λus s1 #[vs,H1,I1,r,q]=>#[I1.G8,?_]) he CM;exact yX F hr hb hd hx I1 r q
def PK(X:Cx)(SS:List ade)(t:TA):Prop :=
 ∀(pos:Pos) (pins:Aac) (s:Shared) (U:St) (H:Hp) (Q:Aai->Hp->Prop),Inv X pins U H s->t U H Q->wpAny (model X.prog X.w) X.A (evalAll ((aew pos (ado SS X.env)).map (·.2))) (AP X pins U Q) X.xe s
variable{ks:Aaa}{DS:Pos}{SS:List ade}{tk:TA}{nm:Option Str}
def sB:PK X [] LF:=λ_ _ _ _ H Q I h=>wpAny_evalAll_nil #[[],H,I,.nil,h]
def lh(ha:PE X e te)(hr:PK X SS t):PK X (#[nm,e,DS]::SS) (Mq te t):=by intro pos pins s U H Q I h;refine wpAny_evalAll_cons (aaa (BZ (ha pins s U H _ I h) λu s1 #[x,H1,I1,r1,q1]=>aaa (abR (aae ?_))));exact BZ (hr pos pins s1 U H1 _ I1 q1) λus s2 #[xs,H2,I2,r2,q2]=>#[_,H2,I2,.cons r1 r2,q2]
variable{g:Aae->List Value->List Value}{gV:Aai->List V->List V}
structure ap(N P:Aaa)(sc:Scope):Prop where
 kind:sc.kind=.function
 co:sc.isCoroutine=false
 gen:sc.isGenerator=false
 nd:N.Nodup
 pre:N.take P.length=P
 par:∀x∈P,sc.names.lookup x=some .local\/sc.names.lookup x=some .cell
 Iq:∀y∈sc.names,y.2≠.free
variable{kindOf:Str->Option adD}
def mF:∀{binds:Aar} {m:Aag},(∀v,(x,v)∉binds)->bindL kindOf binds m x=m x
 |[],_,_=>rfl
 |(n,v)::r,m,h=>by
  unfold bindL;rw[mF λw hw=>h w (aam _ hw)];split
  .have:x≠n:=by rintro rfl;exact h v aan
   simp[this]
  .rfl
def mH:∀{binds:Aar} {m:Aag},(∀v,(x,v)∉binds)->bindC kindOf binds m x=m x
 |[],_,_=>rfl
 |(n,v)::r,m,h=>by
  unfold bindC;rw[mH λw hw=>h w (aam _ hw)];split
  .rfl
  .have:x≠n:=by rintro rfl;exact h v aan
   simp[this]
def mG:∀{P:Aaa} {vs:Aae} {i:Nat} {m:Aag},P.Nodup->P[i]?=some x->vs[i]?=some v->kindOf x=some .local ->
  bindL kindOf (P.zip vs) m x=some v
 |[],_,_,_,_,h,_,_=>by simp_all
 |_::_,[],_,_,_,_,h,_=>by simp_all
 |p::P,w::vs,0,m,nd,h1,h2,hk=>by simp at h1 h2;subst h1;subst h2;show bindL kindOf ((p,w)::P.zip vs) m p=_;unfold bindL;rw[mF λv hv=>(List.nodup_cons.mp nd).1 (adt hv).1,if_pos hk];simp
 |p::P,w::vs,i+1,m,nd,h1,h2,hk=>by unfold bindL;exact mG (i:=i) (List.nodup_cons.mp nd).2 #[1] #[1] hk
def mI:∀{P:Aaa} {vs:Aae} {i:Nat} {m:Aag},P.Nodup->P[i]?=some x->vs[i]?=some v->kindOf x≠some .local ->
  bindC kindOf (P.zip vs) m x=some v
 |[],_,_,_,_,h,_,_=>by simp_all
 |_::_,[],_,_,_,_,h,_=>by simp_all
 |p::P,w::vs,0,m,nd,h1,h2,hk=>by simp at h1 h2;subst h1;subst h2;show bindC kindOf ((p,w)::P.zip vs) m p=_;unfold bindC;rw[mH λv hv=>(List.nodup_cons.mp nd).1 (adt hv).1,if_neg hk];simp
 |p::P,w::vs,i+1,m,nd,h1,h2,hk=>by unfold bindC;exact mI (i:=i) (List.nodup_cons.mp nd).2 #[1] #[1] hk
noncomputable def start(N:Aaa)(vs:Aai):St:=vs.map some++aaO (N.length - vs.length) none
noncomputable def E3(CX:Po)(P:aaD)(w:World)(K:aaf)(mg:Aag)(base:Heap)(N:Aaa)(qual:Str)(scope:Scope)(f:Addr)(cd:Value)(A:Around)(outer:List Env)(s:Shared)(H:Hp)(E:XK):Cx where
 prog:=P
 w:=w
 K:=K
 mg:=mg
 base:=base
 A:=A.deeper (envOfC qual scope s.heap.objs.size f cd)
 N:=N
 s0:=s
 Ha:=H
 env:=envOfC qual scope s.heap.objs.size f cd
 outer:=outer
 stack:=envOfC qual scope s.heap.objs.size f cd::outer
 ex:=[]
 calm:=true
 fn:=λ_=>true
 pn:=[]
 xe:=λe s'=>wpAny (model P w) (A.deeper (envOfC qual scope s.heap.objs.size f cd)) (leaving (envOfC qual scope s.heap.objs.size f cd) e) (λ_ QA=>CX outer H s E e QA) (λe' QA=>CX outer H s E e' QA) s'
def oK{sc:Scope}(h:sc.names.lookup x=some .cell):∃c,(cellsFrom n sc.names []).lookup x=some c:=by have q:=PySem.W.cellsFrom_some sc.names n [] (.inl h);exact Option.isSome_iff_exists.mp q
variable{qual:Str}{scope:Scope}
theorem tV{cd:Value}{outer:List Env}{s1:Shared}
  (S:ap N ps scope) (hd:A.handled=none) (e0:Mk P w K mg base A outer s H) (hl:vs.length=ps.length) (r:AS vs us)
  (x:InCallC s s.heap.objs.size (bindL (envOfC qual scope s.heap.objs.size f cd).kindOf (ps.zip us) λ_=>none) (cellsFrom (s.heap.objs.size+1) scope.names []) (bindC (envOfC qual scope s.heap.objs.size f cd).kindOf (ps.zip us) λ_=>none) s1) :
  Inv (E3 CX P w K mg base N qual scope f cd A outer s H E) [] (start N vs) H s1:=by
 have CM  :=by have:=congrArg ac8 S.pre;rw[abj]at this;omega
 obtain⟨h1,tk,rfl,hk⟩:=x.done;have QV:∀b:Addr,b∉(E3 CX P w K mg base N qual scope f cd A outer s H E).ex:=λb z=>absurd (show b∈[]from z) #[0];refine#[#[e0.mod,S.kind,rfl,rfl,aaj _,λy z c h1 h2=>?_,λy hy=>?_,λy c _ h=>?_,λ_=>hd,Around.frames_deeper e0.frames,.inr #[rfl,rfl],λb z=>absurd z (QV b),e0.bs,e0.MY,λb _ _=>QV b,λb z=>absurd z (QV b),e0.FU,e0.Pc],
  rfl,e0.bare,Un.kept hk,#[_,x.toInCall.ns,λi y v h1 h2 h3=>?_],λy c h=>#[_,x.cell y c h],e0.Bv.fresh (aaj _),λy c h=>?_,λp hp=>absurd (show p∈[]from hp) #[0],e0.Bv.kept hk,?_]
 .exact name_of_addr x.apart (ab3 h1) (ab3 h2)
 .rcases hy with hy|hy
  .exact oK hy
  .exact absurd rfl (S.Iq _ (ab3 hy))
 .exact aeV (x.above y c (ab3 h))
 .have hi:i<vs.length:=by
   unfold start at h2;by_cases hi:i<vs.length
   .exact hi
   .rw[adz #[1]]at h2;rw[List.getElem?_replicate]at h2;split at h2<;>cases h2
  have ha:vs[i]?=some v:=by
   unfold start at h2;rw[aat #[1],aal]at h2;cases e:vs[i]? with
   |none=>rw[e]at h2;cases h2
   |some a=>rw[e]at h2;cases h2;rfl
  obtain⟨u,hu,rv⟩:=r.get ha;have hp:ps[i]?=some y:=by rw[<- S.pre,List.getElem?_take_of_lt #[]];exact h1
  have Wu:ps.Nodup:=by rw[<- S.pre];exact S.nd.sublist (aeN _ _)
  refine#[u,rv,?_];rcases S.par y (aaB hp)with k|k
  .exact .inl #[k,mG Wu hp hu k]
  .obtain⟨c,e⟩:=oK k;refine .inr #[.inl k,c,e,?_];have q:=x.cell y c e;rw[mI Wu hp hu (by show scope.names.lookup y≠_;rw[k];decide)]at q;exact q
 .exact e0.Bv.fresh (aeV (x.above y c (ab3 h)))
 .unfold start;show _=N.length;rw[aav,aac,abg];omega
variable{pm:Value}
def wC{params:Arguments}{dV kV doc BI ct oc:Value}{an od:Option Addr}
  {LI:Array (Option Value)} {N ps:Aaa} {sp:Sp} (lk:K.lookup f=some #[oc,od,.func (acV name qual params body scope dV kV doc pm an BI ct),LI]) (FT:ael K BI qual=true) (S:ap N ps scope)
  (len:∀vs H Q E,sp vs H Q E->vs.length=ps.length)
  (HE:∀(A:Around) (outer:List Env) (s:Shared) (H:Hp) (vs:Aai) (Q:VK) (E:XK),BS k (A.deeper (envOfC qual scope s.heap.objs.size f BI))->sp vs H Q E ->
   ∃t,IT (E3 CX P w K mg base N qual scope f BI A outer s H E) body t/\t {nx:=λ_ H'=>Q .Bw H',rt:=Q} (start N vs) H) :
  BD P w K mg base CX (k+1) f (acV name qual params body scope dV kV doc pm an BI ct) ps sp:=by
 refine#[len,λA outer s H args us vs Q E hr e0 hb r Ln=>?_];have hl:=len _ _ _ _ Ln;have KX:K.In s.heap:=e0.mod.kin.keeps λb o e=>(e0.bs b o e).1;have lim:s.heap.NoLimit:=e0.mod.nolimit.keeps λb o e=>(e0.bs b o e).1;have BA:∀y∈ps.zip us,scope.names.lookup y.1=some .local\/(scope.names.lookup y.1=some .cell/\((cellsFrom (s.heap.objs.size+1) scope.names []).lookup y.1).isSome=true):=λ#[n,v] hy=>by
  rcases S.par n (adt hy).1 with q|q
  .exact .inl q
  .exact .inr #[q,PySem.W.cellsFrom_some _ _ _ (.inl q)]
 refine codeAny_call_function hr.depth (KX _ _ lk) rfl S.co S.gen rfl (PySem.W.codeRec_of KX FT) (hb _ _ _ _ ?_);refine wpAny_newFunctionEnv_cells S.kind BA λenv he s1 x=>?_;subst he;refine#[lim.keeps x.toInCall.keep,codeAny_func ?_];obtain⟨t,ht,hq⟩:=HE A outer s H vs Q E (hr.deeper _) Ln;have I:Inv (E3 CX P w K mg base N qual scope f BI A outer s H E) [] (start N vs) H s1:=tV S hr.hd e0 hl r x;refine aay (ht [] s1 (start N vs) H _ I hq) (λfl s' hs=>?_) λe s' hs=>hs;have fin:∀{sa:St} {H':Hp} {v:V} {u:Value},Inv (E3 CX P w K mg base N qual scope f BI A outer s H E) [] sa H' s'->RelV v u->Q v H'->CE outer P w H s Q u s' :=
  λ{sa H' v u} J rv q=>#[v,H',J.os,J.bare,J.base,J.Bv,rv,q]
 cases fl with
 |ret u=>obtain⟨v,sa,H',J,rv,q⟩:=hs;exact fin J rv q
 |next=>obtain⟨sa,H',J,q⟩:=hs;exact fin (v:=V.Bw) (u:=abb) J rfl q
 |brk=>obtain⟨_,_,_,q⟩:=hs;exact acW q
 |cont=>obtain⟨_,_,_,q⟩:=hs;exact acW q
variable{id T:String}{r:Aai->Hp->VK->Prop}
def SE(r:Aai->Hp->VK->Prop)(t:TA):TE:=λU H Q=>t U H λvs H1=>r vs H1 Q
def bB(hc:BM X (.builtin id) r)(hg:Gl X x)(hm:X.mg x=none)(hv:acn x=some (.builtin id))(ha:PA X (e::es) t)(hn:autoParam (x ≠ "__name__") on)(D7:autoParam ((x==("__debug__" : Str))=false) on)
  (he:autoParam (aai (e::es) X.env=(false,eval e X.env)::aai es X.env) oR) (CM:autoParam ((backTo pos (aai es X.env)).any (·.1)=false) oR):PE X (.Call (.Name x p) (e::es) [] pos) (SE r t):=by
 intro pins s U H Q I h;refine acB (bV I hg hm hv ?_ hn D7);exact PyProof.Rows.callWith_builtin1 (BZ (ha pos pins s U H _ I h) λus s1 #[vs,H1,I1,r1,q1]=>hc pins s1 U H1 vs us Q I1 r1 q1) he CM
def dU(hc:BM X (.type T) r)(hg:Gl X x)(hm:X.mg x=none)(hv:acn x=some (.type T))(ha:PA X (e::es) t)(hn:autoParam (x ≠ "__name__") on)(D7:autoParam ((x==("__debug__" : Str))=false) on)
  (he:autoParam (aai (e::es) X.env=(false,eval e X.env)::aai es X.env) oR) (CM:autoParam ((backTo pos (aai es X.env)).any (·.1)=false) oR):PE X (.Call (.Name x p) (e::es) [] pos) (SE r t):=by
 intro pins s U H Q I h;refine acB (bV I hg hm hv ?_ hn D7);exact acE (BZ (ha pos pins s U H _ I h) λus s1 #[vs,H1,I1,r1,q1]=>hc pins s1 U H1 vs us Q I1 r1 q1) he CM
def qS(hc:BM X (.type T) r)(hg:Gl X x)(hm:X.mg x=none)(hv:acn x=some (.type T))(hn:autoParam (x ≠ "__name__") on)(D7:autoParam ((x==("__debug__" : Str))=false) on):
  PE X (.Call (.Name x p) [] [] pos) (SE r LF):=by
 intro pins s U H Q I h;refine acB (bV I hg hm hv ?_ hn D7);exact PyProof.Rows.callWith_type0 (hc pins s U H [] [] Q I .nil h)
end L2
namespace HT
open PySem PyProof.Rows
section
open PySem.SeqAt
open PySem.AutoSeq1 (wpAny_loadPart')
open PySem.MeetsSeq PySem.MeetsSeq2 PySem.MeetsSeq3
end
variable{prog:aaD}{w:World}{A:Around}{E:Aab}{s:Shared}
def Me{t b:Addr}{vs ws:Aae}{Q:Aab}(ht:IsTup s.heap t vs.toArray)(hb:IsTup s.heap b ws.toArray)(hv:vs≠[])
  (h1:ws=[]->Q (.ref t) s) (h2:ws≠[]->Q (.ref s.heap.objs.size) {s with heap:=s.heap.push {cls:=.type "tuple",data:=.seq (vs++ws).toArray}})
  (hsz:vs.length+ws.length<=sizeLine):wpAny (model prog w) A (acg .Add (.ref t) (.ref b)) Q E s:=by
 obtain⟨⟨cls,dd,data,sl⟩,ho,hc,n,hd⟩:=id ht;obtain⟨⟨VC,Pf,data2,OW⟩,Jh,O7,n2,hd2⟩:=id hb;subst hc hd O7 hd2;have e:vs.toArray++ws.toArray=(vs++ws).toArray:=by simp
 by_cases hw:ws=[]
 .exact concat_meets #[_,ho,rfl] #[_,Jh,rfl] ae1 seq_tuple_add ad3 adW (adN _ _)
   (tuple_addW1 t b vs.toArray ws.toArray n n2 dd Pf sl OW #[1] #[1]) #[ho,Jh,h1 hw]
 .refine concat_meets #[_,ho,rfl] #[_,Jh,rfl] ae1 seq_tuple_add ad3 adW (adN _ _)
   (tuple_addW2 t b vs.toArray ws.toArray n n2 dd Pf sl OW #[1] #[1] #[1]) #[ho,Jh,?_]
  rw[e];exact h2 hw
noncomputable def Cv(n d:Nat):Option Int->Nat
 |none=>d
 |some v=>if v<0 then (v+(n:Int)).toNat else min v.toNat n
def FD(n d:Nat):Cv n d none=d:=rfl
def G3(n d k:Nat):Cv n d (some (k:Int))=min k n:=rfl
theorem yW(n d:Nat)(hd:d<=n)(o:Option Int):Cv n d o<=n:=by
 cases o with
 |none=>exact hd
 |some v=>
  show (if v<0 then (v+n).toNat else min v.toNat n)<=n;by_cases hv:v<0
  .rw[if_pos hv];omega
  .rw[if_neg hv];exact Nat.min_le_right _ _
theorem qA(v:Int)(n d:Nat):(if v<0 then max (v+(n:Int)) 0 else min v (n:Int))=((Cv n d (some v):Nat):Int):=by
 show (if v<0 then max _ 0 else min v _)=(((if v<0 then (v+(n:Int)).toNat else min v.toNat n):Nat):Int)
 by_cases hv:v<0
 .simp only[if_pos hv];omega
 .simp only[if_neg hv];omega
theorem rQ(lo hi:Option Int)(n:Nat):afG lo hi 1 (n:Int)=(((Cv n 0 lo:Nat):Int),((Cv n n hi:Nat):Int)):=by
 have h1  :=by omega
 refine Prod.ext ?_ ?_
 .cases lo with
  |none=>rfl
  |some v=>exact qA v n 0
 .cases hi with
  |none=>rfl
  |some v=>exact qA v n n
theorem qR(i j:Nat):adK (i:Int) (j:Int) 1=j - i:=by
 unfold adK;have h1  :=by omega
 split<;>omega
def jX{v:Value}{o:Option Int}{Q:Option Int->Shared->Prop}(p:IsPart v o)(h:Q o s):wpAny (model prog w) A (Builtin.Slice.slicePartIndex v) Q E s:=by
 cases p with
 |none=>exact slicePart_none h
 |int i t=>exact slicePart_int h
def Dd{sl:Addr}{vl vu:Value}{lo hi:Option Int}{n:Nat}{Q:Int×Int×Nat->Shared->Prop}(hs:s.heap.IsSliceOf sl vl vu .none)(pl:IsPart vl lo)(pu:IsPart vu hi)
  (h:Q (((Cv n 0 lo:Nat):Int),1,Cv n n hi - Cv n 0 lo) s):wpAny (model prog w) A (Builtin.Slice.sliceApplied (.ref sl) (pure (n:Int))) Q E s:=by
 obtain⟨os,Jg,JH,JF⟩:=id hs;refine aaa (aaa (abz Jg JF rfl (aaa (abz Jg JF rfl (aaa (abz Jg JF rfl (aae ?_)))))));refine aaa (slicePart_none ?_);refine aaa (jX pl (aaa (jX pu (aaa (aae ?_)))));show wpAny _ _ (match afG lo hi 1 _ with|(lo,hi)=>pure (lo,(1:Int),adK lo hi 1)) _ _ s;rw[rQ lo hi n];show wpAny _ _ (pure _) _ _ s;rw[qR];exact aae h
theorem uZ(xs:Aam)(i k:Nat):((abd k).filterMap λ(m:Nat)=>xs[((i:Int)+(m:Int)*1).toNat]?).toArray=((xs.toList.drop i).take k).toArray:=by
 have e:(λ(m:Nat)=>xs[(i+(m:Int)*1).toNat]?)=λm=>xs[i+m]?:=by
  funext m;have:(i+(m:Int)*1).toNat=i+m:=by omega
  rw[this]
 rw[e];have:=pick_run xs i k;rw[abx]at this;have e2:((λx=>xs[x]?) ∘ λx=>i+x)=λm=>xs[i+m]?:=rfl;rw[e2]at this;rw[this]
theorem EB{t sl:Addr}{items:Aam}{vl vu:Value}{lo hi:Option Int}{Q:Aab}(ht:IsTup s.heap t items)(hs:s.heap.IsSliceOf sl vl vu .none)(pl:IsPart vl lo)(pu:IsPart vu hi)
  (hw:¬ (Cv items.size 0 lo=0/\Cv items.size items.size hi=items.size))
  (h:Q (.ref s.heap.objs.size) {s with heap:=s.heap.push {cls:=.type "tuple",data:=.seq ((items.toList.drop (Cv items.size 0 lo)).take (Cv items.size items.size hi - Cv items.size 0 lo)).toArray}})
  (hsz:items.size<=sizeLine):wpAny (model prog w) A (ad6 (.ref t) (.ref sl)) Q E s:=by
 have Je:sizeOk (.seq ((items.toList.drop (Cv items.size 0 lo)).take (Cv items.size items.size hi - Cv items.size 0 lo)).toArray):=by show ((items.toList.drop (Cv items.size 0 lo)).take (Cv items.size items.size hi - Cv items.size 0 lo)).toArray.size<=sizeLine;rw[aap,abj,acQ,aaK];omega
 have hj:Cv items.size items.size hi<=items.size:=yW _ _ (aaj _) hi;obtain⟨os,Jg,JH,JF⟩:=id hs;have Zk:s.TypeIs (.ref sl) "slice" := #[os,Jg,JH]
 unfold ad6;try with_reducible refine aaY ?_
 first|refine aaa (aae ?_)|skip
 refine aaa (wpAny_sequenceKey ht.typeIs #[2] ?_);refine aaa (abp (name:=aaE "__getitem__") ht.typeIs acj
  (aa2 acj ht.typeIs entry_tuple_getitem ?_ (args_tuple_getitem _ _)))
 show wpAny _ _ (afB (.ref t) >>= _) _ _ s;refine aaa (tupleItemsOf_ ht ?_);refine aaa (ad4 Zk ?_);rw[if_pos #[2]];refine aaa (Dd hs pl pu ?_);have YN:¬ ((((Cv items.size 0 lo:Nat):Int)==0 && (1:Int)==1 && (Cv items.size items.size hi - Cv items.size 0 lo)==items.size)=true):=by intro q;rw[aaS,aaS]at q;have q1:((Cv items.size 0 lo:Nat):Int)=0:=eq_of_beq q.1.1;have q2:Cv items.size items.size hi - Cv items.size 0 lo=items.size:=eq_of_beq q.2;exact hw #[#[],#[]]
 show wpAny _ _ (if (((Cv items.size 0 lo:Nat):Int)==0 && (1:Int)==1 && (Cv items.size items.size hi - Cv items.size 0 lo)==items.size)=true then _ else _) _ _ s;rw[if_neg YN,uZ];first
  |exact aaa (m:=acX _) (aa1 (aae #[_,rfl,aae h]) Je)
  |exact aaa (m:=acX _) (aa1 (aaa (aae (aae #[_,rfl,aae h]))) Je)
  |exact aaa (aaa (m:=acX _) (aa1 (aae (aae #[_,rfl,aae h])) Je))
  |exact aaa (aaa (m:=acX _) (aa1 (aae #[_,rfl,aae h]) Je))
end HT
namespace L2
open PySem PySem.Spec PyProof.Rows
abbrev TO:=St->Hp->(Option Int->Hp->Prop)->Prop
def PO(X:Cx)(e:Option Expr)(t:TO):Prop :=
 ∀(pins:Aac) (s:Shared) (U:St) (H:Hp) (Q:Option Int->Hp->Prop),Inv X pins U H s->t U H Q ->
  wpAny (model X.prog X.w) X.A (evalPart e X.env) (λu s'=>∃o H',Inv X pins U H' s'/\IsPart u o/\Q o H') X.xe s
def wP:TO:=λ_ H Q=>Q none H
def Qj(t:TE):TO:=λU H Q=>t U H λx H1=>∃i,x=.int i/\Q (some i) H1
def rp{ns:Aas}:∀{us:Aae},AS (ns.map V.int) us->IntsAre us ns:=by
 induction ns with
 |nil=>intro us r;cases r;exact .nil
 |cons n ns ih=>
  intro us r;cases r with
  |cons r1 r2=>obtain⟨t,e⟩:=r1;subst e;exact .cons n t (ih r2)
variable{X:Cx}{e:Expr}{te:TE}{lo hi:Option Expr}{tl th:TO}{pos p2:Pos}
def pY:PO X none wP:=by intro pins s U H Q I h;exact aae #[none,H,I,.none,h]
def pX(h:PE X e te):PO X (some e) (Qj te):=by intro pins s U H Q I hw;refine BZ (h pins s U H _ I hw) λu s1 #[x,H1,I1,r1,q1]=>?_;obtain⟨i,rfl,q⟩:=q1;obtain⟨t,rfl⟩:=r1;exact#[some i,H1,I1,.int i t,q]
def LD(X:Cx)(r:V->Option Int->Option Int->Hp->VK->Prop):Prop :=
 ∀(pins:Aac) (s:Shared) (U:St) (H:Hp) (x:V) (v vl vu:Value) (lo hi:Option Int) (sl:Addr) (Q:VK),Inv X pins U H s->RelV x v->s.heap.IsSliceOf sl vl vu .none->IsPart vl lo->IsPart vu hi->r x lo hi H Q ->
  ∃T id,typeLookup (.type T) "__getitem__" = pure (some (.builtin id))/\s.TypeIs v T/\wpAny (model X.prog X.w) X.A (ad6 v (.ref sl)) (EP X pins U Q) X.xe s
def LD.or{r r':V->Option Int->Option Int->Hp->VK->Prop}(h:LD X r)(h':LD X r'):LD X (λx lo hi H Q=>r x lo hi H Q\/r' x lo hi H Q):=by
 intro pins s U H x v vl vu lo hi sl Q I rx hs pl pu q;rcases q with q|q
 .exact h pins s U H x v vl vu lo hi sl Q I rx hs pl pu q
 .exact h' pins s U H x v vl vu lo hi sl Q I rx hs pl pu q
def XT(r:V->Option Int->Option Int->Hp->VK->Prop)(te:TE)(tl th:TO):TE:=λU H Q=>te U H λx H1=>tl U H1 λl H2=>th U H2 λu H3=>r x l u H3 Q
def jt{r:V->Option Int->Option Int->Hp->VK->Prop}(hr:LD X r)(he:PE X e te)(hl:PO X lo tl)(hu:PO X hi th):PE X (.Subscript e (.Slice lo hi none p2) pos) (XT r te tl th):=by intro pins s U H Q I h;refine Subscript_ (BZ (he pins s U H _ I h) λv s1 #[x,H1,I1,r1,q1]=>?_);refine wpAny_Slice (BZ (hl pins s1 U H1 _ I1 q1) λvl s2 #[l,H2,I2,pl,q2]=>BZ (hu pins s2 U H2 _ I2 q2) λvu s3 #[u,H3,I3,pu,q3]=>?_);rw[evalPart_none];refine aae ?_;have I4:Inv X pins U H3 {s3 with heap:=s3.heap.push {cls:=.type "slice",data:=.fields #v[vl,vu,.none]}}:=I3.kept (t':=s3.toks) λb ob q=>aad _ q;obtain⟨T,id,hT,ht,hg⟩:=hr pins {s3 with heap:=s3.heap.push {cls:=.type "slice",data:=.fields #v[vl,vu,.none]}} U H3 x v vl vu l u s3.heap.objs.size Q I4 r1 (Heap.IsSliceOf.new ..) pl pu q3;show wpAny (model X.prog X.w) X.A (subscriptTail e (.Slice lo hi none p2) v (.ref s3.heap.objs.size)) (EP X pins U Q) X.xe {s3 with heap:=s3.heap.push {cls:=.type "slice",data:=.fields #v[vl,vu,.none]}};exact tail_any (ops:=[.ref s3.heap.objs.size,v]) ht hT hg (by with_unfolding_all rfl)
noncomputable def FY(xs:Aai)(lo hi:Option Int):Aai:=(xs.drop (HT.Cv xs.length 0 lo)).take (HT.Cv xs.length xs.length hi - HT.Cv xs.length 0 lo)
theorem jd(xs:Aai)(lo hi:Option Int):(FY xs lo hi).length<=xs.length:=by unfold FY;rw[abj,acQ];omega
def T7(K:aaf):V->Option Int->Option Int->Hp->VK->Prop:=λx lo hi H Q=>∃a xs,x=.ref a/\C3 K H a xs /\
 ¬ (HT.Cv xs.length 0 lo=0/\HT.Cv xs.length xs.length hi=xs.length)/\∀p,H p=none->Q (.ref p) (upd H p (.tup (FY xs lo hi)))
def yU:LD X (T7 X.K):=by
 intro pins s U H x v vl vu lo hi sl Q I rx hs pl pu h;obtain⟨a,xs,rfl,hx,hw,q⟩:=h;cases rx;obtain⟨gE,r,ht,hz⟩:=I.tuple hx;have hlen:gE.toArray.size=xs.length:=by exact r.length.symm
 refine#[_,_,PyProof.Rows.slot_tuple_getitem.lookup,ht.typeIs,?_];refine HT.EB ht hs pl pu #[1] ?_ #[1];rw[hlen];refine#[.ref s.heap.objs.size,_,I.laid (λb ob q=>aad _ q) (aaj _) ?_,rfl,q _ (I.Bv.fresh (aaj _))];exact#[aaX (jd xs lo hi) hz,_,(r.drop _).take _,IsTup.new _ _]
def QO(K:aaf):R2:=λx y H Q=>∃a b xs ys,x=.ref a/\y=.ref b/\C3 K H a xs/\C3 K H b ys/\xs≠[]/\xs.length+ys.length<=sizeLine /\
 (ys=[]->Q (.ref a) H)/\(ys≠[]->∀p,H p=none->Q (.ref p) (upd H p (.tup (xs++ys))))
variable{xs:Aai}{us:Aae}
def AS.G7(r:AS xs us):us=[]↔xs=[]:=by
 cases r with
 |nil=>simp
 |cons _ _=>simp
def xB:Co X (acg .Add) (QO X.K):=by intro pins s U H x y v u Q I rx ry h;obtain⟨a,b,xs,ys,rfl,rfl,ha,hb,hx,hz,q1,q2⟩:=h;cases rx;cases ry;obtain⟨gE,r1,p1,_⟩:=I.tuple ha;obtain⟨CQ,r2,p2,_⟩:=I.tuple hb;refine HT.Me p1 p2 (λz=>hx (r1.G7.mp z)) (λz=>#[.ref a,H,I,rfl,q1 (r2.G7.mp z)]) (λz=>?_) (by rw[<- r1.length,<- r2.length];exact hz);refine#[.ref s.heap.objs.size,_,I.laid (t':=s.toks) (o:=.tup (xs++ys)) (λb ob q=>aad _ q) (aaj _) ?_,rfl,q2 (λw=>z (r2.G7.mpr w)) _ (I.Bv.fresh (aaj _))];exact#[by rw[aav];exact hz,_,r1.append r2,IsTup.new _ _]
noncomputable def Kp(n:Nat)(i:Int):Option Nat:=if 0<=i then (if i<n then some i.toNat else none)else if -(n:Int)<=i then some (i+n).toNat else none
variable{α:Type}
noncomputable def IQ(xs:List α)(i:Int):Option α:=(Kp xs.length i).bind λj=>xs[j]?
variable{n j:Nat}{i:Int}
theorem lB(h:Kp n i=some j):afg i n=some j/\j<n /\ -(n:Int)<=i/\i<n:=by
 unfold Kp at h;by_cases h0:0<=i
 .rw[if_pos h0]at h;by_cases h1:i<n
  .rw[if_pos h1]at h;have e  := aar h;exact#[by rw[seqIndex_of h0 h1,e],#[],#[],h1]
  .rw[if_neg h1]at h;cases h
 .rw[if_neg h0]at h;by_cases h1 : -n<=i
  .rw[if_pos h1]at h;have e  := aar h;exact#[by rw[seqIndex_neg #[] h1,e],#[],h1,#[]]
  .rw[if_neg h1]at h;cases h
def lL{xs:List α}{v:α}(h:IQ xs i=some v):∃j,afg i xs.length=some j/\xs[j]?=some v/\j<xs.length /\ -(xs.length:Int)<=i/\i<xs.length:=by
 unfold IQ at h;cases e:Kp xs.length i with
 |none=>rw[e]at h;cases h
 |some j=>rw[e]at h;obtain⟨h1,h2,h3,h4⟩:=lB e;exact#[j,h1,h,h2,h3,h4]
theorem am{xs:List α}{v:α}(h:xs[j]?=some v):IQ xs (j:Int)=some v:=by
 have hj  := (List.getElem?_eq_some_iff.mp h).1;have e:Kp xs.length j=some j:=by unfold Kp;rw[if_pos #[],if_pos #[]];simp
 unfold IQ;rw[e];exact h
def lN(b:Expr):Prop:=∀o i,afe b false o i=operate [o,i] (ad6 o i)
def Lf(X:Cx)(r:R2):Prop :=
 ∀(value slice:Expr) (pins:Aac) (s:Shared) (U:St) (H:Hp) (x y:V) (v u:Value) (Q:VK),Inv X pins U H s->RelV x v->RelV y u->r x y H Q ->
  afe slice false v u=operate [v,u] (ad6 v u)->wpAny (model X.prog X.w) X.A (subscriptTail value slice v u) (EP X pins U Q) X.xe s
def Tu(X:Cx)(id:String)(r:V->List V->Hp->VK->Prop):Prop :=
 ∀(pins:Aac) (s:Shared) (U:St) (H:Hp) (x:V) (xs:Aai) (v:Value) (us:Aae) (Q:VK),Inv X pins U H s->RelV x v->AS xs us->r x xs H Q ->
  wpAny (model X.prog X.w) X.A (call (.builtin id) (v::us)) (EP X pins U Q) X.xe s
variable{a b:Expr}{ta tb:TE}
variable{r r':R2}
def Lf.or(h:Lf X r)(h':Lf X r'):Lf X (λx y H Q=>r x y H Q\/r' x y H Q):=by
 intro value slice pins s U H x y v u Q I rx ry q hs;rcases q with q|q
 .exact h value slice pins s U H x y v u Q I rx ry q hs
 .exact h' value slice pins s U H x y v u Q I rx ry q hs
def cq(hr:Lf X r)(ha:PE X a ta)(hb:PE X b tb)(hs:lN b):PE X (.Subscript a b pos) (Fx r ta tb):=by intro pins s U H Q I h;exact Subscript_ (OI ha hb I h λv u s2 x y H2 I2 rx ry q=>hr a b pins s2 U H2 x y v u Q I2 rx ry q (hs _ _))
def QK(K:aaf):R2:=λx y H Q=>∃p xs i v,x=.ref p/\y=.int i/\CN K H p xs/\IQ xs i=some v/\Q v H
def QI(K:aaf):R2:=λx y H Q=>∃p xs i v,x=.ref p/\y=.int i/\C3 K H p xs/\IQ xs i=some v/\Q v H
def QJ:R2:=λx y H Q=>∃z i c,x=.str z/\y=.int i/\z.length<=sizeLine/\IQ z.cps.toList i=some c/\Q (.str #[#v[c]]) H
theorem LN:Lf X (QK X.K):=by
 intro value slice pins s U H x y v u Q I rx ry h hs;obtain⟨p,xs,i,z,rfl,rfl,hq,he,q⟩:=h;cases rx;obtain⟨t,rfl⟩:=ry;obtain⟨gE,r,pl,hz⟩:=I.list hq;obtain⟨j,h1,h2,h3,h4,h5⟩:=lL he;obtain⟨w,ew,Fq⟩:=r.get h2;have hl:=r.length;have hn:=Em;have fin:EP X pins U Q w s:=#[z,H,I,Fq,q]
 by_cases h0:0<=i
 .have hj  :=by rw[seqIndex_of h0 h5]at h1;exact aar h1
  exact item_listR pl.isList h0 #[] #[1] fin hs
 .have hj:(i+(gE.toArray.size:Int)).toNat=j:=by rw[seqIndex_neg #[] h4]at h1;rw[aap,<- hl];exact aar h1
  exact subscriptTail_builtinR pl.isList.typeIs slot_list_getitem.lookup
   (wpAny_getItem_list_neg pl.isList #[] #[1] #[] #[1] #[rfl,fin]) hs
theorem NZ:Lf X (QI X.K):=by
 intro value slice pins s U H x y v u Q I rx ry h hs;obtain⟨p,xs,i,z,rfl,rfl,hq,he,q⟩:=h;cases rx;obtain⟨t,rfl⟩:=ry;obtain⟨gE,r,pl,hz⟩:=I.tuple hq;obtain⟨j,h1,h2,h3,h4,h5⟩:=lL he;obtain⟨w,ew,Fq⟩:=r.get h2;have hl:=r.length;have hn:=Em;have fin:EP X pins U Q w s:=#[z,H,I,Fq,q]
 exact subscriptTail_builtinR pl.typeIs slot_tuple_getitem.lookup
  (getItem_tuple (j:=j) pl #[] #[] #[1] #[1] #[rfl,fin]) hs
theorem zI:Lf X QJ:=by
 intro value slice pins s U H x y v u Q I rx ry h hs;obtain⟨z,i,c,rfl,rfl,hz,he,q⟩:=h;obtain⟨t,rfl⟩:=rx;obtain⟨t',rfl⟩:=ry;obtain⟨j,h1,h2,h3,h4,h5⟩:=lL he;have hl:z.cps.toList.length=z.length:=rfl;have hn:=Em;exact tail_any (typeIs_str s z t) slot_str_getitem.lookup (getItem_str (by have e1:decide (i < -2 ^ 63)=false:=decide_eq_false #[];have e2:decide (i ≥ 2 ^ 63)=false:=decide_eq_false #[];rw[e1,e2,Bool.or_false]) #[1] #[.str _,H,I.tok _,#[_,rfl],q]) hs
def Wm(K:aaf):R2:=λx y H Q=>QK K x y H Q\/QI K x y H Q\/QJ x y H Q
def N0:Lf X (Wm X.K):=LN.or (NZ.or zI)
def re(gE:Aae)(n j:Nat)(u:Value):abK (·.setIfInBounds j u) {cls:=.type "list",data:=.seq gE.toArray n}={cls:=.type "list",data:=.seq (gE.set j u).toArray n}:=by simp[abK]
variable{pins:Aac}{U:St}{H:Hp}{s:Shared}
def Inv.lst{p:Addr}(I:Inv X pins U H s)(h:H p=some (.lst xs)):
  ∃(gE:Aae) (n:Nat),AS xs gE/\s.heap.get? p=some {cls:=.type "list",data:=.seq gE.toArray n}/\xs.length<=sizeLine:=by
 obtain⟨z,gE,n,r,e⟩:=I.Bv p _ h;exact#[gE,n,r,e,z]
variable{gE:Aae}
def Inv.NX{p:Addr}{ys:Aai}{Fl:Aae}{n':Nat}{f:Obj->Obj}(I:Inv X pins U H s)(h:H p=some (.lst xs))
  (ho:s.heap.get? p=some {cls:=.type "list",data:=.seq gE.toArray n}) (hf:f {cls:=.type "list",data:=.seq gE.toArray n}={cls:=.type "list",data:=.seq Fl.toArray n'}) (r:AS ys Fl) (hz:ys.length<=sizeLine) (t:Nat) :
  Inv X pins U (upd H p (.lst ys)) {s with heap:=s.heap.update p f,toks:=t}:=by
 have e:(s.heap.update p f).get? p=some {cls:=.type "list",data:=.seq Fl.toArray n'}:=by rw[abo f ho (by rw[hf]<;>rfl),hf]
 refine I.write (by rw[h];trivial) (.inl rfl) (λb u hb q=>(ac4 _ _ (abE hb)).trans q) #[_,e] ?_;exact#[hz,Fl,n',r,e]
def Mw:V->V->V->Hp->(Hp->Prop)->Prop:=λo i v H Q=>∃p xs k j,o=.ref p/\i=.int k/\H p=some (.lst xs)/\Kp xs.length k=some j/\Q (upd H p (.lst (xs.set j v)))
theorem uO:HR X Mw:=by
 intro pins s U H o i v ov iv u Q I ro ri rv h;obtain⟨p,xs,k,j,rfl,rfl,hp,hj,q⟩:=h;cases ro;obtain⟨t,rfl⟩:=ri;obtain⟨gE,n,r,ho,hz⟩:=I.lst hp;obtain⟨h1,h2,h3,h4⟩:=lB hj;have hl:=r.length;have hn:=Em;have I'  :=
  I.NX hp ho (re gE n j u) (r.set rv j) #[1] s.toks
 by_cases h0:0<=k
 .have hk  :=by rw[seqIndex_of h0 h4]at h1;exact aar h1
  exact PySem.W.ki_setAt ho h0 #[] #[1] (by rw[hk];exact#[_,I',q])
 .have hk:(k+(gE.toArray.size:Int)).toNat=j:=by rw[seqIndex_neg #[] h3]at h1;rw[aap,<- hl];exact aar h1
  exact PySem.W.ki_setBack ho #[] #[1] #[] (by rw[hk];exact#[_,I',q])
theorem nC(lo hi:Option Int)(n:Nat):(adm lo hi none n).1=((HT.Cv n 0 lo:Nat):Int)/\(adm lo hi none n).2.1=((HT.Cv n n hi:Nat):Int)/\(adm lo hi none n).2.2=1:=by
 refine#[?_,?_,rfl]
 .cases lo with
  |none=>simp[adm,HT.Cv]
  |some i=>
   simp only[adm,HT.Cv,Option.getD_none,if_true];by_cases h:i<0
   .simp only[h,if_true]<;>omega
   .simp only[h,if_false]<;>omega
 .cases hi with
  |none=>simp[adm,HT.Cv]
  |some i=>
   simp only[adm,HT.Cv,Option.getD_none,if_true];by_cases h:i<0
   .simp only[h,if_true]<;>omega
   .simp only[h,if_false]<;>omega
def mL(gE:Aae)(lo hi:Option Int):slicePick gE.toArray lo hi none=((gE.drop (HT.Cv gE.length 0 lo)).take (HT.Cv gE.length gE.length hi - HT.Cv gE.length 0 lo)).toArray:=by obtain⟨h1,h2,h3⟩:=nC lo hi gE.toArray.size;unfold slicePick;rw[h1,h2,h3];simp only[sliceRange_one,pick_run]<;>rfl
def T9(K:aaf):V->Option Int->Option Int->Hp->VK->Prop:=λx lo hi H Q=>∃a xs,x=.ref a/\CN K H a xs/\∀p,H p=none->Q (.ref p) (upd H p (.lst (FY xs lo hi)))
def pO:LD X (T9 X.K):=by intro pins s U H x v vl vu lo hi sl Q I rx hs pl pu h;obtain⟨a,xs,rfl,hx,q⟩:=h;cases rx;obtain⟨gE,r,ht,hz⟩:=I.list hx;have hlen:=r.length;refine#[_,_,slot_list_getitem.lookup,ht.isList.typeIs,?_];refine wpAny_getItem_list_slice ht.isList hs pl pu .none #[0] ?_ #[1];rw[mL,<- hlen];refine#[.ref s.heap.objs.size,_,I.laid (λb ob q=>aad _ q) (aaj _) ?_,rfl,q _ (I.Bv.fresh (aaj _))];exact#[aaX (jd xs lo hi) hz,_,0,(r.drop _).take _,aag _ rfl]
def nY:Co X (aa4 .NotIn) (λx y H Q=>∃i j,x=.str i/\y=.str j/\Q (.bl (!(!(ac3 j i 0 j.length 1).isEmpty))) H):=by intro pins s U H x y v u Q I rx ry h;obtain⟨i,j,rfl,rfl,q⟩:=h;obtain⟨t,rfl⟩:=rx;obtain⟨t',rfl⟩:=ry;exact notIn_str #[.bl _,H,I,rfl,q]
theorem hU:BM X (.builtin "len") (λxs H Q=>∃p ys,xs=[.ref p]/\(CN X.K H p ys\/C3 X.K H p ys)/\Q (.int ys.length) H):=by
 intro pins s U H xs us Q I r h;obtain⟨p,ys,rfl,hq,q⟩:=h;obtain⟨u,rfl,rx⟩:=vals1 r;cases rx;have hn:=Em;rcases hq with hq|hq
 .obtain⟨gE,r',pl,hz⟩:=I.list hq;have hlen:=r'.length;exact Calls.call_len_list pl.isList (by simp only[aap]<;>omega) #[.int ys.length,H,I.tok _,#[s.toks+1,#[1]],q]
 .obtain⟨gE,r',pl,hz⟩:=I.tuple hq;have hlen:=r'.length;exact len_tuple pl (by simp only[aap]<;>omega) #[.int ys.length,H,I.tok _,#[s.toks+1,#[1]],q]
theorem oP:BM X (.builtin "len") (λxs H Q=>∃z,xs=[.str z]/\z.length<=sizeLine/\Q (.int z.length) H):=by intro pins s U H xs us Q I r h;obtain⟨z,rfl,hz,q⟩:=h;obtain⟨u,rfl,t,rfl⟩:=vals1 r;have hn:=Em;exact len_str #[] #[.int z.length,H,I.tok _,#[_,rfl],q]
variable{f:Value}
def BM.or{r r':Aai->Hp->VK->Prop}(h:BM X f r)(h':BM X f r'):BM X f (λxs H Q=>r xs H Q\/r' xs H Q):=by
 intro pins s U H xs us Q I rs q;rcases q with q|q
 .exact h pins s U H xs us Q I rs q
 .exact h' pins s U H xs us Q I rs q
def oO:BM X (.type "list") (λxs H Q=>∃p ys,xs=[.ref p]/\(CN X.K H p ys\/C3 X.K H p ys)/\∀l,H l=none->Q (.ref l) (upd H l (.lst ys))):=by
 intro pins s U H xs us Q I r h;obtain⟨p,ys,rfl,hq,q⟩:=h;obtain⟨u,rfl,rx⟩:=vals1 r;cases rx;have fin:∀(gE:Aae),AS ys gE->ys.length<=sizeLine->∀(h':Heap) (c':Nat),(∀b o',s.heap.get? b=some o'->h'.get? b=some o') ->
   h'.get? s.heap.objs.size=some _->EP X pins U Q _ _:=λgE r' hz h' c' kp e=>
  #[.ref s.heap.objs.size,_,I.laid (t':=s.toks) kp (aaj _) (show BG X.prog X.w _ h' _ (.lst ys)from #[hz,gE,c',r',e]),rfl,q _ (I.Bv.fresh (aaj _))]
 rcases hq with hq|hq
 .obtain⟨gE,r',pl,hz⟩:=I.list hq;have hlen:=r'.length;obtain⟨o,ho,hc,n,hd⟩:=pl.isList;exact call_list_seq p (.inl rfl) ho hc hd (λh' c' kp e=>fin gE r' hz h' c' kp e) #[1]
 .obtain⟨gE,r',pl,hz⟩:=I.tuple hq;have hlen:=r'.length;obtain⟨o,ho,hc,n,hd⟩:=pl;exact call_list_seq p (.inr rfl) ho hc hd (λh' c' kp e=>fin gE r' hz h' c' kp e) #[1]
def mV:BM X (.type "tuple") (λxs H Q=>∃p ys,xs=[.ref p]/\((CN X.K H p ys/\∀l,H l=none->Q (.ref l) (upd H l (.tup ys)))\/(C3 X.K H p ys/\Q (.ref p) H))):=by
 intro pins s U H xs us Q I r h;obtain⟨p,ys,rfl,h⟩:=h;obtain⟨u,rfl,rx⟩:=vals1 r;cases rx;rcases h with ⟨hq,q⟩|⟨hq,q⟩
 .obtain⟨gE,r',pl,hz⟩:=I.list hq;have hlen:=r'.length;refine call_tuple_list pl.isList (λh' kp=>?_) #[1];have I1  := I.kept (t':=s.toks) kp;have I2  :=
   I1.laid (t':=s.toks) (λb o e=>aad _ e) (aaj _) (show BG X.prog X.w _ _ _ (.tup ys)from #[hz,gE,r',IsTup.new _ _])
  exact#[.ref h'.objs.size,_,I2,rfl,q _ (I1.Bv.fresh (aaj _))]
 .obtain⟨gE,r',pl,hz⟩:=I.tuple hq;exact call_tuple_same pl #[.ref p,H,I,rfl,q]
def TH(K:aaf)(T:String)(x:V)(H:Hp):Prop:=match x with
 |.str _=>T = "str"
 |.int _=>T = "int"
 |.ref p=>(T = "list" /\ ∃xs,CN K H p xs)\/(T = "tuple" /\ ∃o,K.lookup p=some o/\o.cls=.type "tuple" /\ o.dict=none) \/
   (T = "dict" /\ ((∃eQ,H p=some (.dK eQ))\/∃eQ,H p=some (.dT eQ)))\/(T = "set" /\ ∃S n,H p=some (.set S n))
 |_=>False
variable{x:V}{v:Value}
def rY{T:String}(I:Inv X pins U H s)(r:RelV x v)(ty:TH X.K T x H):
  s.TypeIs v T/\∀a,v=.ref a->∃ob,s.heap.get? a=some ob/\ob.dict=none:=by
 cases x with
 |str z=>obtain⟨t,rfl⟩:=r;cases (ty);exact#[typeIs_str s z t,λ_ e=>nomatch e]
 |int i=>obtain⟨t,rfl⟩:=r;cases (ty);exact#[typeIs_int s i t,λ_ e=>nomatch e]
 |ref p=>
  cases r;rcases ty with ⟨rfl,xs,hq⟩|⟨rfl,o,hk,hc,hd⟩|⟨rfl,hk⟩|⟨rfl,S,n,hk⟩
  .obtain⟨gE,_,pl,_⟩:=I.list hq;refine#[pl.isList.typeIs,λa e=>?_];cases e;obtain⟨o,n,e,c,hd,_⟩:=pl;exact#[o,e,hd]
  .refine#[#[o,I.G8 p o hk,hc],λa e=>?_];cases e;exact#[o,I.G8 _ o hk,hd]
  .have z:∃o,s.heap.get? p=some o/\o.ExactDict:=by
    rcases hk with ⟨eQ,hk⟩|⟨eQ,hk⟩
    .obtain⟨_,_,_,_,o,_,_,e,ex,_⟩:=I.Bv p _ hk;exact#[o,e,ex]
    .obtain⟨_,_,_,_,o,_,_,e,ex,_⟩:=I.Bv p _ hk;exact#[o,e,ex]
   obtain⟨o,e,ex⟩:=z;refine#[#[o,e,ex.1],λa e2=>?_];cases e2;exact#[o,e,ex.2.1]
  .obtain⟨o,_,_,_,e,ex,_⟩:=I.Bv p _ hk;refine#[#[o,e,ex.1],λa e2=>?_];cases e2;exact#[o,e,ex.2.1]
 |_=>exact acW ty
def TU(K:aaf)(T:String)(r:V->List V->Hp->VK->Prop)(to:TE):TE:=λU H Q=>to U H λx H1=>TH K T x H1/\r x [] H1 Q
def V9(K:aaf)(T:String)(r:V->List V->Hp->VK->Prop)(to:TE)(t:TA):TE:=λU H Q=>to U H λx H1=>TH K T x H1/\t U H1 λxs H2=>r x xs H2 Q
variable{o:Expr}{es:Aak}{to:TE}{t:TA}{name:Str}{apos BQ:Pos}{T id:String}{r:V->List V->Hp->VK->Prop}
def zf(pa:PlainAttrs T)(slot:Slot T name id)(Jz:typeOf (.builtin id)=pure (.type "method_descriptor"))(hm:Tu X id r)(ho:PE X o to)
  (Cb:autoParam (abS o name X.env (eval o X.env)=eval o X.env) oR) (Ca:autoParam ((apos.endLine==BQ.line)=true) oR):PE X (.Call (.Attribute o name apos) [] [] BQ) (TU X.K T r to):=by
 intro pins s U H Q I h;refine wpAny_Call_method0_late Cb Ca (BZ (ho pins s U H _ I h) λv s1 #[x,H1,I1,r1,ty,q1]=>?_);obtain⟨h1,h2⟩:=rY I1 r1 ty;exact#[T,id,pa,slot,Jz,h1,h2,ac5 rfl (PySem.evalArgs_none (hm pins s1 U H1 x [] v [] Q I1 r1 .nil q1))]
def qT(pa:PlainAttrs T)(slot:Slot T name id)(Jz:typeOf (.builtin id)=pure (.type "method_descriptor"))(hm:Tu X id r)(ho:PE X o to)(ha:PA X (e::es) t)
  (Cb:autoParam (abS o name X.env (eval o X.env)=eval o X.env) oR)
  (FR:autoParam (((backTo BQ (aai (e::es) X.env)).all (λx=>!x.1) && (aew BQ (ado [] X.env)).all (λx=>x.1.isSome)
   && decide ((e::es).length+([]:List ade).length+(if ([]:List ade).isEmpty then 0 else 1)<30))=true) oR)
  (Ca:autoParam ((apos.endLine==BQ.line)=true) oR) (hs:autoParam (aai (e::es) X.env=(false,eval e X.env)::aai es X.env) oR) (Du:autoParam ((backTo BQ (aai es X.env)).any (·.1)=false) oR) :
  PE X (.Call (.Attribute o name apos) (e::es) [] BQ) (V9 X.K T r to t):=by
 intro pins s U H Q I h;refine wpAny_Call_method_late Cb FR Ca rfl (BZ (ho pins s U H _ I h) λv s1 #[x,H1,I1,r1,ty,q1]=>?_);obtain⟨h1,h2⟩:=rY I1 r1 ty;refine#[T,id,pa,slot,Jz,h1,h2,?_];have hA:=ha BQ pins s1 U H1 _ I1 q1;rw[hs]at hA ⊢;refine ac5 #[1] (Calls.evalArgs_plain ?_);exact BZ hA λus s2 #[vs,H2,I2,r2,q2]=>hm pins s2 U H2 x vs v us Q I2 r1 r2 q2

def VH(X:Cx)(id:String)(r:V->List V->Hp->VK->Prop):Prop :=
 ∀(pins:Aac) (s:Shared) (U:St) (H:Hp) (x:V) (xs:Aai) (v:Value) (us:Aae) (Q:VK),Inv X pins U H s->RelV x v->AS xs us->r x xs H Q ->
  wpAny (model X.prog X.w) X.A (call (.builtin id) (v::us)) (EP X pins U Q) X.xe s
def AS.one:∀{x:V} {us:Aae},AS [x] us->∃u,us=[u]/\RelV x u
 |_,_,.cons r .nil=>#[_,rfl,r]
def AS.two:∀{x y:V} {us:Aae},AS [x,y] us->∃u v,us=[u,v]/\RelV x u/\RelV y v
 |_,_,_,.cons r (.cons q .nil)=>#[_,_,rfl,r,q]
def AS.zero:∀{us:Aae},AS [] us->us=[]
 |_,.nil=>rfl
def AS.dropLast(h:AS xs us):AS xs.dropLast us.dropLast:=by
 induction h with
 |nil=>exact .nil
 |cons r t ih=>
  cases t with
  |nil=>exact .nil
  |cons q t'=>exact .cons r ih
def AS.eraseIdx:∀{xs:Aai} {us:Aae} (i:Nat),AS xs us->AS (xs.eraseIdx i) (us.eraseIdx i)
 |_,_,_,.nil=>.nil
 |_,_,0,.cons _ t=>t
 |_,_,i+1,.cons r t=>.cons r (AS.eraseIdx i t)
def AS.rep(h:AS xs us):∀k:Nat,AS (aaO k xs).flatten (aaO k us).flatten
 |0=>.nil
 |k+1=>by exact AS.append h (AS.rep h k)
theorem rJ(l:List α):l.eraseIdx (l.length - 1)=l.dropLast:=by
 induction l with
 |nil=>rfl
 |cons a r ih=>
  cases r with
  |nil=>rfl
  |cons b r=>
   have e:(a::b::r).length - 1=((b::r).length - 1)+1:=by have h1:(a::b::r).length=r.length+2:=rfl;have h2:(b::r).length=r.length+1:=rfl;omega
   rw[e,List.eraseIdx_cons_succ,ih];all_goals rfl
def mf:∀(l:List α) (i:Nat),(l.eraseIdx i).length<=l.length
 |[],_=>aaj _
 |_::_,0=>ads _
 |_::r,i+1=>Nat.succ_le_succ (mf r i)
def mr(gE:Aae):∀(k:Nat) (acc:Aae),
  List.foldl (λx1 x2=>x1++x2) acc.toArray (aaO k gE.toArray)=(acc++(aaO k gE).flatten).toArray
 |0,acc=>by simp
 |k+1,acc=>by
  have e:acc.toArray++gE.toArray=(acc++gE).toArray:=by simp
  have e2:(acc++gE)++(aaO k gE).flatten=acc++(aaO (k+1) gE).flatten:=by rw[acp,List.flatten_cons,ac9]
  rw[<- e2,<- mr gE k _,<- e,acp,List.foldl_cons]
variable{l b:Addr}{ys zs:Aai}
variable{t':Nat}
def Inv.NY{Fl:Aae}{f:Aam->Array Value}(I:Inv X pins U H s)(hH:H l=some (.lst xs))
  (e:s.heap.get? l=some {cls:=.type "list",data:=.seq gE.toArray n}) (hf:f gE.toArray=Fl.toArray) (hv:AS ys Fl) (hz:ys.length<=sizeLine) :
  Inv X pins U (upd H l (.lst ys)) {s with heap:=s.heap.update l (abK f),toks:=t'}:=by
 have q:=PySem.IsL.update e f;rw[hf]at q;refine I.write (by rw[hH];exact trivial) (.inl rfl) (λb' u hb hu=>(ac4 s.heap _ (abE hb)).trans hu) #[_,q] ?_;exact#[hz,Fl,_,hv,q]
def Inv.Q7(I:Inv X pins U H s)(hv:AS ys gE)(hz:ys.length<=sizeLine):
  Inv X pins U (upd H s.heap.objs.size (.lst ys)) {s with heap:=s.heap.push {cls:=.type "list",data:=.seq gE.toArray},toks:=t'} :=
 I.laid (λ_ _ q=>aad _ q) (aaj _) #[hz,gE,0,hv,aag _ rfl]
def Inv.fresh(I:Inv X pins U H s):H s.heap.objs.size=none:=I.Bv.fresh (aaj _)
def Inv.Jw(I:Inv X pins U H s)(hH:H l=some (.lst xs)):xs.length<=sizeLine/\∃(gE:Aae) (n:Nat),AS xs gE/\xs.length=gE.length/\s.heap.get? l=some {cls:=.type "list",data:=.seq gE.toArray n}:=by obtain⟨z,gE,n,r,e⟩:=I.Bv l _ hH;exact#[z,gE,n,r,r.length,e]
theorem vi(h:n<=sizeLine):Builtin.List.listTooLong n=false:=by exact decide_eq_false #[]
def pV:V->List V->Hp->VK->Prop:=λx vs H Q=>∃l xs y,x=.ref l/\vs=[y]/\H l=some (.lst xs)/\xs.length<sizeLine/\Q .Bw (upd H l (.lst (xs++[y])))
theorem dW:VH X "list.append" pV:=by intro pins s U H x vs v us Q I rx rv h;obtain⟨l,xs,y,rfl,rfl,hH,hz,q⟩:=h;cases rx;obtain⟨u,rfl,ru⟩:=rv.one;obtain⟨z,gE,n,r,hl,e⟩:=I.Jw hH;refine aeI F.slot_list_append #[_,e,rfl] F.entry_list_append (F.args_list_append_2 _ _) (PySem.list_append l gE.toArray n u #[1]) #[e,?_];refine#[.Bw,_,I.NY hH e #[0] (r.append (.cons ru .nil)) ?_,rfl,q];rw[aav,aca];omega
def QE:V->List V->Hp->VK->Prop:=λx vs H Q=>∃l xs y,x=.ref l/\vs=[]/\H l=some (.lst xs)/\xs[xs.length - 1]?=some y/\Q y (upd H l (.lst xs.dropLast))
theorem zu:VH X "list.pop" QE:=by
 intro pins s U H x vs v us Q I rx rv h;obtain⟨l,xs,y,rfl,rfl,hH,hy,q⟩:=h;cases rx;have YA:=rv.zero;subst YA;obtain⟨z,gE,n,r,hl,e⟩:=I.Jw hH;obtain⟨u,hu,ru⟩:=r.get hy;have Yv:gE.toArray[gE.toArray.size - 1]?=some u:=by simp_all
 refine aeI F.slot_list_pop #[_,e,rfl] F.entry_list_pop (F.args_list_pop_1 _) (MeetsSeq.list_pop_last l gE.toArray n u Yv #[1]) #[e,?_];refine#[y,_,I.NY hH e ?_ r.dropLast ?_,ru,q]
 .rw[aap,aeO,rJ]
 .rw[List.length_dropLast];omega
def Kh:V->List V->Hp->VK->Prop:=λx vs H Q=>∃l xs i k y,x=.ref l/\vs=[.int i]/\H l=some (.lst xs) /\ -(2 ^ 63)<=i/\i<2 ^ 63/\afg i xs.length=some k/\xs[k]?=some y/\Q y (upd H l (.lst (xs.eraseIdx k)))
theorem n8:VH X "list.pop" Kh:=by
 intro pins s U H x vs v us Q I rx rv h;obtain⟨l,xs,i,k,y,rfl,rfl,hH,h1,h2,hk,hy,q⟩:=h;cases rx;obtain⟨u,rfl,ru⟩:=rv.one;obtain⟨t,rfl⟩:=ru;obtain⟨z,gE,n,r,hl,e⟩:=I.Jw hH;obtain⟨w,hw,Fq⟩:=r.get hy;refine aeI F.slot_list_pop #[_,e,rfl] F.entry_list_pop (F.args_list_pop_2 _ _)
  (MeetsSeq.list_pop_at l gE.toArray n i t k w (fitsIndex_both h1 h2) #[1] #[1] #[1]) #[e,?_]
 refine#[y,_,I.NY hH e ?_ (r.eraseIdx k) ?_,Fq,q]
 .rw[aeO]
 .have:=mf xs k;omega
def QP:R2:=λx y H Q=>∃l b xs zs,x=.ref l/\y=.ref b/\H l=some (.lst xs)/\H b=some (.lst zs)/\xs.length+zs.length<=sizeLine/\∀p,H p=none->Q (.ref p) (upd H p (.lst (xs++zs)))
def zo:Co X (acg .Add) QP:=by
 intro pins s U H x y v u Q I rx ry h;obtain⟨l,b,xs,zs,rfl,rfl,hH,hB,hz,q⟩:=h;cases rx;cases ry;obtain⟨z,gE,n,r,hl,e⟩:=I.Jw hH;obtain⟨z2,CQ,n2,r2,HX,e2⟩:=I.Jw hB;refine PySem.P.add_list e e2 ?_ #[1];have ea:gE.toArray++CQ.toArray=(gE++CQ).toArray:=by simp
 rw[ea];exact#[.ref _,_,I.Q7 (r.append r2) #[1],rfl,q _ I.fresh]
def QD:R2:=λx y H Q=>∃l k xs,x=.ref l/\y=.int k/\H l=some (.lst xs) /\ -(2 ^ 63)<=k/\k<2 ^ 63/\xs.length*k.toNat<=sizeLine /\
 ∀p,H p=none->Q (.ref p) (upd H p (.lst (aaO k.toNat xs).flatten))
def xO(xs:List α)(k:Nat):(aaO k xs).flatten.length=k*xs.length:=by simp_all
theorem zk:Co X (acg .Mult) QD:=by
 intro pins s U H x y v u Q I rx ry h;obtain⟨l,k,xs,rfl,rfl,hH,h1,h2,hz,q⟩:=h;cases rx;obtain⟨t,rfl⟩:=ry;obtain⟨z,gE,n,r,hl,e⟩:=I.Jw hH;have hlen:gE.toArray.size*k.toNat<=sizeLine:=by simp_all
 have BP:¬ gE.toArray.size*k.toNat > (2 ^ 63 - 1) / 8:=by
  have:sizeLine<=(2 ^ 63 - 1) / 8:=by decide
  omega
 have U9:¬ (!Builtin.List.listFitsIndex k)=true:=by rw[fitsIndex_both h1 h2];exact aaF
 have RC:¬ Builtin.List.listTooLong (gE.toArray.size*k.toNat)=true:=by rw[vi hlen];exact aaF
 have G9:List.foldl (λx1 x2=>x1++x2) #v[] (aaO (if gE.toArray.isEmpty=true then 0 else k.toNat) gE.toArray)=(aaO k.toNat gE).flatten.toArray:=by
  have f0  := λm=>by have:=mr gE m [];rw[aa3]at this;exact this
  rw[f0];cases gE with
  |nil=>simp
  |cons a r'=>rw[if_neg #[0]]
 refine wpAny_binaryOp_repeat_ref (rfl) #[_,e,rfl] (λs'=>typeIs_int s' k t) noFill_list_mul F.fills_int_mul F.slot_int_rmul repeat_list F.slot_int_index.lookup
  (aeI F.slot_int_rmul (typeIs_int s k t) F.entry_int_rmul (F.args_int_rmul_2 _ _) (int___rmul___int_list k t l gE.toArray n)
   #[e,rfl,#[_,e,rfl],aeI F.slot_list_mul #[_,e,rfl] F.entry_list_mul (F.args_list_mul_2 _ _) (AutoListH.list___mul___list_int_3 l gE.toArray n k t U9 BP RC) #[e,?_]])
 rw[G9];exact#[.ref _,_,I.Q7 (r.rep k.toNat) (by rw[xO,Nat.mul_comm];exact hz),rfl,q _ I.fresh]
variable{prog:aaD}{w:World}{A:Around}{E:Aab}
end L2
namespace Att
open PySem PySem.W PySem.Calls PyProof.Rows
def kf{P:Params}{h:Heap}:∀(ns:Aas) (vs:Aae),WellAll P h vs (ns.map WData.int)->IntsAre vs ns:=by
 intro ns;induction ns with
 |nil=>intro vs w;cases w;exact .nil
 |cons n ns ih=>
  intro vs w;cases w with
  |cons a b=>cases a;exact .cons _ _ (ih _ b)
theorem sr{l:OpenLaw}{n:Nat}(hn:l.most=some n){P:Params}{h:Heap}{args:List WData}{vals:Aae}
  (LW:l.row.toRowW.claim.pre args=true) (UA:WellAll P h vals args) :
  ∃a vs ns,vals=[abe a]/\args=[WData.list (ns.map WData.int)]/\h.get? a=some {cls:=.type "list",data:=.seq vs.toArray}/\IntsAre vs ns/\ns.length<=n:=by
 have YD:WShape.hasAll [] args [.list .int]=true:=(pre_splitW LW).1;have hc:l.pre.holds [] {args:=args}=true:=(pre_splitW LW).2;obtain⟨d,r,rfl,h1,h2⟩:=hasAllW_cons YD;obtain rfl:=hasAllW_nil h2;obtain⟨xs,rfl,h3⟩:=hasW_list h1;obtain⟨ns,rfl⟩:=items_int h3;have hlen:ns.length<=n:=by
  unfold OpenLaw.pre at hc;have h4:(WTm.not (.lt (.lit (.int (n:Int))) (.len (.arg 0)))).holds [] {args:=[.list (ns.map .int)]}=true:=by have h4:=(holds_andW hc).1;rw[hn]at h4;exact h4
  have h5:=condW_of h4 (w_not (w_lt w_lit (w_len_list (w_arg rfl))));rw[aac]at h5;refine Nat.le_of_not_lt λq=>?_;have q':(n:Int)<((ns.length:Nat):Int):=by omega
  first
   |(rw[decide_eq_true q']at h5;exact absurd h5 #[2])
   |(simp at h5;omega)
 cases UA with
 |cons w1 w2=>
  cases w2;cases w1 with
  |list ho Oj=>exact#[_,_,ns,rfl,rfl,ho,kf ns _ Oj,hlen]
def sA(l:OpenLaw)(args:List WData):l.row.toRowW.claim.post args (.bool true) args=true :=
 postW_of
  (show WShape.has [] (.bool true) .bool=true by first|rfl|decide|simp[WShape.has,WShape.arms,WShape.armsAll])
  (show (WTm.eq .res (.lit (.bool true))).value [] {args:=args,res:=some (.bool true),after:=args}=some (.bool (true==true))from w_eq_bool (w_res rfl) w_lit) rfl
def HN{l:OpenLaw}{n:Nat}{q:aaD}{loose:Aaa}{XP:(Str->Option Value)->Heap->Prop}{YP:World->Heap->Prop}{d:DefRec}
  (hn:l.most=some n) (RI:d.params.defaults=[])
  (call:∀(w:World) (s0 sc:Shared) (mg mb:Aag) (fa:Addr) (o:Obj) (pm cd doc:Value) (a:Addr) (vs:Aae) (ns:Aas),
   Ground q loose [] XP w s0 mg mb sc.heap->YP w sc.heap ->
   sc.heap.get? fa=some o->o.data=.func (docDef d.name d.params d.body d.scope pm cd doc)->sc.heap.CodeRec cd d.name->mg d.name=some (.ref fa) ->
   sc.heap.get? a=some {cls:=.type "list",data:=.seq vs.toArray}->IntsAre vs ns->ns.length<=n->sc.gens=#v[] ->
   acS (model l.prog w) afl (.call (.ref fa) #[[.ref a],[]]) (λr s'=>r=.ok (.ret (.bool true))/\OldK sc.heap s'.heap/\s'.os=sc.os/\aep s'.gens) sc) :
  WalkO q loose XP YP l.row.toRowW d [] (λf vs=>PySem.call f vs):=by
 intro w s0 sc mg mb G Y fa o pm cd doc dV kV ho hd FT hD hmg hg args vals as LW YV hrd UA hlo;obtain rfl:dV=.none:=Dflts.none hD RI;obtain rfl:kV=.none:=Dflts.noKw hD;obtain⟨a,vs,ns,rfl,rfl,N6,hints,hlen⟩:=sr hn LW UA;refine enter_call (adB (call w s0 sc mg mb fa o pm cd doc a vs ns G Y ho (fd_plain hd) FT hmg N6 hints hlen hg) λr s' hq=>?_);obtain⟨rfl,h2,h3,h4⟩:=hq;exact#[.inl #[_,_,[],rfl,λ_=>rfl,.bool true,sA l _,λ_=>#[aeP,λ_ hm=>(nomatch hm)]],h2,h3,h4]
variable{prog:aaD}{w:World}{A:Around}{E:Aab}{s:Shared}{K:Frag}
end Att
namespace L2
open PySem PySem.Spec PyProof.Rows
def lR:∀{vs:Aae} {ns:Aas},IntsAre vs ns->AS (ns.map V.int) vs
 |_,_,.nil=>.nil
 |_,_,.cons n t h=>.cons #[t,rfl] (lR h)
end L2

namespace L2
open PySem PySem.Spec PyProof.Rows
noncomputable def cY(s:Stmt):Arguments:=match s with
 |.FunctionDef _ a _ _ _ _ _ _ _ _=>a
 |_=>{posonlyargs:=[],args:=[],vararg:=none,kwonlyargs:=[],kw_defaults:=[],kwarg:=none,defaults:=[]}
noncomputable def aP(s:Stmt):List Stmt:=match s with
 |.FunctionDef _ _ b _ _ _ _ _ _ _=>b
 |_=>[]
noncomputable def ak(s:Stmt):Scope:=match s with
 |.FunctionDef _ _ _ _ _ _ sc _ _ _=>sc
 |_=>{kind:=.function,names:=[],isGenerator:=false,isCoroutine:=false}
abbrev Cu:Po:=λ_ _ _ _ _ _=>False
abbrev E0:XK:=λ_ _ _=>False
variable{X:Cx}
def GI:IS Cu X E0:=λ_ _ _ _ _ _ _ h=>h.elim
structure H0(K:aaf)(x qual:Str)(st:Stmt)(f:Addr)(fd:abM):Prop where
 ex:∃(oc:Value) (od:Option Addr) (kV doc pm:Value) (an:Option Addr) (BI ct:Value) (LI:Array (Option Value)),
  fd=acV x qual (cY st) (aP st) (ak st) .none kV doc pm an BI ct/\K.lookup f=some #[oc,od,.func fd,LI]/\ael K BI qual=true
 kp:abN K (.ref f)=true
variable{P:aaD}{w:World}{K:aaf}{mg:Aag}{base:Heap}
variable{x qual:Str}{st:Stmt}{f:Addr}{fd:abM}{N ps:Aaa}{k:Nat}{sp:Sp}
def H0.ok(F:H0 K x qual st f fd)(S:ap N ps (ak st))(len:∀vs H Q E,sp vs H Q E->vs.length=ps.length)
  (HE:∀(BI:Value) (A:Around) (outer:List Env) (s:Shared) (H:Hp) (vs:Aai) (Q:VK) (E:XK),BS k (A.deeper (envOfC qual (ak st) s.heap.objs.size f BI))->sp vs H Q E ->
   ∃t,IT (E3 Cu P w K mg base N qual (ak st) f BI A outer s H E).JQ (aP st) t/\t {nx:=λ_ H'=>Q .Bw H',rt:=Q} (start N vs) H):BD P w K mg base Cu (k+1) f fd ps sp:=by
 obtain⟨oc,od,kV,doc,pm,an,BI,ct,LI,rfl,lk,FT⟩:=F.ex;refine wC lk FT S len λA outer s H vs Q E hr Ln=>?_;obtain⟨t,h,q⟩:=HE BI A outer s H vs Q E hr Ln;exact#[t,h.JQ,q]
def H0.binds(F:H0 K x qual st f fd)
  (h:∀(kV doc pm:Value) (an:Option Addr) (BI ct:Value) (us:Aae),us.length=ps.length->ada (acV x qual (cY st) (aP st) (ak st) .none kV doc pm an BI ct) #[us,[]]=pure (ps.zip us)):Binds K fd ps []:=by
 obtain⟨oc,od,kV,doc,pm,an,BI,ct,LI,rfl,lk,FT⟩:=F.ex;exact .all (h kV doc pm an BI ct)
variable{pm:Value}
def t6{oc:Value}{od an:Option Addr}{LI:Array (Option Value)}{kV doc BI ct:Value}(l:K.lookup f=some #[oc,od,.func (acV x qual (cY st) (aP st) (ak st) .none kV doc pm an BI ct),LI])
  (c:ael K BI qual=true) (k:abN K (.ref f)=true):H0 K x qual st f (acV x qual (cY st) (aP st) (ak st) .none kV doc pm an BI ct):=#[#[oc,od,kV,doc,pm,an,BI,ct,LI,rfl,l,c],k]
variable{pos:Pos}
def pv(i:Nat)(hN:autoParam (X.N[i]?=some x) oR)(hv:autoParam (Hq X.env.scope x) BT)(hd:autoParam ((x==("__debug__" : Str))=false) on)
  (FT:autoParam ((x==("__classdict__" : Str))=false) on):PE X (.Name x pos) (B2 i):=za hN hv hd FT
variable{A B:Prop}
def FP(h:B):if false=true then A else B:=by rw[if_neg aaF];exact h
def Gv(h:A):if true=true then A else B:=by rw[if_pos rfl];exact h
def Rg{c:Prop}[Decidable c](h1:c->A)(h2:¬ c->B):if c then A else B:=by simp_all
def dO(H H':Hp):Prop:=∀b o,H b=some o->H' b=some o
def dO.refl(H:Hp):dO H H:=λ_ _ h=>h
variable{H H':Hp}{l:Addr}
def dO.free(e:dO H H')(h:H' l=Option.none):H l=Option.none:=by
 cases q:H l with
 |none=>rfl
 |some o=>rw[e l o q]at h;cases h
section
variable{O:Type}[DecidableEq O]
noncomputable def Cz(eQ:List (O×V))(k:O):Aav:=(eQ.find? λkv=>decide (kv.1=k)).map (·.2)
noncomputable def putK(eQ:List (O×V))(k:O)(v:V):List (O×V) :=
 if (eQ.any λkv=>decide (kv.1=k))=true then eQ.map (λkv=>if kv.1=k then (kv.1,v)else kv)else eQ++[(k,v)]
def da{p:O×V}{r:List (O×V)}{k:O}(e:p.1=k):Cz (p::r) k=some p.2:=by simp[Cz,acm,e]
def fI{p:O×V}{r:List (O×V)}{k:O}(e:¬ p.1=k):Cz (p::r) k=Cz r k:=by simp[Cz,acm,e]
def m7(k:O):∀eQ:List (O×V),(eQ.any λkv=>decide (kv.1=k))=(Cz eQ k).isSome
 |[]=>rfl
 |p::r=>by
  rw[List.any_cons];by_cases e:p.1=k
  .simp only[da e,decide_eq_true e,Bool.true_or,Option.isSome_some]
  .rw[fI e,decide_eq_false e,Bool.false_or];exact m7 k r
theorem cr(eQ:List (O×V))(k:O)(v:V):(putK eQ k v).length<=eQ.length+1:=by
 unfold putK;split
 .rw[aac];omega
 .rw[aav,aaG,ab4];omega
def Fo.Di{o:Aav}{u:Option Value}(r:Fo o u):o.isSome=u.isSome:=by
 cases o with
 |none=>cases u with
  |none=>rfl
  |some _=>exact(show False from r).elim
 |some _=>cases u with
  |none=>exact(show False from r).elim
  |some _=>rfl
def KV.val{eQ:List (O×V)}{vs:List (O×Value)}(r:KV eQ vs)(k:O):Fo (Cz eQ k) (afa vs k):=by
 unfold KV at r;induction r with
 |nil=>exact acu
 |@cons p q ps qs h t ih=>
  obtain⟨h1,h2⟩:=h;by_cases e:p.1=k
  .have e':q.1=k:=h1.symm.trans e;have b:afa (q::qs) k=some q.2:=by simp[afa,acm,e']
   rw[da e,b];exact h2
  .have e':¬ q.1=k:=λz=>e (h1.trans z);have b:afa (q::qs) k=afa qs k:=by simp[afa,acm,e']
   rw[fI e,b];exact ih
def KV.any{eQ:List (O×V)}{vs:List (O×Value)}(r:KV eQ vs)(k:O):(eQ.any λkv=>decide (kv.1=k))=vs.any λkv=>decide (kv.1=k):=by
 unfold KV at r;induction r with
 |nil=>rfl
 |cons h t ih=>rw[List.any_cons,List.any_cons,ih,h.1]
def KV.NJ{eQ:List (O×V)}{vs:List (O×Value)}(r:KV eQ vs)(k:O){y:V}{u:Value}(ry:RelV y u):
  KV (eQ.map λkv=>if kv.1=k then (kv.1,y)else kv) (vs.map λkv=>if kv.1=k then (kv.1,u)else kv):=by
 unfold KV at r ⊢;induction r with
 |nil=>exact .nil
 |@cons p q ps qs h t ih=>
  rw[aau,aau];refine .cons ?_ ih;obtain⟨h1,h2⟩:=h;by_cases e:p.1=k
  .rw[if_pos e,if_pos (h1.symm.trans e)];exact#[h1,ry]
  .rw[if_neg e,if_neg (λz=>e (h1.trans z))];exact#[h1,h2]
def KV.put{eQ:List (O×V)}{vs:List (O×Value)}(r:KV eQ vs)(k:O){y:V}{u:Value}(ry:RelV y u):KV (putK eQ k y) (stored vs k u):=by
 unfold putK stored;rw[r.any k];by_cases e:(vs.any λkv=>decide (kv.1=k))=true
 .rw[if_pos e,if_pos e];exact r.NJ k ry
 .rw[if_neg e,if_neg e];exact Paired.snoc r #[rfl,ry]
def KV.keys{eQ:List (O×V)}{vs:List (O×Value)}(r:KV eQ vs):eQ.map (·.1)=vs.map (·.1):=by
 unfold KV at r;induction r with
 |nil=>rfl
 |cons h t ih=>rw[aau,aau,ih,h.1]
def KV.length{eQ:List (O×V)}{vs:List (O×Value)}(r:KV eQ vs):eQ.length=vs.length:=aeA r
end
variable{u:Value}
def dX{k:Key}(r:RelV (kV k) u):(ay P w).is k u=true:=by
 cases k with
 |inl i=>obtain⟨t,e⟩:=(show ∃t,u=Value.int i t from r);subst e;exact pj P w i t
 |inr x=>obtain⟨t,e⟩:=(show ∃t,u=ad7 x t from r);subst e;exact ph P w x t
def mm:∀{ks:Aau} {us:Aae},AS (ks.map kV) us->ItemsAre (ay P w) ks us
 |[],_,r=>by rw[List.map_nil]at r;cases r;exact .nil
 |k::ks,_,r=>by
  rw[aau]at r;cases r with
  |cons h t=>exact .cons (dX h) (mm t)
abbrev KT(H:Hp):List (Aau×V)->List (Aau×Addr×Value)->Prop:=Paired λp q=>p.1=q.1/\H q.2.1=some (.tup (p.1.map kV))/\RelV p.2 q.2.2
variable{eQ:List (Aau×V)}{xs:List (Aau×Addr×Value)}
def KT.val(r:KT H eQ xs)(k:Aau):Fo (Cz eQ k) ((atKey xs k).map (·.2)):=by
 induction r with
 |nil=>exact acu
 |@cons p q ps qs h t ih=>
  obtain⟨h1,_,h2⟩:=h;by_cases e:p.1=k
  .have e':q.1=k:=h1.symm.trans e;have b:atKey (q::qs) k=some q.2:=by simp[atKey,acm,e']
   rw[da e,b];exact h2
  .have e':¬ q.1=k:=λz=>e (h1.trans z);have b:atKey (q::qs) k=atKey qs k:=by simp[atKey,acm,e']
   rw[fI e,b];exact ih
variable{y:V}
def KT.NJ(r:KT H eQ xs)(k:Aau)(ry:RelV y u):
  KT H (eQ.map λkv=>if kv.1=k then (kv.1,y)else kv) (xs.map (putAt k u)):=by
 induction r with
 |nil=>exact .nil
 |@cons p q ps qs h t ih=>
  rw[aau,aau];refine .cons ?_ ih;obtain⟨h1,h2,h3⟩:=h;unfold putAt;by_cases e:p.1=k
  .rw[if_pos e,if_pos (h1.symm.trans e)];exact#[h1,h2,ry]
  .rw[if_neg e,if_neg (λz=>e (h1.trans z))];exact#[h1,h2,h3]
variable{b:Addr}
def KT.put(r:KT H eQ xs)(k:Aau)(hb:H b=some (.tup (k.map kV)))(ry:RelV y u):
  KT H (putK eQ k y) (storedH xs k b u):=by
 have e:(eQ.any λkv=>decide (kv.1=k))=(atKey xs k).isSome:=by rw[m7,(r.val k).Di,aeM]
 unfold putK storedH;rw[e];by_cases q:(atKey xs k).isSome=true
 .rw[if_pos q,if_pos q];exact r.NJ k ry
 .rw[if_neg q,if_neg q];exact Paired.snoc r #[rfl,hb,ry]
def KT.keeps(r:KT H eQ xs)(ht:∀b ys,H b=some (.tup ys)->H' b=some (.tup ys)):KT H' eQ xs :=
 Paired.NW r λ_ _ z=>#[z.1,ht _ _ z.2.1,z.2.2]
variable{h:Heap}{a:Addr}
def wy{u:HO}(ok:D4 P w H h)(e:Rd H a u):BG P w H h a u:=e.ok ok
def fV{eQ:List (Key×V)}(ok:D4 P w H h)(e:Rd H a (.dK eQ)):eQ.length<=sizeLine/\(a==acJ)=false/\∃vs,KV eQ vs/\h.DictOf (ay P w) a vs :=
 show BG P w H h a (.dK eQ)from wy ok e
def ku{eQ:List (Key×V)}(ok:D4 P w H h)(e:H a=some (.dK eQ)):eQ.length<=sizeLine/\(a==acJ)=false/\∃vs,KV eQ vs/\h.DictOf (ay P w) a vs:=fV ok (.inl e)
def gY{ks:Aau}(ok:D4 P w H h)(e:H a=some (.tup (ks.map kV))):(afd (ay P w)).is h ks a:=by
 obtain⟨_,gE,r,o,h1,h2,n,h3⟩:=(show BG P w H h a (.tup (ks.map kV))from ok a _ e)
 exact#[o,gE.toArray,n,h1,h2,h3,by simpa using mm r]
def ir(ok:D4 P w H h)(e:Rd H a (.dT eQ)):eQ.length<=sizeLine/\(a==acJ)=false /\
  ∃xs,KT H eQ xs/\h.DictOfH (afd (ay P w)) a xs:=by
 obtain⟨z,y,xs,r,o,es,ep,h1,h2,h3,h4,h5⟩:=(show BG P w H h a (.dT eQ)from wy ok e)
 refine#[z,y,xs,r,o,es,ep,h1,h2,h3,h4,λx hx=>?_,h5];have all:∀{l:List (Aau×V)} {m:List (Aau×Addr×Value)},KT H l m->∀x∈m,(afd (ay P w)).is h x.1 x.2.1:=by
  intro l m q;induction q with
  |nil=>intro x hx;exact nomatch hx
  |@cons p q ps qs hq t ih=>
   intro x hx;rcases List.mem_cons.mp hx with e|hx
   .subst e;exact gY ok (by rw[<- hq.1];exact hq.2.1)
   .exact ih x hx
 exact all r x hx
def Bj(ok:D4 P w H h)(e:H a=some (.dT eQ)):eQ.length<=sizeLine/\(a==acJ)=false /\
  ∃xs,KT H eQ xs/\h.DictOfH (afd (ay P w)) a xs:=ir ok (.inl e)
def Hm(H:Hp)(a:Addr)(y:V)(r:Aav):Prop :=
 (∃eQ k,Rd H a (.dK eQ)/\y=kV k/\r=Cz eQ k)\/∃eQ k b,Rd H a (.dT eQ)/\y=.ref b/\H b=some (.tup (k.map kV))/\r=Cz eQ k
def Ml(H:Hp)(a:Addr)(y v:V)(H':Hp):Prop :=
 (∃eQ k,H a=some (.dK eQ)/\y=kV k/\eQ.length<sizeLine/\H'=upd H a (.dK (putK eQ k v))) \/
 ∃eQ k b,H a=some (.dT eQ)/\y=.ref b/\H b=some (.tup (k.map kV))/\eQ.length<sizeLine/\H'=upd H a (.dT (putK eQ k v))
def SU{eQ:List (Key×V)}{k:Key}(e:H a=some (.dK eQ)):Hm H a (kV k) (Cz eQ k):=.inl #[eQ,k,.inl e,rfl,rfl]
variable{v:V}
def Yn{eQ:List (Key×V)}{k:Key}(e:H a=some (.dK eQ))(hl:eQ.length<sizeLine):Ml H a (kV k) v (upd H a (.dK (putK eQ k v))):=.inl #[eQ,k,e,rfl,hl,rfl]
variable{pins:Aac}{U:St}{s:Shared}{r:Value}{o:Aav}{A:Around}{E:Aab}
def Inv.Xv(I:Inv X pins U H s):acJ<s.heap.objs.size:=by have h:aaR<s.heap.objs.size:=(I.mod.glob.keeps I.bk).lt;exact Nat.lt_trans #[2] h
variable{Q:Aab}
def mC(hu:A.units+1<cLine)(I:Inv X pins U H s)(g:Hm H a y (some v))(ry:RelV y u)(h:∀w' s',Inv X pins U H s'->RelV v w'->Q w' s'):
  wpAny (model X.prog X.w) A (ad6 (.ref a) u) Q E s:=by
 rcases g with ⟨eQ,k,e,ey,l⟩|⟨eQ,k,b,e,ey,eb,l⟩
 .subst ey;obtain⟨z,hd,vs,rel,dd⟩:=fV I.Bv e;obtain⟨w',hw,Fq⟩:=Fo.some_of (v:=v) (o:=afa vs k) (by rw[l];exact rel.val k);exact wpAny_getItem_of (dX ry) dd.mapOf hw (h w' _ (I.tok _) Fq)
 .subst ey;cases (show u=abe b from ry);obtain⟨z,hd,xs,rel,dd⟩:=ir I.Bv e;obtain⟨w',hw,Fq⟩:=Fo.some_of (v:=v) (o:=(atKey xs k).map (·.2)) (by rw[l];exact rel.val k);obtain⟨p,hp,UR⟩:=Option.map_eq_some_iff.mp hw;refine wpAny_getItem_heap (adA hu) (gY I.Bv eb) dd hp ?_;rw[UR];exact h w' _ (I.tok _) Fq
def Bn(hu:A.units+1<cLine)(I:Inv X pins U H s)(g:Hm H a y o)(ry:RelV y u)(h:∀s',Inv X pins U H s'->Q (.bool o.isSome) s'):
  wpAny (model X.prog X.w) A (aa4 .In u (.ref a)) Q E s:=by
 rcases g with ⟨eQ,k,e,ey,l⟩|⟨eQ,k,b,e,ey,eb,l⟩
 .subst ey;obtain⟨z,hd,vs,rel,dd⟩:=fV I.Bv e;refine wpAny_in_of (dX ry) hd dd.mapOf ?_;rw[<- (rel.val k).Di,<- l];exact h _ (I.tok _)
 .subst ey;cases (show u=abe b from ry);obtain⟨z,hd,xs,rel,dd⟩:=ir I.Bv e;refine wpAny_in_heap (adA hu) (gY I.Bv eb) hd dd ?_;have q:=(rel.val k).Di;rw[aeM]at q;rw[<- q,<- l];exact h _ (I.tok _)
def yD(hu:A.units+1<cLine)(I:Inv X pins U H s)(g:Hm H a y o)(ry:RelV y u)(h:∀s',Inv X pins U H s'->Q (.bool (!o.isSome)) s'):
  wpAny (model X.prog X.w) A (aa4 .NotIn u (.ref a)) Q E s:=by
 rcases g with ⟨eQ,k,e,ey,l⟩|⟨eQ,k,b,e,ey,eb,l⟩
 .subst ey;obtain⟨z,hd,vs,rel,dd⟩:=fV I.Bv e;refine wpAny_notIn_of (dX ry) hd dd.mapOf ?_;rw[<- (rel.val k).Di,<- l];exact h _ (I.tok _)
 .subst ey;cases (show u=abe b from ry);obtain⟨z,hd,xs,rel,dd⟩:=ir I.Bv e;refine wpAny_notIn_heap (adA hu) (gY I.Bv eb) hd dd ?_;have q:=(rel.val k).Di;rw[aeM]at q;rw[<- q,<- l];exact h _ (I.tok _)
variable{h':Heap}{t':Nat}
def iu{ob:HO}(I:Inv X pins U H s)(mu:Sj (H a))(hs:abV a s.heap h')(he:∃q,h'.get? a=some q)(new:BG X.prog X.w (upd H a ob) h' a ob):
  Inv X pins U (upd H a ob) {s with heap:=h',toks:=t'} :=
 I.write (x:=a) (e:=a) mu (.inl rfl) (λb q hb z=>(hs.2 b hb).trans z) he new
variable{vs:List (Key×Value)}
def oG{eQ:List (Key×V)}(z:eQ.length<=sizeLine)(hd:(a==acJ)=false)(rel:KV eQ vs)(dd:h'.DictOf (ay P w) a vs):
  BG P w H' h' a (.dK eQ):=#[z,hd,vs,rel,dd]
theorem uk{Q:Unit->Shared->Prop}(hu:A.units+1<cLine)(I:Inv X pins U H s)(g:Ml H a y v H')(ry:RelV y u)(rv:RelV v r)(h:∀s',Inv X pins U H' s'->Q () s'):
  wpAny (model X.prog X.w) A (setItem (.ref a) u r) Q E s:=by
 rcases g with ⟨eQ,k,e,ey,l,eH⟩|⟨eQ,k,b,e,ey,eb,l,eH⟩
 .subst ey eH;obtain⟨z,hd,vs,rel,dd⟩:=ku I.Bv e;have hz:vs.length<=sizeLine:=by rw[<- rel.length];exact z
  have hl:(putK eQ k v).length<=sizeLine:=by have:=cr eQ k v;omega
  refine wpAny_setItem_pairs (hsz:=hz) (dX ry) dd λh' LB hs=>h _ ?_;have he:∃q,h'.get? a=some q:=let #[q,_,_,hq,_]:=LB;#[q,hq]
  exact iu I (by rw[e];exact acu) hs he (oG hl hd (rel.put k rv) LB)
 .subst ey eH;cases (show u=abe b from ry);obtain⟨z,hd,xs,rel,dd⟩:=Bj I.Bv e;have hz:xs.length<=sizeLine:=by rw[<- aeA rel];exact z
  have hl:(putK eQ k v).length<=sizeLine:=by have:=cr eQ k v;omega
  refine wpAny_setItem_heap (hsz:=hz) (adA hu) (gY I.Bv eb) dd λh' LB hs=>h _ ?_;obtain⟨q,es,ep,hq,h2,h3,h4,_,h5⟩:=LB;refine iu I (by rw[e];exact acu) hs #[q,hq] #[hl,hd,_,(rel.put k eb rv).keeps λc ys ec=>?_,q,es,ep,hq,h2,h3,h4,h5];rw[af (wB ec e (λz=>nomatch z))];exact ec
variable{eQ:List (Key×V)}{k:Key}
theorem Bk(I:Inv X pins U H s)(e:Rd H a (.dK eQ))(h:∀t s',Inv X pins U H s'->Q (.int eQ.length t) s'):wpAny (model X.prog X.w) A (call (.builtin "len") [.ref a]) Q E s:=by obtain⟨z,hd,vs,rel,dd⟩:=fV I.Bv e;refine call_len_dict hd dd (by rw[<- rel.length];rw[aaJ]at z;omega) ?_;rw[<- rel.length];exact h _ _ (I.tok _)
def Mg(i:Expr):Prop:=∀ov iv,afe i false ov iv=operate [ov,iv] (ad6 ov iv)
variable{prog:aaD}{env:Env}
def wQ{value slice:Expr}{T id:String}
  (hl:typeLookup (.type T) "__getitem__" = pure (some (.builtin id))) (hs:Mg slice)
  (h:wpAny (model prog w) A (eval value env) (λo sc=>wpAny (model prog w) A (eval slice env) (λi st=>st.TypeIs o T/\wpAny (model prog w) A (ad6 o i) Q E st) E sc) E s) :
  wpAny (model prog w) A (eval (.Subscript value slice pos) env) Q E s:=by
 refine Subscript_ (aay h (λo sc h₁=>aay h₁ (λi st h₂=>?_) λ_ _ x=>x) λ_ _ x=>x);obtain⟨hT,h₂⟩:=h₂;unfold subscriptTail;refine aaa ?_;rw[getitemInPython_of_ne hT.not_modules];refine aaa (wpAny_specialOf hT hl ?_);have fin:wpAny (model prog w) A (afe slice false o i) (λr s3=>wpAny (model prog w) A (letTemporaryGo value o r >>= λ_=>pure r) Q E s3) E st:=by rw[hs o i];exact wpAny_operating (aay h₂ (λr s3 h₃=>aaa (wpAny_letTemporaryGo (aae h₃))) λ_ _ x=>x)
 first
  |exact aae (aaa fin)
  |exact aaa (aae (aaa fin))
  |exact aaa fin
def jc(I:Inv X pins U H s)(g:Hm H a y o):s.TypeIs (.ref a) "dict" :=by
 rcases g with ⟨eQ,k,e,_,_⟩|⟨eQ,k,b,e,_,_,_⟩
 .obtain⟨_,_,vs,_,dd⟩:=fV I.Bv e;exact dd.typeIs
 .obtain⟨_,_,xs,_,dd⟩:=ir I.Bv e;exact dd.typeIs
def Qs(td ty:TE):TE:=λU H Q=>td U H λx H1=>ty U H1 λy H2=>∃a v,x=.ref a/\Hm H2 a y (some v)/\Q v H2
variable{o i e value:Expr}{pos' EL:Pos}{td ty tv:TE}
def xg(hu:X.A.units+1<cLine)(ho:PE X o td)(hi:PE X i ty)(hs:Mg i):PE X (.Subscript o i pos) (Qs td ty):=by intro pins s U H Q I h;refine wQ PySem.F.slot_dict_getitem.lookup hs (BZ (ho pins s U H _ I h) λu s1 #[x,H1,I1,rx,q1]=>BZ (hi pins s1 U H1 _ I1 q1) λiv s2 #[y,H2,I2,ry,a,v,ex,g,q2]=>?_);subst ex;obtain rfl:u=abe a:=rx;exact#[jc I2 g,mC hu I2 g ry λw' s3 I3 Fq=>#[v,H2,I3,Fq,q2]]
def oH(h:Heap)(hb:acJ<h.objs.size):BG P w H (h.push {cls:=.type "dict",data:=.dict #v[]}) h.objs.size (.dK []) :=
 #[aba _,beq_eq_false_iff_ne.mpr (abE (aas hb)),[],.nil,Heap.DictOf.new h]
def GZ:List (TE×TE)->St->Hp->(List (V×V)->Hp->Prop)->Prop
 |[],_,H,Q=>Q [] H
 |(tk,tv)::r,U,H,Q=>tk U H λx H1=>tv U H1 λy H2=>GZ r U H2 λps H3=>Q ((x,y)::ps) H3
abbrev VV:List (V×V)->List (Value×Value)->Prop:=Paired λp q=>RelV p.1 q.1/\RelV p.2 q.2
def Sg(X:Cx)(pos:Pos)(keys:List (Option Expr))(values:Aak)(IW:List (TE×TE)):Prop :=
 ∀(pins:Aac) (s:Shared) (U:St) (H:Hp) (Q:List (V×V)->Hp->Prop),Inv X pins U H s->GZ IW U H Q ->
  wpAny (model X.prog X.w) X.A (evalPairs (pairTrees keys values X.env pos)) (λvs s'=>∃ps H',Inv X pins U H' s'/\VV ps vs/\Q ps H') X.xe s
def pW:Sg X pos [] [] []:=λpins s U H Q I h=>pairTrees_nil_walk #[[],H,I,.nil,h]
def du{k v:Expr}{ks:List (Option Expr)}{vs:Aak}{tk:TE}{IW:List (TE×TE)}(hk:PE X k tk)(hv:PE X v tv)(hr:Sg X pos ks vs IW):
  Sg X pos (some k::ks) (v::vs) ((tk,tv)::IW):=λpins s U H Q I h=>
 pairTrees_cons_walk (BZ (hk pins s U H _ I h) λu s1 #[x,H1,I1,rx,q1]=>BZ (hv pins s1 U H1 _ I1 q1) λw2 s2 #[y,H2,I2,ry,q2]=>BZ (hr pins s2 U H2 _ I2 q2) λws s3 #[ps,H3,I3,rel,q3]=>#[(x,y)::ps,H3,I3,.cons #[rx,ry] rel,q3])
noncomputable def El(eQ more:List (Key×V)):List (Key×V):=more.foldl (λacc kv=>putK acc kv.1 kv.2) eQ
def KV.merge:∀{more:List (Key×V)} {rs:List (Key×Value)} {eQ:List (Key×V)} {vs:List (Key×Value)},KV more rs->KV eQ vs->KV (El eQ more) (merged vs rs):=by
 intro more rs eQ vs r;unfold KV at r;induction r generalizing eQ vs with
 |nil=>intro q;exact q
 |@cons p q ps qs h t ih=>
  intro r0;have e:KV (putK eQ p.1 p.2) (stored vs q.1 q.2):=by have:=r0.put p.1 h.2;rw[<- h.1];exact this
  exact ih e
theorem gy:∀(more eQ:List (Key×V)),(El eQ more).length<=eQ.length+more.length
 |[],eQ=>by show eQ.length<=eQ.length+0;omega
 |p::r,eQ=>by have h1:=gy r (putK eQ p.1 p.2);have h2:=cr eQ p.1 p.2;show (El (putK eQ p.1 p.2) r).length<=_;rw[aaG];omega
def kD{P:aaD}{w:World}:∀{eQ:List (Key×V)} {ws:List (Value×Value)},VV (eQ.map λkv=>(kV kv.1,kv.2)) ws->∃rs,Carries (ay P w) ws rs/\KV eQ rs
 |[],_,r=>by rw[List.map_nil]at r;cases r;exact#[[],acu,.nil]
 |p::eQ,_,r=>by
  rw[aau]at r;cases r with
  |@cons a b as bs h t=>obtain⟨rs,c,q⟩:=kD (P:=P) (w:=w) t;obtain⟨b1,b2⟩:=b;exact#[(p.1,b2)::rs,#[dX h.1,rfl,c],.cons #[rfl,h.2] q]
def Qr(IW:List (TE×TE)):TE:=λU H Q=>∀p,H p=none->GZ IW U (upd H p (.dK [])) λps H2=>H2 p=some (.dK [])/\∃eQ:List (Key×V),ps=eQ.map (λkv=>(kV kv.1,kv.2))/\eQ.length<=15/\Q (.ref p) (upd H2 p (.dK (El [] eQ)))
theorem p0{keys:List (Option Expr)}{values:Aak}{IW:List (TE×TE)}(h:Sg X pos keys values IW)(Oj:keys.all (·.isSome)=true)(hl:keys.length=values.length)(h0:keys≠[])
  (RU:keys.length<=15):PE X (.Dict keys values pos) (Qr IW):=by
 intro pins s U H Q I q;have hn:=I.Bv.fresh (aaj s.heap.objs.size);have I1:=I.laid (a:=s.heap.objs.size) (o:=.dK []) (h':=s.heap.push {cls:=.type "dict",data:=.dict #v[]}) (t':=s.toks) (λ_ _ q=>aad _ q) (aaj _) (oH s.heap I.Xv);refine wpAny_Dict_walk (knd:=ay X.prog X.w) Oj hl h0 RU (BZ (h pins _ U _ _ I1 (q _ hn)) λws s2 #[ps,H2,I2,rel,e,eQ,ep,lk,q2]=>?_);subst ep;obtain⟨rs,c,rk⟩:=kD (P:=X.prog) (w:=X.w) rel;obtain⟨z,hd,Qd,r0,dd⟩:=ku I2.Bv e;cases r0;refine#[rs,c,dd,λh' LB hs=>#[.ref s.heap.objs.size,_,?_,rfl,q2]];have hz:(El [] eQ).length<=sizeLine:=by have h1:=gy eQ [];rw[ab4]at h1;rw[aaJ];omega
 have he:∃q,h'.get? s.heap.objs.size=some q:=let #[q,_,_,hq,_]:=LB;#[q,hq]
 exact iu I2 (by rw[e];exact acu) hs he (oG hz hd (rk.merge .nil) LB)
def IsD(H:Hp)(a:Addr):Prop:=(∃eQ,Rd H a (.dK eQ))\/∃eQ,Rd H a (.dT eQ)
def zP(I:Inv X pins U H s)(d:IsD H a):
  s.TypeIs (.ref a) "dict" /\ (∀b,abe a=.ref b->∃ob,s.heap.get? b=some ob/\ob.dict=none)/\(a==acJ)=false:=by
 rcases d with ⟨eQ,e⟩|⟨eQ,e⟩
 .obtain⟨_,hd,vs,_,dd⟩:=fV I.Bv e;refine#[dd.typeIs,λb q=>?_,hd];cases q;obtain⟨ob,_,_,h1,h2,_⟩:=dd;exact#[ob,h1,h2.2.1]
 .obtain⟨_,hd,xs,_,dd⟩:=ir I.Bv e;refine#[dd.typeIs,λb q=>?_,hd];cases q;obtain⟨ob,_,_,h1,h2,_⟩:=dd;exact#[ob,h1,h2.2.1]
variable{d:V}{o:Aav}
variable{o f:Expr}{apos BQ:Pos}{tx:TE}
def ux:BM X (.builtin "len") (λxs H Q=>∃a eQ,xs=[V.ref a]/\H a=some (.dK eQ)/\Q (.int eQ.length) H):=by intro pins s U H xs us Q I r h;obtain⟨a,eQ,rfl,ha,q⟩:=h;obtain⟨u,rfl,ru⟩:=vals1 r;cases ru;exact Bk I (.inl ha) λt s' I'=>#[.int eQ.length,H,I',#[t,rfl],q]
section
variable{O:Type}[DecidableEq O]
end
end L2
set_option maxHeartbeats 4000000
namespace L2
open PySem PySem.Spec PyProof.Rows
noncomputable def Dn(cells:List (Str×Addr)):List (Str×adD)->List (Str×Addr)->List (Str×Addr)
 |[],acc=>acc
 |(n,k)::r,acc=>if k==.free then Dn cells r ((n,(cells.lookup n).getD 0)::acc)else Dn cells r acc
variable{env:Env}
def kA:∀(names:List (Str×adD)) (acc:List (Str×Addr)),(∀x∈names,x.2=.free->∃c,env.cells.lookup x.1=some c) ->
  (forIn names acc λ(x:Str×adD) (cs:List (Str×Addr))=>match x with
   |(name,kind)=>if (kind==abw)=true then (do let c <- cellOf env name;pure (aec ((name,c)::cs)))else pure (aec cs):Sem (List (Str×Addr)))=pure (Dn env.cells names acc)
 |[],acc,_=>rfl
 |(n,k)::r,acc,h=>by
  have hr:=λacc=>kA r acc λx hx=>h x (aam _ hx);rw[afv];unfold Dn;by_cases hk:(k==abw)=true
  .obtain⟨c,hc⟩:=h _ aan #[1];have Ft  := hc;have e:cellOf env n=pure c:=by unfold cellOf;rw[Ft]
   rw[if_pos hk];dsimp only;rw[if_pos hk,e,pure_bind];rw[Ft];exact hr _
  .rw[if_neg hk];dsimp only;rw[if_neg hk];exact hr acc
variable{scope:Scope}
def cL(h:∀x∈scope.names,x.2=.free->∃c,env.cells.lookup x.1=some c):aeH scope env=pure (Dn env.cells scope.names []):=by have e:=kA scope.names [] h;unfold aeH;simp only[bind_pure];exact e
variable{x:Str}
def ck{cells:List (Str×Addr)}{c:Addr}:∀{names:List (Str×adD)} {acc:List (Str×Addr)},(∀y∈names,y.2=.free->∃c,cells.lookup y.1=some c)->(∀c,acc.lookup x=some c->cells.lookup x=some c) ->
  (Dn cells names acc).lookup x=some c->cells.lookup x=some c
 |[],acc,_,ha,e=>ha c e
 |(n,k)::r,acc,h,ha,e=>by
  have hr  := λy hy=>h y (aam _ hy);unfold Dn at e;split at e
  .rename_i hk;refine ck hr (λc' e'=>?_) e;rw[abC]at e';split at e'
   .rename_i hx;obtain⟨c0,hc⟩:=h _ aan #[1];have Ft  := hc;rw[Ft]at e';have:x=n:=by simp_all
    rw[this,Ft];exact e'
   .exact ha c' e'
  .exact ck hr ha e
def fX{cells:List (Str×Addr)}:∀{names:List (Str×adD)} {acc:List (Str×Addr)},((x,abw)∈names\/∃c,acc.lookup x=some c)->∃c,(Dn cells names acc).lookup x=some c
 |[],acc,h=>by
  rcases h with h|h
  .simp at h
  .exact h
 |(n,k)::r,acc,h=>by
  unfold Dn;split
  .refine fX ?_;rcases h with h|⟨c,h⟩
   .rcases List.mem_cons.mp h with e|e
    .cases e;exact .inr #[_,by simp;rfl]
    .exact .inl e
   .refine .inr ?_;rw[abC];split
    .exact#[_,rfl]
    .exact#[c,h]
  .rename_i hk;refine fX ?_;rcases h with h|h
   .rcases List.mem_cons.mp h with e|e
    .cases e;exact absurd rfl hk
    .exact .inl e
   .exact .inr h
noncomputable def iN(X:Cx)(scope:Scope)(N:Aaa)(C:Addr)(s0:Shared)(Ha:Hp)(ex:Aaj)(pn:Aac):Cx :=
 {X with N:=N,s0:=s0,Ha:=Ha,env:=aev scope (Dn X.env.cells scope.names []) C X.env,outer:=X.stack,stack:=X.stack,ex:=ex,fn:=λ_=>false,pn:=pn,xe:=λ_ _=>False}
noncomputable def BL(js:Aah)(U:St):St:=js.map λo=>o.bind λj=>(U[j]?).getD none
noncomputable def Cw(M:Aaa)(scope:Scope)(N:Aaa)(js:Aah):Bool :=
 decide (N.length=js.length) && (N.zip js).all λp=>match p.2 with
  |none=>true
  |some j=>decide (M[j]?=some p.1) && (decide (scope.names.lookup p.1=some .free) || decide (scope.names.lookup p.1=none))
noncomputable def DI(env:Env)(scope:Scope):Bool :=
 scope.names.all λx=>match x.2 with
  |.free=>decide (env.kindOf x.1=some .cell) || decide (env.kindOf x.1=some .free)
  |.cell=>false
  |.local=>decide (scope.names.lookup x.1=some .local)
  |_=>true
def jZ{scope:Scope}{k:adD}:∀{names:List (Str×adD)},(∀y∈names,y.2≠.cell)->(k=.cell\/k=.free) ->
  (names.map λ(n,k)=>if (k==abw && env.scope.kind==.function && env.kindOf n==some .cell)then (n,acZ)else (n,k)).lookup x=some k->(x,abw)∈names:=by
 intro names hn hk h;have hm:=ab3 h;obtain⟨⟨n,k0⟩,h0,e⟩:=List.mem_map.mp hm;dsimp only at e;split at e
 .rename_i hc;cases e;simp only[aaS]at hc;have  :=by simpa using hc.1.1
  subst this;exact h0
 .cases e;rcases hk with e|e
  .exact absurd e (hn _ h0)
  .subst e;exact h0
def gU{env:Env}{x:Str}:∀{names:List (Str×adD)},names.lookup x=some .free ->
  (names.map λ(n,k)=>if (k==abw && env.scope.kind==.function && env.kindOf n==some .cell)then (n,acZ)else (n,k)).lookup x=some .cell \/
  (names.map λ(n,k)=>if (k==abw && env.scope.kind==.function && env.kindOf n==some .cell)then (n,acZ)else (n,k)).lookup x=some .free
 |[],h=>by simp at h
 |(n,k)::r,h=>by
  have ih:=@gU env x r;show adY x ((if (k==abw && env.scope.kind==.function && env.kindOf n==some .cell)=true then (n,acZ)else (n,k))::_)=_\/adY x ((if (k==abw && env.scope.kind==.function && env.kindOf n==some .cell)=true then (n,acZ)else (n,k))::_)=_;cases hx:x==n with
  |true=>
   simp only[abC,hx]at h;cases h;by_cases hc:(abw==abw && env.scope.kind==.function && env.kindOf n==some .cell)=true
   .rw[if_pos hc];left;simp only[abC,hx]
   .rw[if_neg hc];right;simp only[abC,hx]
  |false=>
   simp only[abC,hx]at h;by_cases hc:(k==abw && env.scope.kind==.function && env.kindOf n==some .cell)=true
   .rw[if_pos hc];simp only[abC,hx];exact ih h
   .rw[if_neg hc];simp only[abC,hx];exact ih h
variable{X:Cx}{pins:Aac}{U:St}{H:Hp}{s:Shared}
structure Mf(env:Env)(scope:Scope):Prop where
 fr:∀x∈scope.names,x.2=.free->env.kindOf x.1=some .cell\/env.kindOf x.1=some .free
 nc:∀x∈scope.names,x.2≠.cell
 lc:∀x∈scope.names,x.2=.local->scope.names.lookup x.1=some .local
def kN(h:DI env scope=true):Mf env scope:=by
 have q:=List.all_eq_true.mp h;refine#[λx hx e=>?_,λx hx e=>?_,λx hx e=>?_]
 .have:=q x hx;rw[e]at this;simp only[aee,decide_eq_true_eq]at this;exact this
 .have:=q x hx;rw[e]at this;cases this
 .have:=q x hx;rw[e]at this;simpa using this
def Mf.cells(h:Mf X.env scope)(ok:X.Ok):∀x∈scope.names,x.2=.free->∃c,X.env.cells.lookup x.1=some c:=λx hx e=>ok.has x.1 (h.fr x hx e)
structure Nf(M:Aaa)(scope:Scope)(N:Aaa)(js:Aah):Prop where
 len:N.length=js.length
 at':∀(i:Nat) (x:Str) (j:Nat),N[i]?=some x->js[i]?=some (some j)->M[j]?=some x/\(scope.names.lookup x=some .free\/scope.names.lookup x=none)
variable{N:Aaa}{js:Aah}
def jK{M:Aaa}(h:Cw M scope N js=true):Nf M scope N js:=by
 unfold Cw at h;rw[aaS]at h;refine#[of_decide_eq_true h.1,λi x j hx hj=>?_];have hm:(x,some j)∈N.zip js:=by refine aaB (i:=i) ?_;rw[aa5];exact#[hx,hj]
 have q:=List.all_eq_true.mp h.2 _ hm;simp only[aaS,aee,decide_eq_true_eq]at q;exact q
def gS{env:Env}{x:Str}:∀{names:List (Str×adD)},names.lookup x=none ->
  (names.map λ(n,k)=>if (k==abw && env.scope.kind==.function && env.kindOf n==some .cell)then (n,acZ)else (n,k)).lookup x=none
 |[],h=>rfl
 |(n,k)::r,h=>by
  have ih:=@gS env x r;show adY x ((if (k==abw && env.scope.kind==.function && env.kindOf n==some .cell)=true then (n,acZ)else (n,k))::_)=_;cases hx:x==n with
  |true=>simp only[abC,hx]at h;cases h
  |false=>
   simp only[abC,hx]at h;by_cases hc:(k==abw && env.scope.kind==.function && env.kindOf n==some .cell)=true
   .rw[if_pos hc];simp only[abC,hx];exact ih h
   .rw[if_neg hc];simp only[abC,hx];exact ih h
variable{C:Addr}{fp:Aaj}
def jE{h₁:Heap}{tk:Nat}(I:Inv X pins U H s)(Dq:Mf X.env scope)(BP:Nf X.N scope N js)(BA:scope.kind=.function)
  (hf:∀b∈fp,Dz X pins H b) (Y7:∀b∈fp,b<s.heap.objs.size) (hC:C=s.heap.objs.size) (keep:∀b o,s.heap.get? b=some o->h₁.get? b=some o) (Lp:h₁.Ns C λ_=>none) :
  Inv (iN X scope N C s H fp (X.pn++pins)) [] (BL js U) H {s with heap:=h₁,toks:=tk}:=by
 have JH:=Dq.cells I.ok;have Pg:∀x c,(Dn X.env.cells scope.names []).lookup x=some c->X.env.cells.lookup x=some c:=λx c e=>ck JH (λc e=>by simp at e) e;have OY:∀b o,s.heap.get? b=some o->b≠C:=λb o e=>by rw[hC];exact aas (aah e)
 refine#[#[I.ok.mod,BA,I.ok.glob,I.ok.blt,aeW hC.symm,λx y c e1 e2=>?_,λx hx=>?_,λx c e=>?_,I.ok.hd,I.ok.frames,.inl rfl,λb hb=>#[?_,λx c e=>?_],I.bs,aaX I.ok.MY I.sz,λb o e hb=>?_,λb hb z=>?_,I.stack,I.I0],
  rfl,I.bare,Un.kept keep,#[_,Lp,λi x v h1 h2 h3=>?_],λx c e=>?_,I.Bv.fresh (aeW hC.symm),λx c e=>I.Dl x c (Pg x c e),λp hp=>?_,I.Bv.kept keep,?_]
 .exact I.ok.inj x y c (Pg x c e1) (Pg y c e2)
 .have hm:(x,abw)∈scope.names:=by
   rcases hx with hx|hx
   .exact jZ (scope:=scope) Dq.nc (.inl rfl) hx
   .exact jZ (scope:=scope) Dq.nc (.inr rfl) hx
  exact fX (.inl hm)
 .exact absurd e (by intro z;cases z)
 .rw[hC];exact aas (Y7 b hb)
 .exact(hf b hb).2.2.2.2.1 x c (Pg x c e)
 .obtain⟨_,_,_,q,_⟩:=hf b hb;rcases q with q|q
  .exact I.ok.Kk b o e q
  .exact absurd (aaz (aah (I.ok.bs b o e).1) q) (abv _)
 .obtain⟨_,q1,q2,_⟩:=hf b hb;rcases List.mem_cons.mp (I.Ej b z)with e|e
  .exact q1 e
  .exact q2 e
 .unfold BL at h2;rw[aal]at h2;cases ej:js[i]? with
  |none=>rw[ej]at h2;cases h2
  |some o=>
   cases o with
   |none=>rw[ej]at h2;cases h2
   |some j=>
    rw[ej]at h2;have MS  :=by simpa using h2
    have hh:U[j]?=some (some v):=by
     cases es:U[j]? with
     |none=>rw[es]at MS;cases MS
     |some w'=>rw[es]at MS;exact congrArg some MS
    obtain⟨hM,Ls⟩:=BP.at' i x j h1 ej;rcases Ls with Ls|Ls;case inr=>
     have hn:=gS (env:=X.env) Ls;rcases h3 with h3|h3|h3
     .exact absurd (hn.symm.trans h3) #[0]
     .exact absurd (hn.symm.trans h3) #[0]
     .exact absurd (hn.symm.trans h3) #[0]
    have LY:=ab3 Ls;have Xd:=Dq.fr _ LY rfl;have UC:Hq X.env.scope x:=Xd.elim (λz=>.inr (.inl z)) λz=>.inr (.inr z);obtain⟨m,hn,hl⟩:=I.loc;obtain⟨u,ru,lk⟩:=hl j x v hM hh UC;refine#[u,ru,?_];rcases lk with ⟨k,_⟩|⟨k,c,ec,z⟩
    .rcases Xd with q|q
     .rw[q]at k;cases k
     .rw[q]at k;cases k
    .obtain⟨c',Ft⟩:=fX (.inl LY);have e2:=Pg x c' Ft;rw[ec]at e2;cases e2;refine .inr #[gU Ls,c,Ft,?_];obtain⟨o,ho,hd⟩:=z;exact#[o,keep _ _ ho,hd]
 .obtain⟨v,o,ho,hd⟩:=I.cell x c (Pg x c e);exact#[v,o,keep _ _ ho,hd]
 .have LX  :=by
   have UR  := hp
   rwa [aa9]at UR
  obtain⟨e,n,ne,nf,d⟩:=I.pin p LX;refine#[keep _ _ e,n,OY _ _ e,λz=>?_,d];rcases List.mem_cons.mp (I.Ej p.1 z)with q|q
  .exact ne q
  .exact nf q
 .unfold BL;rw[aac];exact BP.len.symm
variable{H':Hp}{s':Shared}
def jF{sa:St}(I:Inv X pins U H s)(J:Inv (iN X scope N C s H fp (X.pn++pins)) [] sa H' s')(hf:∀b∈fp,Dz X pins H b):Inv X pins U H' s' :=
 I.R6 J.os J.base J.Bv J.bare λb hb=>let #[_,q1,_,q3,q4,q5]:=hf b hb;#[q3,q1,q4,q5]
def DC(js:Aah)(g:TG):Prop:=∀x U H Q,g x U H Q->g x U H λsa H'=>Q sa H'/\sa.length=U.length/\∀(k j:Nat),js[k]?=some (some j)->sa[k]?=U[k]?
def Sv(js:Aah)(g:JU):Prop:=∀x U H Q,g x U H Q->g x U H λsa H'=>Q sa H'/\sa.length=U.length/\∀(k j:Nat),js[k]?=some (some j)->sa[k]?=U[k]?
variable{i:Nat}
def lF(h:autoParam (js[i]?=some none) oR):DC js (B8 i):=by intro x U H Q hq;refine#[hq,#[0],λk j hk=>?_];rw[aaw];rintro rfl;rw[h]at hk;cases hk
def zS:Sv js Ou:=by rintro x U H Q ⟨e,hq⟩;exact#[e,hq,rfl,λ_ _ _=>rfl]
variable{t:TG}{u:JU}
def xZ(h1:DC js t)(h2:Sv js u)(mono:∀x U H Q Q',(∀a b,Q a b->Q' a b)->t x U H Q->t x U H Q')(Q4:∀x U H Q Q',(∀a b,Q a b->Q' a b)->u x U H Q->u x U H Q'):Sv js (HG t u):=by rintro x U H Q ⟨v,r,e,hq⟩;refine#[v,r,e,mono _ _ _ _ _ (λss H1 hh=>?_) (h1 v U H _ hq)];obtain⟨a,l1,k1⟩:=hh;exact Q4 _ _ _ _ _ (λsl H2 #[b,l2,k2]=>#[b,l2.trans l1,λk j hk=>(k2 k j hk).trans (k1 k j hk)]) (h2 r ss H1 _ a)
variable{K:aaf}{n:Nat}
def zR{t:JU}(h:Sv js t):DC js (Oq K n t):=by rintro x U H Q ⟨a,xs,e,hs,hl,hq⟩;exact#[a,xs,e,hs,hl,h xs U H Q hq]
def fw:∀x U H (Q Q':St->Hp->Prop),(∀a b,Q a b->Q' a b)->B8 i x U H Q->B8 i x U H Q':=λ_ _ _ _ _ h q=>h _ _ q
def iq(m1:∀x U H (Q Q':St->Hp->Prop),(∀a b,Q a b->Q' a b)->t x U H Q->t x U H Q')(m2:∀x U H (Q Q':St->Hp->Prop),(∀a b,Q a b->Q' a b)->u x U H Q->u x U H Q'):
  ∀x U H (Q Q':St->Hp->Prop),(∀a b,Q a b->Q' a b)->HG t u x U H Q->HG t u x U H Q':=λ_ _ _ _ _ h #[v,r,e,q]=>#[v,r,e,m1 _ _ _ _ _ (λ_ _=>m2 _ _ _ _ _ h) q]
def PF(X:Cx)(ifs:Aak)(t:TT):Prop :=
 ∀(pins:Aac) (s:Shared) (U:St) (H:Hp) (Q:Bool->Hp->Prop),Inv X pins U H s->t U H Q ->
  wpAny (model X.prog X.w) X.A (forIn ifs true λc r=>if r=true then do let ok <- isTrue c X.env (eval c X.env);pure (aec ok)else pure (aec r)) (TP X pins U Q) X.xe s
def Nn:TT:=λ_ H Q=>Q true H
def sE:PF X [] Nn:=λpins s U H Q I h=>wpAny_tests_nil #[H,I,h]
variable{c:Expr}
def y9{t:TT}(h:PT X c t):PF X [c] t:=λpins s U H Q I hq=>wpAny_tests_one (h pins s U H Q I hq)
def TN(wi:TI)(g:TG)(tc:TT)(te:TE)(js:Aah):TE:=λU H Q=>wi U H λJ H1=>∀l,H1 l=none ->
 ∃W:Nat->Nat->List V->Hp->Prop,(∃m,W 0 m [] (upd H1 l (.lst [])))/\∀i m ys H2,W i m ys H2 ->
  (J.stop i H2/\Q (.ref l) H2)\/(J.go i H2/\∀x H3,J.yld i H2 x H3->g x (BL js U) H3 λsb H4=>tc sb H4 λb H5=>if b=true then te sb H5 λy H6=>H6 l=some (.lst ys)/\ys.length<sizeLine/\∃m',m'<m/\W (i+1) m' (ys++[y]) (upd H6 l (.lst (ys++[y])))else ∃m',m'<m/\W (i+1) m' ys H5)
variable{tg elt iter:Expr}{ifs:Aak}{pos:Pos}{wi:TI}{g:TG}{tc:TT}{te:TE}
variable{use:Option (Value->Sem Unit)}{Q:VK}{QQ E:Aab}{pos':Pos}
def qh(hc:X.calm=true)(hx:X.xe=λ_ _=>False)(hi:PI X tg iter wi)
  (hg:∀C s0 Ha ex pn,PG (iN X scope N C s0 Ha ex pn) tg g) (ht:∀C s0 Ha ex pn,PF (iN X scope N C s0 Ha ex pn) ifs tc) (he:∀C s0 Ha ex pn,PE (iN X scope N C s0 Ha ex pn) elt te) (IC:DC js g)
  (Dq:DI X.env scope=true) (BP:Cw X.N scope N js=true) (BA:scope.kind=.function) (hs:∀x,aaC iter X.env x=pure x)
  (I:Inv X pins U H s) (h:TN wi g tc te js U H Q)
  (fin:∀(l C:Addr) (H':Hp) (s':Shared),Inv X pins U H' s'->Q (.ref l) H'->H' C=none->C≠X.env.locals->X.s0.heap.objs.size<=C->(∀x c,X.env.cells.lookup x=some c->c≠C)->(∀p∈X.pn++pins,p.1≠C)->(∃m,s'.heap.Ns C m)->adU (model X.prog X.w) X.A E use QQ (.ref l) C (.ok .next) s') :
  wpAny (model X.prog X.w) X.A (comprehension (.ListComp elt [#[tg,iter,ifs,0]] scope pos) scope X.env pos' (newList []) false (eval iter X.env) use) QQ E s:=by
 have SC:=kN Dq;have CP:=jK BP;refine adM (cl:=Dn X.env.cells scope.names []) rfl hs (cL (SC.cells I.ok)) BA SC.lc ?_;refine aay (hi pins s U H _ I h) (λv s1 h1=>aay h1 (λO0 s2 h2=>?_) (λ_ _ z=>by rw[hx]at z;exact z.elim)) (λ_ _ z=>by rw[hx]at z;exact z.elim);obtain⟨it,fp,tn,J,H2,rfl,I2,T,Lh,f2,hq⟩:=h2;have MQ:H2 s2.heap.objs.size=none:=I2.Bv.fresh (aaj _);obtain⟨W,⟨m0,w0⟩,turn⟩:=hq s2.heap.objs.size MQ;refine aa1 (adf (λx hx=>SC.nc x hx) (by intro y hy;simp at hy) (λh₁ hns1 hsb1=>?_) BA);dsimp only at hns1 hsb1 ⊢;generalize KD:s2.heap.push {cls:=.type "list",dict:=none,data:=.seq ([]:Aae).toArray}=hp3 at hns1 hsb1 ⊢;have MR:hp3.objs.size=s2.heap.objs.size+1:=by rw[<- KD,abn]
 have I3:Inv X pins U (upd H2 s2.heap.objs.size (.lst [])) {s2 with heap:=hp3}:=by rw[<- KD];exact I2.laid (t':=s2.toks) (λb u e=>aad _ e) (aaj _) #[by show 0<=_;exact aba _,[],_,.nil,aag _ rfl]
 have keep:∀b o,hp3.get? b=some o->h₁.get? b=some o:=λb o e=>hsb1.extBut b o (aas (aah e)) (aad _ e);have KI:∀b∈fp,b<s2.heap.objs.size:=λb hb=>by obtain⟨o,e,_⟩:=T.obj _ _ Lh b hb;exact aah e
 have f3:∀b∈fp,Dz X pins (upd H2 s2.heap.objs.size (.lst [])) b:=λb hb=>#[by rw[af (aas (KI b hb))];exact(f2 b hb).1,(f2 b hb).2]
 have J4:=jE (tk:=s2.toks+([]:Aar).length) (C:=hp3.objs.size) (fp:=fp) (h₁:=h₁) (scope:=scope) (N:=N) (js:=js) I3 SC CP BA f3 (λb hb=>by show b<hp3.objs.size;rw[MR];exact abk (KI b hb)) rfl keep #[1];have Mr:tn 0 h₁:=T.keep _ _ _ Lh λb hb o e=>keep b o (by rw[<- KD];exact aad _ e);have loop:∀s4:Shared,s4={s2 with heap:=h₁,toks:=s2.toks+([]:Aar).length} ->
   acS (model X.prog X.w) X.A (.compLoop (.ListComp elt [#[tg,iter,ifs,0]] scope pos) 0 (.ref it) (.ref s2.heap.objs.size) (aev scope (Dn X.env.cells scope.names []) hp3.objs.size X.env)) (adU (model X.prog X.w) X.A E use QQ (.ref s2.heap.objs.size) hp3.objs.size) s4:=by
  rintro s4 rfl;generalize hY:iN X scope N hp3.objs.size {s2 with heap:=hp3} (upd H2 s2.heap.objs.size (.lst [])) fp (X.pn++pins)=Y at J4;have KJ:∀{H':Hp},(∀b∈fp,H' b=none)->∀b∈fp,Dz Y [] H' b:=λhn b hb=>by
   subst hY;refine#[hn b hb,?_,?_,.inl hb,λx c e=>?_,λp hp=>?_]
   .show b≠hp3.objs.size;rw[MR];exact aas (abk (KI b hb))
   .intro z;rcases List.mem_cons.mp (I3.Ej b z)with q|q
    .exact(f3 b hb).2.1 q
    .exact(f3 b hb).2.2.1 q
   .exact(f3 b hb).2.2.2.2.1 x c (ck (SC.cells I.ok) (λc e=>by simp at e) e)
   .exact(f3 b hb).2.2.2.2.2 p (by simpa[iN]using hp)
  have RF:PG Y tg g:=by subst hY;exact hg _ _ _ _ _
  have UI:PF Y ifs tc:=by subst hY;exact ht _ _ _ _ _
  have RH:PE Y elt te:=by subst hY;exact he _ _ _ _ _
  have eA:Y.A=X.A:=by subst hY;rfl
  have eP:Y.prog=X.prog:=by subst hY;rfl
  have eW:Y.w=X.w:=by subst hY;rfl
  have eK:Y.K=X.K:=by subst hY;rfl
  have eC:Y.calm=true:=by subst hY;exact hc
  have eX:Y.xe=λ_ _=>False:=by subst hY;rfl
  have eE:Y.env=aev scope (Dn X.env.cells scope.names []) hp3.objs.size X.env:=by subst hY;rfl
  have T':Turn Y.prog Y.w Y.K tg J fp it tn:=by rw[eP,eW,eK];exact T
  have eL:(BL js U).length=js.length:=by unfold BL;rw[aac]
  rw[<- eP,<- eW,<- eA,<- eE];refine aeU rfl (λn s'=>∃i ys H',Inv Y [] (BL js U) H' s'/\tn i s'.heap/\(∀b∈fp,H' b=none)/\W i n ys H') (λn s' hI=>?_) m0 #[0,[],_,J4,Mr,λb hb=>(f3 b hb).1,w0];obtain⟨i,ys,H5,I5,JO,LA,w5⟩:=hI;refine ae9 ?_;rw[compTurn_list];refine aaa (abR (aaa ?_));have EH:∀(x:Value) (s:Shared) (P:Prop),Y.xe x s->P:=λx s P z=>by rw[eX]at z;exact z.elim
  rcases turn i n ys H5 w5 with ⟨stop,qn⟩|⟨go,step⟩
  .refine aay (T'.done Y rfl rfl rfl eC i [] s' _ H5 Y.xe I5 (KJ LA) JO stop) (λr s6 #[hr,I6]=>?_) λx s z=>EH x s _ z;subst hr;refine aae ?_;show adU _ _ _ _ _ _ _ _ _;rw[eP,eW,eA];have back:Inv X pins U H5 s6:=by subst hY;exact jF I3 I6 f3
   have JC:∃m,s6.heap.Ns hp3.objs.size m:=by
    obtain⟨m,hm,_⟩:=I6.loc;have:Y.env.locals=hp3.objs.size:=by rw[eE];rfl
    rw[this]at hm;exact#[m,hm]
   have RT:H5 hp3.objs.size=none:=by
    have:=I6.free;have e:Y.env.locals=hp3.objs.size:=by rw[eE];rfl
    rw[e]at this;exact this
   refine fin s2.heap.objs.size hp3.objs.size H5 s6 back qn RT ?_ ?_ ?_ ?_ JC
   .exact abL I3.lt
   .exact I3.sz
   .intro x c e z;obtain⟨v,o,ho,_⟩:=I3.cell x c e;exact absurd (aah ho) (by rw[z];exact abv _)
   .intro p hp z;have:=aah (I3.pin p hp).1;rw[z]at this;exact absurd this (abv _)
  .refine aay (T'.item Y rfl rfl rfl eC i [] s' _ H5 Y.xe I5 (KJ LA) JO go) (λr s6 h6=>?_) λx s z=>EH x s _ z;obtain⟨u,hr,h6⟩:=h6;subst hr;dsimp only;refine aaa ?_;refine aay h6 (λ_ s7 h7=>?_) λx s z=>EH x s _ z;obtain⟨x,H7,I7,r7,y7,J5,RW⟩:=h7;have Sr:=I7.pinned (KJ RW) (T.obj _ _ J5);have g7:=IC x (BL js U) H7 _ (step x H7 y7);refine aaa ?_;refine aay (RF _ s7 (BL js U) H7 x u _ Sr r7 g7) (λ_ s8 h8=>?_) λx s z=>EH x s _ z;obtain⟨sd,H8,I8,q8,l8,k8⟩:=h8;refine aaa ?_;refine aay (UI _ s8 sd H8 _ I8 q8) (λb s9 h9=>?_) λx s z=>EH x s _ z;obtain⟨H9,I9,q9⟩:=h9;have again:∀{s':Shared} {H':Hp},Inv Y ([]++C5 fp s7.heap) sd H' s'->Inv Y [] (BL js U) H' s'/\tn (i+1) s'.heap/\∀b∈fp,H' b=none:=λ{s' H'} I'=>by
    refine#[(I'.CU).weak l8.symm λk v e=>?_,T.keep _ _ _ J5 λb hb o e=>(I'.pin (b,o) (aak _ (aak _ (aM hb e)))).1,λb hb=>?_]
    .cases ej:js[k]? with
     |none=>unfold BL at e;rw[aal,ej]at e;cases e
     |some o=>
      cases o with
      |none=>unfold BL at e;rw[aal,ej]at e;cases e
      |some j=>rw[k8 k j ej];exact e
    .obtain⟨o,e,d⟩:=T.obj _ _ J5 b hb;exact(I'.pin (b,o) (aak _ (aak _ (aM hb e)))).2.1
   cases b with
   |false=>rw[if_neg aaF]at q9;obtain⟨m',hm,w9⟩:=q9;obtain⟨a1,a2,a3⟩:=again I9;exact aae #[rfl,m',hm,i+1,ys,H9,a1,a2,a3,w9]
   |true=>rw[if_pos rfl]at q9;refine aaa (aaa ?_);refine aay (RH _ s9 sd H9 _ I9 q9) (λy Qz RV=>?_) λx s z=>EH x s _ z;obtain⟨yv,Su,Ss,Uc,ZP,z10,m',hm,TF⟩:=RV;refine aaa ?_;refine aay (dW (X:=Y) _ Qz sd Su (.ref s2.heap.objs.size) [yv] (.ref s2.heap.objs.size) [y] (λ_ H'=>H'=upd Su s2.heap.objs.size (.lst (ys++[yv]))) Ss rfl (.cons Uc .nil) #[_,ys,yv,rfl,rfl,ZP,z10,rfl]) (λ_ Wi Vn=>?_) λx s z=>EH x s _ z;obtain⟨_,Pl,OO,_,Tp⟩:=Vn;subst Tp;obtain⟨a1,a2,a3⟩:=again OO;exact aae (aae #[rfl,m',hm,i+1,ys++[yv],_,a1,a2,a3,TF])
 exact codeAny_compStart_list (loop _ rfl) (T.self X.A 0 _ _ _ Mr (loop _ rfl))
def AZ(hi:PI X tg iter wi)(hg:∀C s0 Ha ex pn,PG (iN X scope N C s0 Ha ex pn) tg g)(ht:∀C s0 Ha ex pn,PF (iN X scope N C s0 Ha ex pn) ifs tc)(he:∀C s0 Ha ex pn,PE (iN X scope N C s0 Ha ex pn) elt te)(IC:DC js g)
  (hc:autoParam (X.calm=true) oR) (hx:autoParam (X.xe=(λ_ _=>False)) oR) (Dq:autoParam (DI X.env scope=true) oR) (BP:autoParam (Cw X.N scope N js=true) oR) (BA:autoParam (scope.kind=.function) oR) (hs:autoParam (∀x,aaC iter X.env x=pure x) At) :
  PE X (.ListComp elt [#[tg,iter,ifs,0]] scope pos) (TN wi g tc te js):=by
 intro pins s U H Q I h;refine qh hc hx hi hg ht he IC Dq BP BA hs I h λl C H' s' I' q f0 f1 f2 f3 f4 #[m,hm]=>?_;refine#[m,hm,λh' sb=>#[.ref l,H',?_,rfl,q]];exact I'.turned (λb o hb e=>sb.extBut b o hb e) f0 f1 (.inr f2) f3 f4
variable{y:Str}{py:Pos}
def AY{B3:Pos}(hN:X.N.Nodup)(hy:X.N[i]?=some y)(hk:X.env.scope.names.lookup y=some .local)(hi:PI X tg iter wi)(hg:∀C s0 Ha ex pn,PG (iN X scope N C s0 Ha ex pn) tg g)(ht:∀C s0 Ha ex pn,PF (iN X scope N C s0 Ha ex pn) ifs tc)(he:∀C s0 Ha ex pn,PE (iN X scope N C s0 Ha ex pn) elt te)(IC:DC js g)
  (Iw:autoParam (abU (.ListComp elt [#[tg,iter,ifs,0]] scope pos) (some (.Name y py)) B3.line X.env=pure true) oR)
  (hc:autoParam (X.calm=true) oR) (hx:autoParam (X.xe=(λ_ _=>False)) oR) (Dq:autoParam (DI X.env scope=true) oR) (BP:autoParam (Cw X.N scope N js=true) oR) (BA:autoParam (scope.kind=.function) oR) (hs:autoParam (∀x,aaC iter X.env x=pure x) At) :
  PS X (.Assign [.Name y py] (.ListComp elt [#[tg,iter,ifs,0]] scope pos) B3) (Gk (TN wi g tc te js) (B8 i)):=by
 intro pins s U H D I h;rw[exec_Assign_Name_used _ _ _ _ Iw];refine aaa (abR (aaa ?_));refine aaa (aay (qh hc hx hi hg ht he IC Dq BP BA hs I h λl C H' s' I' q f0 f1 f2 f3 f4 #[m,hm]=>?_) (λ_ s' hq=>aae (aae hq)) λ_ _ e=>e);refine aeE (gG I' hN hy (.inl hk) (v:=.ref l) rfl (λQA VQ #[a,sb,ha]=>?_) (.inr hk));have Vf:C≠a:=by
  rcases ha with rfl|ha
  .exact f1
  .exact λz=>f3 _ _ ha z.symm
 refine#[m,hm.sameBut sb Vf,λh' TY=>#[_,H',?_,q]];exact VQ.turned (λb o hb e=>TY.extBut b o hb e) f0 f1 (.inr f2) f3 f4
end L2
namespace Srt
open PySem PySem.W PyProof.Rows
variable{α:Type}
def pw(lt:Nat->Nat->Bool)(n:Nat):KasT α->(α->Prop)->Prop
 |.ret a,Q=>Q a
 |.ask i j k,Q=>i<n/\j<n/\i≠j/\pw lt n (k (lt i j)) Q
def pw_bind{w:Type}{lt:Nat->Nat->Bool}{n:Nat}{f:α->KasT w}{Q:w->Prop}:∀(t:KasT α),pw lt n t (λa=>pw lt n (f a) Q)->pw lt n (t.bind f) Q
 |.ret _,h=>h
 |.ask i j k,h=>#[h.1,h.2.1,h.2.2.1,pw_bind _ h.2.2.2]
structure Ord(lt:Nat->Nat->Bool)(n:Nat):Prop where
 irr:∀i,i<n->lt i i=false
 tr:∀i j k,i<n->j<n->k<n->lt i j=true->lt j k=true->lt i k=true
 tot:∀i j,i<n->j<n->i≠j->lt i j=false->lt j i=true
section
variable{lt:Nat->Nat->Bool}{n:Nat}
noncomputable def at'(p:Array Nat)(i:Nat):Nat:=p.getD i 0
structure Pm(p:Array Nat)(n:Nat):Prop where
 sz:p.size=n
 lt:∀i,i<n->at' p i<n
 nd:∀i j,i<n->j<n->at' p i=at' p j->i=j
def aK(p:Array Nat)(i:Nat):at' p i=(p[i]?).getD 0:=by
 unfold at';by_cases h:i<p.size
 .simp[h]
 .simp[h]
def Lg(lt:Nat->Nat->Bool)(p:Array Nat)(k:Nat):Prop:=∀i j,i<j->j<k->lt (at' p i) (at' p j)=true
def VR(lt:Nat->Nat->Bool)(p:Array Nat)(k:Nat):Prop:=∀i j,i<j->j<k->lt (at' p j) (at' p i)=true
theorem oV(o:Ord lt n){p:Array Nat}(P:Pm p n):∀(f m:Nat) (Q:Nat->Prop),1<=m->m+f<=n->Lg lt p m->(∀m',m<=m'->m'<=m+f->Lg lt p m'->(m'<m+f->lt (at' p m') (at' p (m' - 1))=true)->Q m')->pw lt n (kas_asc p f m) Q
 |0,m,Q,_,_,ha,h=>h m (aaj _) (aaj _) ha λz=>absurd z (abv _)
 |f+1,m,Q,h1,hm,ha,h=>by
  refine#[P.lt _ #[],P.lt _ #[],λz=>(by have:=P.nd _ _ #[] #[] z;omega),?_];cases c:lt _ _ with
  |true=>exact h m (aaj _) #[] ha λ_=>c
  |false=>
   have e  := o.tot _ _ (P.lt _ #[]) (P.lt _ #[]) (λz=>by have:=P.nd _ _ #[] #[] z;omega) c;refine oV o P f _ Q #[] #[] (λi j Ew hj=>?_) λm' a b c d=>h m' #[] #[] c λz=>d #[];by_cases ej:j=m
   .subst ej;by_cases ei:i=j - 1
    .subst ei;exact e
    .exact o.tr _ _ _ (P.lt _ #[]) (P.lt _ #[]) (P.lt _ #[]) (ha i _ #[] #[]) e
   .exact ha i j Ew #[]
theorem qq(o:Ord lt n){p:Array Nat}(P:Pm p n):∀(f m:Nat) (Q:Array Nat×Nat×Nat->Prop),1<=m->m+f<=n->VR lt p m->(∀m',m<=m'->m'<=m+f->VR lt p m'->Q (p,m',0))->pw lt n (kas_desc f p m 0) Q
 |0,m,Q,_,_,ha,h=>h m (aaj _) (aaj _) ha
 |f+1,m,Q,h1,hm,ha,h=>by
  refine#[P.lt _ #[],P.lt _ #[],λz=>(by have:=P.nd _ _ #[] #[] z;omega),?_];cases c:lt _ _ with
  |true=>
   refine qq o P f _ Q #[] #[] (λi j Ew hj=>?_) λm' a b c=>h m' #[] #[] c;by_cases ej:j=m
   .subst ej;by_cases ei:i=j - 1
    .subst ei;exact c
    .exact o.tr _ _ _ (P.lt _ #[]) (P.lt _ #[]) (P.lt _ #[]) c (ha i _ #[] #[])
   .exact ha i j Ew #[]
  |false=>have e  := o.tot _ _ (P.lt _ #[]) (P.lt _ #[]) (λz=>by have:=P.nd _ _ #[] #[] z;omega) c;refine#[P.lt _ #[],P.lt _ #[],λz=>(by have:=P.nd _ _ #[] #[] z;omega),?_];rw[show lt (p.getD _ 0) (p.getD m 0)=true from e];exact h m (aaj _) #[] ha
theorem nK{p:Array Nat}{m i:Nat}(hm:m<=p.size)(hi:i<m):at' (afj p 0 m) i=at' p (m - 1 - i):=by
 rw[aK,aK];unfold afj;rw[getElem?_mirror hm _ #[]];have e:0+m - 1 - i=m - 1 - i:=by omega
 split
 .rw[e]
 .have:i=m - 1 - i:=by omega
  rw[<- this]
theorem wW{p:Array Nat}{m i:Nat}(hm:m<=p.size)(hi:m<=i):at' (afj p 0 m) i=at' p i:=by rw[aK,aK];unfold afj;rw[getElem?_mirror hm _ #[],if_neg #[]]
theorem yY{p:Array Nat}{m:Nat}(P:Pm p n)(hm:m<=n):Pm (afj p 0 m) n:=by
 have hs:m<=p.size:=by rw[P.sz];exact hm
 have key:∀i,i<n->∃i',i'<n/\at' (afj p 0 m) i=at' p i'/\((i<m/\i'=m - 1 - i)\/(m<=i/\i'=i)):=λi hi=>by
  by_cases h:i<m
  .exact#[m - 1 - i,#[],nK hs h,.inl #[h,rfl]]
  .exact#[i,hi,wW hs #[],.inr #[#[],rfl]]
 refine#[by unfold afj;rw[mirror_size];exact P.sz,λi hi=>?_,λi j hi hj e=>?_]
 .obtain⟨i',h1,h2,_⟩:=key i hi;rw[h2];exact P.lt i' h1
 .obtain⟨i',h1,h2,h3⟩:=key i hi;obtain⟨j',k1,k2,k3⟩:=key j hj;rw[h2,k2]at e;have:=P.nd _ _ h1 k1 e;omega
theorem uG(o:Ord lt n){p:Array Nat}(P:Pm p n){m:Nat}{Q:Nat×Array Nat->Prop}(h1:1<=m)(hm:m<=n)(hd:VR lt p m)(h:∀m' q,1<=m'->m'<=n->Pm q n->Lg lt q m'->Q (m',q)):pw lt n (kas_tail3 m n p) Q:=by
 refine pw_bind _ ?_;have P':=yY P hm;have hs:m<=p.size:=by rw[P.sz];exact hm
 refine oV o P' _ _ _ h1 #[] (λi j Ew hj=>?_) λm' a b c _=>h m' _ #[] #[] P' c;rw[nK hs #[],nK hs hj];exact hd _ _ #[] #[]
theorem we(o:Ord lt n){p:Array Nat}(P:Pm p n)(h2:2<=n){Q:Nat×Array Nat->Prop}(h:∀m q,1<=m->m<=n->Pm q n->Lg lt q m->Q (m,q)):pw lt n (kas_count n p) Q:=by
 refine pw_bind _ (oV o P _ _ _ (aaj 1) #[] (λi j Ew hj=>#[]) λm a b c d=>?_);by_cases e:(m==n)=true
 .rw[if_pos e];exact h m p #[] #[] P c
 .rw[if_neg e];by_cases hm:m > 1
  .rw[if_pos hm];refine#[P.lt _ #[],P.lt _ #[],λz=>(by have:=P.nd _ _ #[] #[] z;omega),?_];rw[show lt (p.getD 0 0) (p.getD _ 0)=true from c 0 _ #[] #[]];exact h m p #[] #[] P c
  .have UZ:m=1:=by omega
   subst UZ;refine pw_bind _ ?_;have d1  := d #[];refine qq o P _ _ _ #[] #[] (λi j Ew hj=>?_) λm' a b hd=>?_
   .have:i=0:=by omega
    have:j=1:=by omega
    subst i j;exact d1
   .show pw lt n (if 0 > 0 then kas_tail3 m' n _ else kas_tail3 m' n p) Q;exact uG o P #[] #[] hd h
theorem jr(o:Ord lt n){p:Array Nat}(P:Pm p n){k:Nat}(hk:k<n)(ha:Lg lt p k):∀(f l r:Nat) (Q:Nat->Prop),l<=r->r<=k->r<=l+f->(∀i,i<l->lt (at' p i) (at' p k)=true)->(∀i,r<=i->i<k->lt (at' p k) (at' p i)=true) ->
  (∀l',l'<=k->(∀i,i<l'->lt (at' p i) (at' p k)=true)->(∀i,l'<=i->i<k->lt (at' p k) (at' p i)=true)->Q l')->pw lt n (kas_place p k f l r) Q
 |0,l,r,Q,hl,hr,hf,h1,h2,h=>by
  have:l=r:=by omega
  subst this;exact h l hr h1 h2
 |f+1,l,r,Q,hl,hr,hf,h1,h2,h=>by
  unfold kas_place;by_cases WR:l ≥ r
  .rw[if_pos WR];have:l=r:=by omega
   subst this;exact h l hr h1 h2
  .rw[if_neg WR];refine#[P.lt _ hk,P.lt _ #[],λz=>(by have:=P.nd _ _ hk #[] z;omega),?_];cases c:lt (p.getD k 0) _ with
   |true=>
    refine jr o P hk ha f l _ Q #[] #[] #[] h1 (λi hi W3=>?_) h;by_cases e:i=(l+r) / 2
    .subst e;exact c
    .exact o.tr _ _ _ (P.lt _ hk) (P.lt _ #[]) (P.lt _ #[]) c (ha _ _ #[] W3)
   |false=>
    have e  := o.tot _ _ (P.lt _ hk) (P.lt _ #[]) (λz=>by have:=P.nd _ _ hk #[] z;omega) c;refine jr o P hk ha f _ r Q #[] hr #[] (λi hi=>?_) h2 h;by_cases e':i=(l+r) / 2
    .subst e';exact e
    .exact o.tr _ _ _ (P.lt _ #[]) (P.lt _ #[]) (P.lt _ hk) (ha _ _ #[] #[]) e
theorem hV{p:Array Nat}{k l i:Nat}(hk:k<p.size)(hl:l<=k):at' (bubble p k (k - l)) i=if i=l then at' p k else if l<i/\i<=k then at' p (i - 1)else at' p i:=by
 rw[aK];rw[getElem?_bubble hk _ #[]];have e:k - (k - l)=l:=by omega
 rw[e];split
 .rw[aK]
 .split
  .rw[aK]
  .rw[aK]
theorem uy(o:Ord lt n):∀(f k:Nat) (p:Array Nat) (Q:Array Nat->Prop),Pm p n->Lg lt p k->k+f=n->(∀q,Pm q n->Lg lt q n->Q q)->pw lt n (kas_bin f p k) Q
 |0,k,p,Q,P,ha,hk,h=>by
  have:k=n:=by omega
  subst this;exact h p P ha
 |f+1,k,p,Q,P,ha,hk,h=>by
  have Ob:k<n:=by omega
  have hs:k<p.size:=by rw[P.sz];exact Ob
  refine pw_bind _ (jr o P Ob ha k 0 k _ (aba _) (aaj _) #[] (λi hi=>#[]) (λi hi W3=>#[]) λl hl h1 h2=>?_);refine uy o f (k+1) _ Q #[by rw[bubble_size];exact P.sz,λi hi=>?_,λi j hi hj e=>?_] (λi j Ew hj=>?_) #[] h
  .rw[hV hs hl];split
   .exact P.lt _ Ob
   .split
    .exact P.lt _ #[]
    .exact P.lt _ hi
  .rw[hV hs hl,hV hs hl]at e;have P1:=P.nd;split at e
   .split at e
    .omega
    .split at e
     .have:=P1 _ _ Ob #[] e;omega
     .have:=P1 _ _ Ob #[] e;omega
   .split at e
    .split at e
     .have:=P1 _ _ #[] Ob e;omega
     .split at e
      .have:=P1 _ _ #[] #[] e;omega
      .have:=P1 _ _ #[] #[] e;omega
    .split at e
     .have:=P1 _ _ #[] Ob e;omega
     .split at e
      .have:=P1 _ _ #[] #[] e;omega
      .have:=P1 _ _ #[] #[] e;omega
  .rw[hV hs hl,hV hs hl];split
   .split
    .omega
    .split
     .exact h2 _ #[] #[]
     .omega
   .split
    .split
     .omega
     .split
      .exact ha _ _ #[] #[]
      .omega
    .split
     .exact h1 _ #[]
     .split
      .exact ha _ _ #[] #[]
      .exact ha _ _ Ew #[]
theorem pN(o:Ord lt n)(h2:2<=n){Q:Array Nat->Prop}(h:∀p,Pm p n->Lg lt p n->Q p):pw lt n (kas_sort n) Q:=by
 have P0:Pm (aeX (abd n)) n:=by
  have e:∀i,i<n->at' (aeX (abd n)) i=i:=λi hi=>by rw[aK];simp[hi]
  refine#[#[0],λi hi=>#[1],λi j hi hj q=>#[1]]
 refine pw_bind _ (we o P0 h2 λm q h1 hm P ha=>?_);by_cases e:m<n
 .rw[if_pos e];have em:max m 1=m:=by omega
  rw[em];exact uy o _ _ _ _ P ha #[] h
 .rw[if_neg e];have:m=n:=by omega
  subst this;exact h q P ha
end
def pw_wp{lt:Nat->Nat->Bool}{n:Nat}{cmp:Nat->Nat->(Bool->Shared->Prop)->Shared->Prop}{Q:α->Prop}{QQ:α->Shared->Prop}{J:Shared->Prop}
  (hc:∀i j C s,i<n->j<n->i≠j->J s->(∀s',J s'->C (lt i j) s')->cmp i j C s) (hq:∀a s,J s->Q a->QQ a s):∀(t:KasT α) (s:Shared),J s->pw lt n t Q->t.kasWp cmp QQ s
 |.ret a,s,hj,h=>hq a s hj h
 |.ask i j k,s,hj,h=>hc i j _ s h.1 h.2.1 h.2.2.1 hj λs' Ho=>pw_wp hc hq _ s' Ho h.2.2.2
end Srt
namespace L2
open PySem PySem.Spec PyProof.Rows
variable{ss:Aaa}
def jT:∀{us:Aae},AS (ss.map V.str) us->acw us ss:=by
 induction ss with
 |nil=>intro us r;cases r;exact .nil
 |cons x r ih=>
  intro us h;cases h with
  |cons h1 h2=>obtain⟨t,rfl⟩:=h1;exact .cons x t (ih h2)
def dN:∀{us:Aae} {ss:Aaa},acw us ss->AS (ss.map V.str) us
 |_,_,.nil=>.nil
 |_,_,.cons x t h=>.cons #[t,rfl] (dN h)
def B0(a b:Str):Prop:=a.cps.toList<b.cps.toList
instance (a b:Str):Decidable (B0 a b):=inferInstanceAs (Decidable (a.cps.toList<b.cps.toList))
def iZ:∀(l:Aaa) (p:Str),risingS p l=true->(∀y∈l,¬ B0 y p)/\l.Pairwise (λa b=>¬ B0 b a)
 |[],p,_=>#[(λ_ h=>nomatch h),aeP]
 |x::r,p,h=>by
  have h':(!ltCps x.cps.toList p.cps.toList && risingS x r)=true:=h;rw[aaS]at h';obtain⟨h1,h2⟩:=h';have hx:¬ B0 x p:=by unfold B0;rw[ltCps_eq]at h1;simpa using h1
  obtain⟨a,b⟩:=iZ r x h2;refine#[λy hy=>?_,List.pairwise_cons.mpr #[a,b]];rcases List.mem_cons.mp hy with rfl|hy
  .exact hx
  .intro z;have:=a y hy;exact hx (List.lt_of_le_of_lt (List.not_lt.mp this) z)
def eB{l:Aaa}(h:sortedS l=true):l.Pairwise (λa b=>¬ B0 b a):=by
 cases l with
 |nil=>exact aeP
 |cons x r=>obtain⟨a,b⟩:=iZ r x h;exact List.pairwise_cons.mpr #[a,b]
variable{X:Cx}
def NM(K:aaf):Aai->Hp->VK->Prop:=λxs H Q=>∃(p:Addr) (ss:Aaa),xs=[.ref p]/\CN K H p (ss.map V.str)/\ss.length<64 /\
 ∀(l:Addr) (Fi:Aaa),H l=none->Fi.Perm ss->Fi.Pairwise (λa b=>¬ B0 b a)->Q (.ref l) (upd H l (.lst (Fi.map V.str)))
theorem rM:BM X (.builtin "sorted") (NM X.K):=by intro pins s U H xs us Q I r h;obtain⟨p,ss,rfl,hq,EJ,k⟩:=h;obtain⟨u,rfl,ru⟩:=r.one;cases ru;obtain⟨gE,rv,pl,hz⟩:=I.list hq;have hS:=jT rv;have hl:=rv.length;rw[aac]at hl;refine sorted_strs pl.isList hS #[] λout Fi a1 a2 a3=>?_;obtain⟨e,he⟩:=sortedAll_at s.heap gE out;have hn  := I.Bv.fresh (ads _);refine#[.ref _,_,I.laid (λb o q=>sortedAll_old q) (ads _) ?_,rfl,k _ Fi hn a2 (eB a3)];refine#[by rw[aac,a2.length_eq,aaJ];omega,out.toList,e,dN a1,?_];exact he
variable{prog:aaD}{w:World}{A:Around}{E:Aab}{s:Shared}
noncomputable def di(vs:Aae):Sem PySem.Fin:=do
 let l <- newList vs;let _ <- adp [l] (call (.builtin "list.sort") [l] [])
 ret l
variable{x:Value}{vs:Aae}{Q:Aab}
def sk(hc:∀R:Aae->Shared->Prop,(∀h1 tk,(∀b o,s.heap.get? b=some o->h1.get? b=some o)->R vs {s with heap:=h1,toks:=tk})->wpAny (model prog w) A.in1 (collect x) R E s)
  (h:∀h1 tk,(∀b o,s.heap.get? b=some o->h1.get? b=some o)->wpAny (model prog w) A.in1 (di vs) (λfin s'=>∃v,fin=.done (.ret v)/\Q v s') E {s with heap:=h1,toks:=tk}):wpAny (model prog w) A (call (.builtin "sorted") [x]) Q E s:=by
 refine adJ afi aeS aeT (args_sorted1 _) ?_;exact aaa (aae (aaa (hc _ λh1 tk kk=>h h1 tk kk)))
theorem qM(h2:vs.length<2)(h:∀h' e,(∀b o,s.heap.get? b=some o->h'.get? b=some o)->h'.get? s.heap.objs.size=some (seqObj "list" vs.toArray e)->Q (.ref s.heap.objs.size) {s with heap:=h'}):
  wpAny (model prog w) A (di vs) (λfin s'=>∃v,fin=.done (.ret v)/\Q v s') E s:=by
 have hz:vs.length<=sizeLine:=by rw[aaJ];omega
 unfold di;refine aaa (acI ?_ hz);have JB:(s.heap.push (seqObj "list" vs.toArray 0)).get? s.heap.objs.size=some (seqObj "list" vs.toArray 0):=aag _ rfl;refine(?_:wpAny _ _ _ _ _ {s with heap:=s.heap.push (seqObj "list" vs.toArray 0)});generalize Xj:s.heap.push (seqObj "list" vs.toArray 0)=hB at JB ⊢;have kB:∀b o,s.heap.get? b=some o->hB.get? b=some o:=λb o e=>by rw[<- Xj];exact aad _ e
 refine aaa (aaY (aa2 adF #[_,JB,rfl] adq ?body (aej _)));case body=>
  rw[list_sort_plain];obtain⟨e1,Lo⟩:∃e1,(hB.update s.heap.objs.size (abK λ_=>#v[])).get? s.heap.objs.size=some (seqObj "list" #v[] e1):=#[_,acD JB λ_=>#v[]]
  refine aaa (listItems_at JB rfl (aaa (adh JB rfl ?_ (by rw[aap];exact hz) (aba _))));refine aaa (afh Lo rfl (aaa (afC ?_ (by show vs.length<=_;exact hz))));refine aaa (acI (aaY ?_) (aba _));have UU:(((hB.update s.heap.objs.size (abK λ_=>#v[])).push (seqObj "tuple" vs.toArray 0)).push (seqObj "list" #v[] 0)).get? s.heap.objs.size=some (seqObj "list" #v[] e1) :=
   aad _ (aad _ Lo)
  refine(?_:wpAny (model prog w) _ _ _ _ {s with heap:=((hB.update s.heap.objs.size (abK λ_=>#v[])).push (seqObj "tuple" vs.toArray 0)).push (seqObj "list" #v[] 0)});dsimp only;have Cn:vs.toArray.size<2:=by rw[aap];exact h2
  rw[if_pos Cn,if_pos Cn];refine aaa (aae ?_);rw[StateT.run_pure];refine aaa (aae ?_);dsimp only;have eo:(arrOf (SortSt.mk' general' (vs.toArray.zip vs.toArray) #v[] 7 none)).map (·.2)=vs.toArray:=by
   show (vs.toArray.zip vs.toArray).map (·.2)=vs.toArray;apply Array.ext
   .simp
   .intro i h1 h2;simp
  rw[eo];refine aaa (afh UU rfl (aaa (adh UU rfl ?_ (aba _) (by rw[aap];first|exact hz|exact Nat.le_succ_of_le hz))));simp only[bne_self_eq_false,abO,if_false];refine aae #[_,rfl,aae #[_,rfl,h _ _ (λb o e=>?_) (acD UU λ_=>vs.toArray)]];have hb:b≠s.heap.objs.size:=aas (aah e);rw[aeo _ _ _ _ hb];refine aad _ (aad _ ?_);rw[aeo _ _ _ _ hb];exact kB b o e
variable{pins:Aac}{U:St}{H:Hp}
variable{h:Heap}{a:Addr}
def zq{m m':Aag}(x:h.Ns a m)(y:h.Ns a m'):m=m':=by obtain⟨o,es,ep,ho,hd,_,hm⟩:=x;obtain⟨o',HI,To,EI,Tf,_,N7⟩:=y;rw[ho]at EI;cases EI;rw[hd]at Tf;cases Tf;funext n;rw[<- hm n,<- N7 n]
variable{P:aaD}{o:HO}
def BG.there(x:BG P w H h a o):∃u,h.get? a=some u:=by
 cases o with
 |lst xs=>obtain⟨_,_,_,_,e⟩:=x;exact#[_,e]
 |tup xs=>obtain⟨_,_,_,o,e,_⟩:=x;exact#[_,e]
 |dK eQ=>obtain⟨_,_,_,_,o,_,_,e,_⟩:=x;exact#[_,e]
 |dT eQ=>obtain⟨_,_,_,_,o,_,_,e,_⟩:=x;exact#[_,e]
 |set S n=>obtain⟨o,_,_,_,e,_⟩:=x;exact#[_,e]
 |ins C dx fs=>obtain⟨_,_,_,e,_⟩:=x;exact#[_,e]
 |own y=>exact x
 |xd fs=>obtain⟨_,⟨_,_,_,e,_⟩,_⟩:=x;exact#[_,e]
 |SJ lo hi=>obtain⟨_,_,_,e⟩:=x;exact#[_,e]
 |D1 ob u=>obtain⟨e,_⟩:=x;exact#[_,e]
 |Mo ps=>exact#[_,x]
 |met f y=>exact#[_,x]
 |ext T=>obtain⟨_,e,_⟩:=x;exact e
def D4.dead(x:D4 P w H h)(e:h.get? a=none):H a=none:=by
 cases q:H a with
 |none=>rfl
 |some u=>obtain⟨o,z⟩:=(x a u q).there;rw[e]at z;cases z
variable{h':Heap}{xs:Aai}
def Inv.MH{D:Addr}{m:Aag}(I:Inv X pins U H s)(hm:s.heap.Ns X.env.locals m)(N7:h'.Ns X.env.locals m)(k:∀b o,b≠X.env.locals->s.heap.get? b=some o->h'.get? b=some o)
  (hD:s.heap.get? D=none) (new:BG X.prog X.w (upd H D (.lst xs)) h' D (.lst xs)):Inv X pins U (upd H D (.lst xs)) {s with heap:=h'}:=by
 have fr  := I.Bv.dead hD;have nD:∀b o,s.heap.get? b=some o->b≠D:=λb o e z=>by simp_all
 have nt:∀b u,H b=some u->b≠D:=λb u e=>ao e fr;have Wr:∀b u,H b=some u->b≠X.env.locals:=λb u e=>ao e I.free;refine I.step (ch:=[]) (λ_ z=>nomatch z) (λb o hb _ _ e _=>k b o hb e) (λb o hb _ _ e _=>#[o.slots,k b o hb e]) (λb o _ e n=>by rw[af (nD b o e)];exact n)
  (λb o _ e=>?_) (λb ys e=>by rw[af (nt b _ e)];exact e) (λb o u e=>by rw[af (nt b _ e)];exact e) (λb ps e=>#[#v[],by rw[af (nt b _ e),e];simp]) (λm2 h2=>by rw[zq h2 hm];exact N7) (λb u e=>?_) I.bare
 .by_cases hb:b=X.env.locals
  .subst hb;obtain⟨o',_,_,EI,_⟩:=N7;exact#[o',EI]
  .exact#[o,k b o hb e]
 .by_cases hb:b=D
  .subst hb;rw[ah]at e;cases e;exact new
  .rw[af hb]at e;refine(I.Bv b u e).G1 (λc v hc q=>k c v ?_ q) (λc q=>by rw[af (nt c _ q)];exact q) λc ys q=>by rw[af (nt c _ q)];exact q
   rcases hc with z|z
   .rw[z];exact Wr b u e
   .exact Wr c _ z
structure Rows(K:aaf)(H:Hp)(vs:Aai)(nm:Aaa):Prop where
 len:vs.length=nm.length
 row:∀(i:Nat) (v:V) (x:Str),vs[i]?=some v->nm[i]?=some x->∃a r,v=.ref a/\C3 K H a (.str x::r)
 nd:nm.Nodup
def NN(K:aaf):Aai->Hp->VK->Prop:=λxs H Q=>∃p vs nm,xs=[.ref p]/\CN K H p vs/\vs.length<64/\Rows K H vs nm /\
 ∀l (ix:Aan),H l=none->ix.length=vs.length->ix.Nodup->(∀i∈ix,i<vs.length)->(ix.map λi=>nm.getD i #[#v[]]).Pairwise B0->Q (.ref l) (upd H l (.lst (ix.map λi=>vs.getD i .Bw)))
variable{us:Aae}
def AS.pick(r:AS xs us):∀(ix:Aan),(∀i∈ix,i<xs.length)->AS (ix.map λi=>xs.getD i .Bw) (ix.map λi=>us.getD i abb)
 |[],_=>.nil
 |i::ix,h=>by
  refine .cons ?_ (AS.pick r ix λj hj=>h j (aam _ hj));have hi:=h i aan;have e:xs[i]?=some (xs[i]):=by simp
  obtain⟨u,hu,ru⟩:=r.get e;have e1:xs.getD i .Bw=xs[i]:=by simp_all
  have e2:us.getD i abb=u:=by simp_all
  show RelV (xs.getD i .Bw) (us.getD i abb);rw[e1,e2];exact ru
variable{gE:Aae}
theorem uJ{vs:Aai}{nm:Aaa}{Q:VK}(I:Inv X pins U H s)(rv:AS vs gE)(hz:gE.length<=sizeLine)(EJ:vs.length<64)(R:Rows X.K H vs nm)
  (k:∀l (ix:Aan),H l=none->ix.length=vs.length->ix.Nodup->(∀i∈ix,i<vs.length)->(ix.map λi=>nm.getD i #[#v[]]).Pairwise B0->Q (.ref l) (upd H l (.lst (ix.map λi=>vs.getD i .Bw)))) :
  wpAny (model X.prog X.w) A (di gE) (λfin s'=>∃v,fin=.done (.ret v)/\∃x H',Inv X pins U H' s'/\RelV x v/\Q x H') E s:=by
 have hl:=rv.length;by_cases h2:gE.length<2
 .refine qM h2 λh' e kk he=>?_;have hn:H s.heap.objs.size=none:=I.Bv.fresh (aaj _);have ei:(abd vs.length).map (λi=>vs.getD i V.Bw)=vs:=by
   apply ab2;intro i;rw[aal];by_cases hi:i<vs.length
   .rw[acq hi];simp[hi]
   .rw[aao (by simpa using hi),aao #[]];rfl
  have q:=k s.heap.objs.size (abd vs.length) hn #[0] ad1 (λi hi=>List.mem_range.mp hi) (by
   match hv:vs.length,hl with
   |0,_=>simp
   |1,_=>simp[aft]
   |n+2,hl=>omega)
  rw[ei]at q;exact#[.ref s.heap.objs.size,_,I.laid (t':=s.toks) (a:=s.heap.objs.size) (o:=.lst vs) kk (aaj _) #[by rw[hl];exact hz,gE,e,rv,he],rfl,q]
 .obtain⟨m,F⟩:=I.fr;unfold di;refine aaa (acI ?_ hz);have JB:(s.heap.push (seqObj "list" gE.toArray 0)).get? s.heap.objs.size=some (seqObj "list" gE.toArray 0):=aag _ rfl;have hL:X.env.locals<s.heap.objs.size:=F.ns.lt;refine aaa (aaY (aa2 adF #[_,JB,rfl] adq ?body (aej _)));refine PySem.W.kat_list_sort (s:={s with heap:=s.heap.push (seqObj "list" gE.toArray 0)}) (F.kept λb o e=>aad _ e) ((jA (g:=X.base) (h:=s.heap) (L:=X.env.locals)).grown λb o e=>aad _ e) JB (abL hL)
   (Heap.get?_none_of_le (aaX F.above (aeV hL))) (λp hp=>aas (aah ((jA (g:=X.base) (h:=s.heap) (L:=X.env.locals)) p hp).1)) #[] #[] λe1 h' F' N'=>?_
  have hD:∀q∈iy X.base s.heap X.env.locals,q.1<s.heap.objs.size:=λq hq=>aah ((jA (g:=X.base) (h:=s.heap) (L:=X.env.locals)) q hq).1;generalize hDe:s.heap.objs.size=D at hD N' ⊢;have Rc:∀b o,b≠X.env.locals->s.heap.get? b=some o->h'.get? b=some o:=λb o hb e=>by
   cases q:X.base.get? b with
   |some ob=>have:=I.bk b ob q;rw[e]at this;cases this;exact F'.keep b _ q
   |none=>exact(N' (b,o) (aam _ (eM hb q e))).1
  have Zy:∀b o,b≠X.env.locals->X.base.get? b=none->s.heap.get? b=some o->b<D:=λb o hb hn e=>hD (b,o) (eM hb hn e);have rowAt:∀i,i<gE.length->∃a ob vv x t n,gE.getD i abb=.ref a/\h'.get? a=some ob/\ob.cls=.type "tuple" /\ ob.data=.seq vv n/\vv[0]?=some (.str x t)/\nm[i]?=some x/\s.heap.get? a=some ob:=λi hi=>by
   have FQ:i<vs.length:=by omega
   have e:vs[i]?=some vs[i]:=by simp[FQ]
   obtain⟨u,hu,ru⟩:=rv.get e;have Gf:i<nm.length:=by rw[<- R.len];exact FQ
   have en:nm[i]?=some nm[i]:=by simp[Gf]
   obtain⟨a,rr,ev,ha⟩:=R.row i _ _ e en;rw[ev]at ru;cases ru;obtain⟨XR,tv,⟨ob,JA,hc,n,hd⟩,z1⟩:=I.tuple ha;cases tv with
   |cons t1 t2=>obtain⟨t,rfl⟩:=t1;refine#[a,ob,_,nm[i],t,n,by rw[aaq,hu];rfl,Rc a ob ?_ JA,hc,hd,#[0],en,JA];rintro rfl;obtain⟨m,⟨o2,es,ep,g1,g2,_⟩,_⟩:=I.loc;rw[JA]at g1;cases g1;rw[hd]at g2;cases g2
  have Gj:PySem.W.KatTups h' gE ((abd gE.length).map λi=>match gE.getD i abb with|.ref a=>(match h'.get? a with|some ob=>(match ob.data with|.seq vv _=>(vv[0]?).getD .none|_=>.none)|none=>.none)|_=>.none):=by
   have go:∀(us:Aae) (f:Nat->Value) (k0:Nat),(∀i,i<us.length->∃a ob vv n,us.getD i abb=.ref a/\h'.get? a=some ob/\ob.cls=.type "tuple" /\ ob.data=.seq vv n/\vv[0]?=some (f (k0+i))) ->
     PySem.W.KatTups h' us ((abd us.length).map λi=>f (k0+i)):=by
    intro us;induction us with
    |nil=>intro f k0 _;exact trivial
    |cons u us ih=>
     intro f k0 hh;obtain⟨a,ob,vv,n,e1,e2,e3,e4,e5⟩:=hh 0 #[0];have R3:u=.ref a:=by simpa using e1
     subst R3;rw[aaG,List.range_succ_eq_map,aau,aaL];refine#[#[a,ob,vv,n,rfl,e2,e3,e4,e5],?_];have:=ih f (k0+1) λi hi=>by obtain⟨a,ob,vv,n,e1,e2,e3,e4,e5⟩:=hh (i+1) (by simpa using hi);exact#[a,ob,vv,n,by simpa using e1,e2,e3,e4,by rw[show k0+1+i=k0+(i+1)by omega];exact e5]
     have ef:(λi=>f (k0+i)) ∘ Nat.succ=λi=>f (k0+1+i):=by funext i;show f (k0+(i+1))=f (k0+1+i);rw[show k0+(i+1)=k0+1+i by omega]
     rw[ef];exact this
   have:=go gE (λi=>match gE.getD i abb with|.ref a=>(match h'.get? a with|some ob=>(match ob.data with|.seq vv _=>(vv[0]?).getD .none|_=>.none)|none=>.none)|_=>.none) 0 λi hi=>by obtain⟨a,ob,vv,x,t,n,e1,e2,e3,e4,e5,_⟩:=rowAt i hi;refine#[a,ob,vv,n,e1,e2,e3,e4,?_];rw[aaP,e1,e5];simp only[e2,e4,e5];rfl
   simpa using this
  refine PySem.W.kat_kind (T:=.type "str") Gj (by rw[aac,acl];omega) (λv hv=>?_) rfl ?_
  .obtain⟨i,hi,rfl⟩:=List.mem_map.mp hv;obtain⟨a,ob,vv,x,t,n,e1,e2,e3,e4,e5,_⟩:=rowAt i (List.mem_range.mp hi);rw[e1];simp only[e2,e4,e5];exact PySem.W.Looks.of_pure rfl
  .-- the questions
   have hT:((aci "str") != (aci "tuple"))=true:=by decide
   rw[hT];let lt:Nat->Nat->Bool:=λi j=>decide (B0 (nm.getD i #[#v[]]) (nm.getD j #[#v[]]));have R5:∀i j,i<gE.length->j<gE.length->(nm.getD i #[#v[]]).cps.toList=(nm.getD j #[#v[]]).cps.toList->i=j:=λi j hi hj e=>by
    have FQ:i<nm.length:=by rw[<- R.len];omega
    have Ho:j<nm.length:=by rw[<- R.len];omega
    have e':nm.getD i #[#v[]]=nm.getD j #[#v[]]:=by generalize nm.getD i #[#v[]]=x at e ⊢;generalize nm.getD j #[#v[]]=y at e ⊢;obtain⟨x⟩:=x;obtain⟨y⟩:=y;exact congrArg Str.mk (Array.toList_inj.mp e)
    rw[aaq,aaq,aab FQ,aab Ho]at e';exact(abD R.nd).mp e'
   have o:Srt.Ord lt gE.length:=by
    refine#[λi _=>?_,λi j k _ _ _ a b=>?_,λi j hi hj ne e=>?_]
    .show decide _=false;simp[B0,adI]
    .have a':=of_decide_eq_true a;have b':=of_decide_eq_true b;exact decide_eq_true (List.lt_trans (show _<_ from a') b')
    .have e':=of_decide_eq_false e;refine decide_eq_true ?_;unfold B0 at e' ⊢;rcases aaQ 0 0 with z|_
     .omega
     .have le:=List.not_lt.mp e';rcases List.le_iff_lt_or_eq.mp le with z|z
      .exact z
      .exact absurd (R5 j i hj hi z).symm ne
   refine Srt.pw_wp (lt:=lt) (n:=gE.length) (Q:=λp=>Srt.Pm p gE.length/\Srt.Lg lt p gE.length) (J:=λs'=>s'={s with heap:=h'}) ?_ ?_ (PySem.W.kas_sort gE.length) _ rfl (Srt.pN o #[] λp a b=>#[a,b])
   .rintro i j C s' hi hj ne rfl hC;obtain⟨a,ob,vv,x,t,n,e1,e2,e3,e4,e5,e6,_⟩:=rowAt i hi;obtain⟨a',ob',Nh,x',t',n',f1,f2,f3,f4,f5,f6,_⟩:=rowAt j hj;show wpAny _ _ (keyLt' (afc true) (gE.getD i abb) (gE.getD j abb)) _ _ _;rw[e1,f1];refine PySem.W.kat_lt e2 e4 f2 f4 ?_;have g1:vv.toList=.str x t::vv.toList.tail:=by
     cases h:vv.toList with
     |nil=>
          have:vv[0]?=vv.toList[0]?:=by simp
          rw[this,h]at e5;cases e5
     |cons y r=>
            have:vv[0]?=vv.toList[0]?:=by simp
            rw[this,h]at e5;have:y=.str x t:=by simpa using e5
            rw[this];rfl
    have g2:Nh.toList=.str x' t'::Nh.toList.tail:=by
     cases h:Nh.toList with
     |nil=>
          have:Nh[0]?=Nh.toList[0]?:=by simp
          rw[this,h]at f5;cases f5
     |cons y r=>
            have:Nh[0]?=Nh.toList[0]?:=by simp
            rw[this,h]at f5;have:y=.str x' t':=by simpa using f5
            rw[this];rfl
    rw[g1,g2,abX];have d1:nm.getD i #[#v[]]=x:=by rw[aaq,e6];rfl
    have d2:nm.getD j #[#v[]]=x':=by rw[aaq,f6];rfl
    have hne:x≠x':=λz=>ne (R5 i j hi hj (by rw[d1,d2,z]));refine PySem.W.kat_cons (ae0 ?_);rw[decide_eq_false hne];refine PySem.W.kat_no ?_;show wpAny _ _ (oneLt' true (.str x t) (.str x' t')) _ _ _;refine oneLt_str ?_;have:=hC _ rfl;have el:lt i j=decide (x.cps.toList<x'.cps.toList):=by show decide (B0 _ _)=_;rw[d1,d2];rfl
    rw[el]at this;exact this
   .rintro pa s' rfl ⟨P,As⟩;refine PySem.W.KasFin.intro F' N' (.head λq hq=>?_) λMS c F2 N2=>?_
    .exact aas (hD q hq)
    .have Rb:∀b o,b≠X.env.locals->s.heap.get? b=some o->MS.get? b=some o:=λb o hb e=>by
      cases q:X.base.get? b with
      |some ob=>have:=I.bk b ob q;rw[e]at this;cases this;exact F2.keep b _ q
      |none=>exact(N2 (b,o) (aam _ (eM hb q e))).1
     have Vk:=(N2 _ aan)
     have RS:s.heap.get? D=none:=by
      cases q:s.heap.get? D with
      |none=>rfl
      |some od=>exact absurd (Zy D od Vk.2.1 Vk.2.2 q) (abv _)
     have RB:∀i∈pa.toList,i<vs.length:=λi hi=>by obtain⟨j,hj,rfl⟩:=Array.mem_iff_getElem.mp (Array.mem_toList_iff.mp hi);have:=P.lt j (by rw[<- P.sz];exact hj);rw[Srt.aK]at this;simp only[abT hj,Option.getD_some]at this;omega
     have q:=k D pa.toList (I.Bv.dead RS) (by rw[aaK,P.sz];omega) ?_ RB ?_
     .refine#[_,rfl,aae #[_,rfl,.ref D,_,I.MH (xs:=pa.toList.map λi=>vs.getD i .Bw) F.ns F2.ns Rb RS #[?_,pa.toList.map λi=>gE.getD i abb,c,rv.pick _ RB,Vk.1],rfl,q]];rw[aac,aaK,P.sz];exact hz
     .rw[ab8,ace];intro i j hi hj Ew e;have FQ:i<pa.size:=by simpa using hi
      have Ho:j<pa.size:=by simpa using hj
      have:=P.nd i j (by rw[<- P.sz];exact FQ) (by rw[<- P.sz];exact Ho) (by rw[Srt.aK,Srt.aK];simpa[FQ,Ho]using e);omega
     .rw[adP,ace];intro i j hi hj Ew;have FQ:i<pa.size:=by simpa using hi
      have Ho:j<pa.size:=by simpa using hj
      have:=As i j Ew (by rw[<- P.sz];exact Ho);rw[Srt.aK,Srt.aK]at this;have:=of_decide_eq_true this;simpa[FQ,Ho]using this
def rN:BM X (.builtin "sorted") (NN X.K):=by intro pins s U H xs us Q I r h;obtain⟨p,vs,nm,rfl,hq,EJ,R,k⟩:=h;obtain⟨u,rfl,ru⟩:=r.one;cases ru;obtain⟨gE,rv,pl,hz⟩:=I.list hq;refine sk (λR' g=>collect_list pl.isList (g _ s.toks λb o e=>?_) (by rw[<- rv.length];exact hz)) λh1 tk kk=>uJ (I.kept kk) rv (by rw[<- rv.length];exact hz) EJ R k;have hb  := aah e;rw[aeo _ _ _ _ (aas hb)];exact aad _ e
section
open PySem.SeqAt
open PySem.AutoSeq1 (wpAny_loadPart')
open PySem.MeetsSeq PySem.MeetsSeq2 PySem.MeetsSeq3
end
def Io(K:aaf):R2:=λx y H Q=>∃a b xs,x=.ref a/\y=.ref b/\CN K H a xs/\CN K H b []/\Q (.bl (!xs.isEmpty)) H
def nZ(hu:X.A.units<cLine):Co X (aa4 .NotEq) (Io X.K):=by
 intro pins s U H x y v u Q I rx ry h;obtain⟨a,b,xs,rfl,rfl,ha,hb,q⟩:=h;cases rx;cases ry;obtain⟨gE,r1,p1,_⟩:=I.list ha;obtain⟨CQ,r2,p2,_⟩:=I.list hb;cases r2;have fin:∀k,k=(!xs.isEmpty)->EP X pins U Q (.bool k) s:=λk e=>by subst e;exact#[.bl _,H,I,rfl,q]
 cases r1 with
 |nil=>exact SeqAt.RcNeAt.lists (e:=λ_=>true) p1.isList p2.isList rfl hu (λj h1 h2=>absurd h1 #[0]) X.prog X.w X.xe _ (fin _ rfl)
 |cons _ _=>exact SeqAt.RcNeAt.lists_lengths p1.isList p2.isList #[0] hu X.prog X.w X.xe _ (fin _ rfl)
noncomputable def G5(x:Str)(n:Nat):Str:=#[(aaO n x.cps.toList).flatten.toArray]
def Mx:R2:=λx y H Q=>∃(z:Str) (i:Int),x=.str z/\y=.int i/\0<=i/\i<=1000/\z.length<=1000/\Q (.str (G5 z i.toNat)) H
def mt(x:Array Nat):∀(n:Nat) (acc:Array Nat),((aaO n x).foldl (·++·) acc)=acc++(aaO n x.toList).flatten.toArray
 |0,acc=>by simp
 |n+1,acc=>by rw[acp,List.foldl_cons,mt x n,acp];apply Array.toList_inj.mp;simp
theorem wL(x:Str)(i:Int)(h:0<=i):Txt.mul x i=G5 x i.toNat:=by
 unfold Txt.mul G5;by_cases h1:i<1
 .have:i=0:=by omega
  subst this;rfl
 .rw[if_neg h1];by_cases h2:(i==1 || x.length==0)=true
  .rw[if_pos h2];rw[aee]at h2;obtain⟨x⟩:=x;rcases h2 with z|z
   .have  :=by simpa using z
    subst this;simp
   .have hz:x.size=0:=by simpa[Str.length]using z
    have  := Array.eq_empty_of_size_eq_zero hz;subst this;simp
  .rw[if_neg h2,mt];simp
theorem xy:Co X (acg .Mult) Mx:=by
 intro pins s U H x y v u Q I rx ry h;obtain⟨z,i,rfl,rfl,h0,h1,h2,q⟩:=h;obtain⟨t,rfl⟩:=rx;obtain⟨t',rfl⟩:=ry;refine SB.mul #[?_,λ_ _ hh=>?_,λ_ _=>?_] λt2 k=>?_
 .rw[decide_eq_false #[],decide_eq_false #[]];rfl
 .have:(2 ^ 63 - 1) / i ≥ 2 ^ 50:=by apply (Int.le_ediv_iff_mul_le #[]).mpr;omega
  omega
 .have:z.length*i.toNat<=1000*1000:=Nat.mul_le_mul h2 #[];refine decide_eq_false ?_;rw[aaJ];omega
 .rw[wL z i h0];exact#[.str _,H,I.tok k,#[_,rfl],q]
def QM(K:aaf):Aai->Hp->VK->Prop:=λxs H Q=>∃x t c b,xs=[x,.ty c]/\E5 K H x t/\aek K t (.type c)=some b/\Q (.bl b) H
def wm:BM X (.builtin "isinstance") (QM X.K):=by
 intro pins s U H xs us Q I r h;obtain⟨x,t,c,b,rfl,ty,e,q⟩:=h;cases r with
 |cons r1 r2=>
  cases r2 with
  |cons r2 r3=>cases r3;cases r2;exact tU I r1 ty e λtk=>#[.bl b,H,I.tok tk,rfl,q]
def TR(wi:TI)(g:TG)(tc:TT)(tk te:TE)(js:Aah):TE:=λU H Q=>wi U H λJ H1=>∀l,H1 l=none ->
 ∃W:Nat->Nat->List (Key×V)->Hp->Prop,(∃m,W 0 m [] (upd H1 l (.dK [])))/\∀i m ys H2,W i m ys H2 ->
  (J.stop i H2/\Q (.ref l) H2)\/(J.go i H2/\∀x H3,J.yld i H2 x H3->g x (BL js U) H3 λsb H4=>tc sb H4 λb H5=>if b=true then tk sb H5 λkk H6=>te sb H6 λy H7=>∃key,kk=kV key/\H7 l=some (.dK ys)/\ys.length<sizeLine/\∃m',m'<m/\W (i+1) m' (putK ys key y) (upd H7 l (.dK (putK ys key y)))else ∃m',m'<m/\W (i+1) m' ys H5)
variable{tg kx vx iter:Expr}{ifs:Aak}{scope:Scope}{pos:Pos}{wi:TI}{g:TG}{tc:TT}{tk te:TE}{N:Aaa}{js:Aah}
variable{use:Option (Value->Sem Unit)}{QQ:Aab}{pos':Pos}
theorem qx{Q:VK}(hc:X.calm=true)(hx:X.xe=λ_ _=>False)(hi:PI X tg iter wi)
  (hg:∀C s0 Ha ex pn,PG (iN X scope N C s0 Ha ex pn) tg g) (ht:∀C s0 Ha ex pn,PF (iN X scope N C s0 Ha ex pn) ifs tc) (hk:∀C s0 Ha ex pn,PE (iN X scope N C s0 Ha ex pn) kx tk) (he:∀C s0 Ha ex pn,PE (iN X scope N C s0 Ha ex pn) vx te) (IC:DC js g)
  (Dq:DI X.env scope=true) (BP:Cw X.N scope N js=true) (BA:scope.kind=.function) (hs:∀x,aaC iter X.env x=pure x)
  (I:Inv X pins U H s) (h:TR wi g tc tk te js U H Q)
  (fin:∀(l C:Addr) (H':Hp) (s':Shared),Inv X pins U H' s'->Q (.ref l) H'->H' C=none->C≠X.env.locals->X.s0.heap.objs.size<=C->(∀x c,X.env.cells.lookup x=some c->c≠C)->(∀p∈X.pn++pins,p.1≠C)->(∃m,s'.heap.Ns C m)->adU (model X.prog X.w) X.A E use QQ (.ref l) C (.ok .next) s') :
  wpAny (model X.prog X.w) X.A (comprehension (.DictComp kx vx [#[tg,iter,ifs,0]] scope pos) scope X.env pos' newDict false (eval iter X.env) use) QQ E s:=by
 have SC:=kN Dq;have CP:=jK BP;refine adM (cl:=Dn X.env.cells scope.names []) rfl hs (cL (SC.cells I.ok)) BA SC.lc ?_;refine aay (hi pins s U H _ I h) (λv s1 h1=>aay h1 (λO0 s2 h2=>?_) (λ_ _ z=>by rw[hx]at z;exact z.elim)) (λ_ _ z=>by rw[hx]at z;exact z.elim);obtain⟨it,fp,tn,J,H2,rfl,I2,T,Lh,f2,hq⟩:=h2;have MQ:H2 s2.heap.objs.size=none:=I2.Bv.fresh (aaj _);obtain⟨W,⟨m0,w0⟩,turn⟩:=hq s2.heap.objs.size MQ;refine aaa (wpAny_alloc (aae (adf (λx hx=>SC.nc x hx) (by intro y hy;simp at hy) (λh₁ hns1 hsb1=>?_) BA)));dsimp only at hns1 hsb1 ⊢;generalize KD:s2.heap.push ({cls:=.type "dict",data:=.dict #v[]}:Obj)=hp3 at hns1 hsb1 ⊢;have MR:hp3.objs.size=s2.heap.objs.size+1:=by rw[<- KD,abn]
 have I3:Inv X pins U (upd H2 s2.heap.objs.size (.dK [])) {s2 with heap:=hp3}:=by rw[<- KD];exact I2.laid (t':=s2.toks) (λb u e=>aad _ e) (aaj _) (oH s2.heap I2.Xv)
 have keep:∀b o,hp3.get? b=some o->h₁.get? b=some o:=λb o e=>hsb1.extBut b o (aas (aah e)) (aad _ e);have KI:∀b∈fp,b<s2.heap.objs.size:=λb hb=>by obtain⟨o,e,_⟩:=T.obj _ _ Lh b hb;exact aah e
 have f3:∀b∈fp,Dz X pins (upd H2 s2.heap.objs.size (.dK [])) b:=λb hb=>#[by rw[af (aas (KI b hb))];exact(f2 b hb).1,(f2 b hb).2]
 have J4:=jE (tk:=s2.toks+([]:Aar).length) (C:=hp3.objs.size) (fp:=fp) (h₁:=h₁) (scope:=scope) (N:=N) (js:=js) I3 SC CP BA f3 (λb hb=>by show b<hp3.objs.size;rw[MR];exact abk (KI b hb)) rfl keep #[1];have Mr:tn 0 h₁:=T.keep _ _ _ Lh λb hb o e=>keep b o (by rw[<- KD];exact aad _ e);have loop:∀s4:Shared,s4={s2 with heap:=h₁,toks:=s2.toks+([]:Aar).length} ->
   acS (model X.prog X.w) X.A (.compLoop (.DictComp kx vx [#[tg,iter,ifs,0]] scope pos) 0 (.ref it) (.ref s2.heap.objs.size) (aev scope (Dn X.env.cells scope.names []) hp3.objs.size X.env)) (adU (model X.prog X.w) X.A E use QQ (.ref s2.heap.objs.size) hp3.objs.size) s4:=by
  rintro s4 rfl;generalize hY:iN X scope N hp3.objs.size {s2 with heap:=hp3} (upd H2 s2.heap.objs.size (.dK [])) fp (X.pn++pins)=Y at J4;have KJ:∀{H':Hp},(∀b∈fp,H' b=none)->∀b∈fp,Dz Y [] H' b:=λhn b hb=>by
   subst hY;refine#[hn b hb,?_,?_,.inl hb,λx c e=>?_,λp hp=>?_]
   .show b≠hp3.objs.size;rw[MR];exact aas (abk (KI b hb))
   .intro z;rcases List.mem_cons.mp (I3.Ej b z)with q|q
    .exact(f3 b hb).2.1 q
    .exact(f3 b hb).2.2.1 q
   .exact(f3 b hb).2.2.2.2.1 x c (ck (SC.cells I.ok) (λc e=>by simp at e) e)
   .exact(f3 b hb).2.2.2.2.2 p (by simpa[iN]using hp)
  have RF:PG Y tg g:=by subst hY;exact hg _ _ _ _ _
  have UI:PF Y ifs tc:=by subst hY;exact ht _ _ _ _ _
  have YZ:PE Y kx tk:=by subst hY;exact hk _ _ _ _ _
  have RH:PE Y vx te:=by subst hY;exact he _ _ _ _ _
  have eA:Y.A=X.A:=by subst hY;rfl
  have eP:Y.prog=X.prog:=by subst hY;rfl
  have eW:Y.w=X.w:=by subst hY;rfl
  have eK:Y.K=X.K:=by subst hY;rfl
  have eC:Y.calm=true:=by subst hY;exact hc
  have eX:Y.xe=λ_ _=>False:=by subst hY;rfl
  have eE:Y.env=aev scope (Dn X.env.cells scope.names []) hp3.objs.size X.env:=by subst hY;rfl
  have T':Turn Y.prog Y.w Y.K tg J fp it tn:=by rw[eP,eW,eK];exact T
  have eL:(BL js U).length=js.length:=by unfold BL;rw[aac]
  rw[<- eP,<- eW,<- eA,<- eE];refine aeU rfl (λn s'=>∃i ys H',Inv Y [] (BL js U) H' s'/\tn i s'.heap/\(∀b∈fp,H' b=none)/\W i n ys H') (λn s' hI=>?_) m0 #[0,[],_,J4,Mr,λb hb=>(f3 b hb).1,w0];obtain⟨i,ys,H5,I5,JO,LA,w5⟩:=hI;refine ae9 ?_;rw[compTurn_dict];refine aaa (abR (aaa ?_));have EH:∀(x:Value) (s:Shared) (P:Prop),Y.xe x s->P:=λx s P z=>by rw[eX]at z;exact z.elim
  rcases turn i n ys H5 w5 with ⟨stop,qn⟩|⟨go,step⟩
  .refine aay (T'.done Y rfl rfl rfl eC i [] s' _ H5 Y.xe I5 (KJ LA) JO stop) (λr s6 #[hr,I6]=>?_) λx s z=>EH x s _ z;subst hr;refine aae ?_;show adU _ _ _ _ _ _ _ _ _;rw[eP,eW,eA];have back:Inv X pins U H5 s6:=by subst hY;exact jF I3 I6 f3
   have JC:∃m,s6.heap.Ns hp3.objs.size m:=by
    obtain⟨m,hm,_⟩:=I6.loc;have:Y.env.locals=hp3.objs.size:=by rw[eE];rfl
    rw[this]at hm;exact#[m,hm]
   have RT:H5 hp3.objs.size=none:=by
    have:=I6.free;have e:Y.env.locals=hp3.objs.size:=by rw[eE];rfl
    rw[e]at this;exact this
   refine fin s2.heap.objs.size hp3.objs.size H5 s6 back qn RT ?_ ?_ ?_ ?_ JC
   .exact abL I3.lt
   .exact I3.sz
   .intro x c e z;obtain⟨v,o,ho,_⟩:=I3.cell x c e;exact absurd (aah ho) (by rw[z];exact abv _)
   .intro p hp z;have:=aah (I3.pin p hp).1;rw[z]at this;exact absurd this (abv _)
  .refine aay (T'.item Y rfl rfl rfl eC i [] s' _ H5 Y.xe I5 (KJ LA) JO go) (λr s6 h6=>?_) λx s z=>EH x s _ z;obtain⟨u,hr,h6⟩:=h6;subst hr;dsimp only;refine aaa ?_;refine aay h6 (λ_ s7 h7=>?_) λx s z=>EH x s _ z;obtain⟨x,H7,I7,r7,y7,J5,RW⟩:=h7;have Sr:=I7.pinned (KJ RW) (T.obj _ _ J5);have g7:=IC x (BL js U) H7 _ (step x H7 y7);refine aaa ?_;refine aay (RF _ s7 (BL js U) H7 x u _ Sr r7 g7) (λ_ s8 h8=>?_) λx s z=>EH x s _ z;obtain⟨sd,H8,I8,q8,l8,k8⟩:=h8;refine aaa ?_;refine aay (UI _ s8 sd H8 _ I8 q8) (λb s9 h9=>?_) λx s z=>EH x s _ z;obtain⟨H9,I9,q9⟩:=h9;have again:∀{s':Shared} {H':Hp},Inv Y ([]++C5 fp s7.heap) sd H' s'->Inv Y [] (BL js U) H' s'/\tn (i+1) s'.heap/\∀b∈fp,H' b=none:=λ{s' H'} I'=>by
    refine#[(I'.CU).weak l8.symm λk v e=>?_,T.keep _ _ _ J5 λb hb o e=>(I'.pin (b,o) (aak _ (aak _ (aM hb e)))).1,λb hb=>?_]
    .cases ej:js[k]? with
     |none=>unfold BL at e;rw[aal,ej]at e;cases e
     |some o=>
      cases o with
      |none=>unfold BL at e;rw[aal,ej]at e;cases e
      |some j=>rw[k8 k j ej];exact e
    .obtain⟨o,e,d⟩:=T.obj _ _ J5 b hb;exact(I'.pin (b,o) (aak _ (aak _ (aM hb e)))).2.1
   cases b with
   |false=>rw[if_neg aaF]at q9;obtain⟨m',hm,w9⟩:=q9;obtain⟨a1,a2,a3⟩:=again I9;exact aae #[rfl,m',hm,i+1,ys,H9,a1,a2,a3,w9]
   |true=>
    rw[if_pos rfl]at q9;refine aaa (aaa ?_);refine aay (YZ _ s9 sd H9 _ I9 q9) (λkv Qz RV=>?_) λx s z=>EH x s _ z;obtain⟨kk,Su,Ss,Uc,X8⟩:=RV;refine aaa (aaY ?_);refine aay (RH _ Qz sd Su _ Ss X8) (λvv Wi Vn=>?_) λx s z=>EH x s _ z;obtain⟨yv,Pl,OO,X6,key,ek,Tp,z11,m',hm,TC⟩:=Vn;subst ek;refine aaa (abR (aaY ?_));obtain⟨zz,hd,vs,rel,dd⟩:=ku OO.Bv Tp;have hz:vs.length<=sizeLine:=by rw[<- rel.length];exact zz
    have hl:(putK ys key yv).length<=sizeLine:=by have:=cr ys key yv;omega
    refine wpAny_dictSet_pairs (hsz:=hz) (dX Uc) dd λh' LB hs=>?_;have he:∃q,h'.get? s2.heap.objs.size=some q:=let #[q,_,_,hq,_]:=LB;#[q,hq]
    have VP  := iu (t':=Wi.toks+1) OO (by rw[Tp];exact acu) hs he (oG hl hd (rel.put key X6) LB);obtain⟨a1,a2,a3⟩:=again VP;exact aae #[rfl,m',hm,i+1,putK ys key yv,_,a1,a2,a3,TC]
 exact codeAny_compStart_dict (loop _ rfl) (T.self X.A 0 _ _ _ Mr (loop _ rfl))
def A0(hi:PI X tg iter wi)(hg:∀C s0 Ha ex pn,PG (iN X scope N C s0 Ha ex pn) tg g)(ht:∀C s0 Ha ex pn,PF (iN X scope N C s0 Ha ex pn) ifs tc)(hk:∀C s0 Ha ex pn,PE (iN X scope N C s0 Ha ex pn) kx tk)(he:∀C s0 Ha ex pn,PE (iN X scope N C s0 Ha ex pn) vx te)(IC:DC js g)
  (hc:autoParam (X.calm=true) oR) (hx:autoParam (X.xe=(λ_ _=>False)) oR) (Dq:autoParam (DI X.env scope=true) oR) (BP:autoParam (Cw X.N scope N js=true) oR) (BA:autoParam (scope.kind=.function) oR) (hs:autoParam (∀x,aaC iter X.env x=pure x) At) :
  PE X (.DictComp kx vx [#[tg,iter,ifs,0]] scope pos) (TR wi g tc tk te js):=by
 intro pins s U H Q I h;refine qx hc hx hi hg ht hk he IC Dq BP BA hs I h λl C H' s' I' q f0 f1 f2 f3 f4 #[m,hm]=>?_;refine#[m,hm,λh' sb=>#[.ref l,H',?_,rfl,q]];exact I'.turned (λb o hb e=>sb.extBut b o hb e) f0 f1 (.inr f2) f3 f4
variable{i:Nat}{y:Str}{py:Pos}
def wz{B3:Pos}(hN:X.N.Nodup)(hy:X.N[i]?=some y)(hl:X.env.scope.names.lookup y=some .local)(hi:PI X tg iter wi)(hg:∀C s0 Ha ex pn,PG (iN X scope N C s0 Ha ex pn) tg g)(ht:∀C s0 Ha ex pn,PF (iN X scope N C s0 Ha ex pn) ifs tc)(hk:∀C s0 Ha ex pn,PE (iN X scope N C s0 Ha ex pn) kx tk)(he:∀C s0 Ha ex pn,PE (iN X scope N C s0 Ha ex pn) vx te)(IC:DC js g)
  (Iw:autoParam (abU (.DictComp kx vx [#[tg,iter,ifs,0]] scope pos) (some (.Name y py)) B3.line X.env=pure true) oR)
  (hc:autoParam (X.calm=true) oR) (hx:autoParam (X.xe=(λ_ _=>False)) oR) (Dq:autoParam (DI X.env scope=true) oR) (BP:autoParam (Cw X.N scope N js=true) oR) (BA:autoParam (scope.kind=.function) oR) (hs:autoParam (∀x,aaC iter X.env x=pure x) At) :
  PS X (.Assign [.Name y py] (.DictComp kx vx [#[tg,iter,ifs,0]] scope pos) B3) (Gk (TR wi g tc tk te js) (B8 i)):=by
 intro pins s U H D I h;rw[exec_Assign_Name_used _ _ _ _ Iw];refine aaa (abR (aaa ?_));refine aaa (aay (qx hc hx hi hg ht hk he IC Dq BP BA hs I h λl C H' s' I' q f0 f1 f2 f3 f4 #[m,hm]=>?_) (λ_ s' hq=>aae (aae hq)) λ_ _ e=>e);refine aeE (gG I' hN hy (.inl hl) (v:=.ref l) rfl (λQA VQ #[a,sb,ha]=>?_) (.inr hl));have Vf:C≠a:=by
  rcases ha with rfl|ha
  .exact f1
  .exact λz=>f3 _ _ ha z.symm
 refine#[m,hm.sameBut sb Vf,λh' TY=>#[_,H',?_,q]];exact VQ.turned (λb o hb e=>TY.extBut b o hb e) f0 f1 (.inr f2) f3 f4
def wj(hc:X.calm=true):BM X (.builtin "sum") (λxs H Q=>∃(p:Addr) (ns:Aas),xs=[.ref p]/\CN X.K H p (ns.map V.int)/\Q (.int ns.sum) H):=by
 intro pins s U H xs us Q I r h;obtain⟨p,ns,rfl,hq,q⟩:=h;obtain⟨u,rfl,ru⟩:=r.one;cases ru;obtain⟨gE,rv,pl,hz⟩:=I.list hq;have hi:=rp rv;obtain⟨zs,hx⟩:=hi.allInts.items;have HC  := hx ▸ pl.isList;refine sum_intListG (I.ok.hd hc) HC λh' tk t' hk=>#[.int ns.sum,H,I.kept hk,#[t',?_],q]
 have a1  :=by
  have z:=(show numsOf gE.toArray.toList=ns from hi.numsOf)
  rw[hx,nums_intItems]at z;exact z.symm
 have a2:preSum (numAt zs) zs.size=ns.sum:=by rw[preSum_eq,a1,ab7 #[0]]
 rw[a2]
def je:∀{bs:List Bool} {us:Aae},AS (bs.map V.bl) us->LSm.BoolsAre us bs
 |[],_,r=>by cases r;exact .nil
 |b::bs,_,r=>by
  cases r with
  |cons r1 r2=>cases r1;exact .cons b (je r2)
def wo(hc:X.calm=true):BM X (.builtin "all") (λxs H Q=>∃(p:Addr) (bs:List Bool),xs=[.ref p]/\CN X.K H p (bs.map V.bl)/\Q (.bl (bs.all id)) H):=by
 intro pins s U H xs us Q I r h;obtain⟨p,bs,rfl,hq,q⟩:=h;obtain⟨u,rfl,ru⟩:=r.one;cases ru;obtain⟨gE,rv,pl,hz⟩:=I.list hq;have hb:=je rv;have hl:=pl.isList;have Cn:p<s.heap.objs.size:=by obtain⟨_,e,_⟩:=hl;exact aah e
 refine call_all_walk (acH hl #[s.heap.objs.size,_,_,gE.toArray.size,_,_,λi=>(bs[i]?).getD true,rfl,
  Walks.list (A:=X.A.in1) (I.ok.hd hc) _ p (aas Cn) gE.toArray,#[#[_,aag _ rfl,rfl,rfl],hl.push _],λi v s' Q' E' hP hQ=>?_,λh' tk hk=>?_])
 .obtain⟨b,eb,rfl⟩:=hb.get i v #[1];simp only[eb]at hQ;exact ab0 hQ
 .have eb:((abd gE.toArray.size).all λi=>(bs[i]?).getD true)=bs.all id:=by rw[aap,hb.length,LSm.range_all bs]
  rw[eb];exact#[.bl _,H,I.kept (LSm.kept_iter hk),rfl,q]
variable{j t:Addr}{n:Nat}
def xG{gE:Aam}(gj:s.heap.IsTupleIter j t n)(gt:s.heap.IsTuple t gE)(gx:gE[n]?=some x)
  (k:∀h',h'.IsTupleIter j t (n+1)->abV j s.heap h'->Q x {s with heap:=h'}):wpAny (model prog w) A (aaT (.ref j)) Q E s:=by
 obtain⟨oj,j1,j2,j3⟩:=id gj;obtain⟨ot,t1,_,m,t3⟩:=gt;refine aaa (abp gj.typeIs acM (aa2 acM gj.typeIs afx ?_ (ae7 _)));show wpAny _ _ (field _ 0 >>= _) _ _ s;refine aaa (abz j1 j3 rfl ?_);refine aaa (abz j1 j3 rfl ?_);refine aaa (abm t1 t3 ?_);simp only[acL,gx];refine aaa (abY j1 j3 #[0] (aae #[x,rfl,aae (k _ #[_,abo _ j1 (ab9 (aa6 j3 _)),(ac7 ..).trans j2,?_] (aaN ..))]));rw[aa6 j3];simp[rawInt]
def OB{gE:Aam}(hh:A.handled=none)(gj:s.heap.IsTupleIter j t n)(gt:s.heap.IsTuple t gE)(gx:gE[n]?=none)
  (k:∀h' e,adZ j s.heap h'->(∃o,h'.get? e=some o/\o.cls=.type "StopIteration")->E (.ref e) {s with heap:=h'}):wpAny (model prog w) A (aaT (.ref j)) Q E s:=by
 obtain⟨oj,j1,j2,j3⟩:=id gj;obtain⟨ot,t1,_,m,t3⟩:=gt;unfold aaT;refine aaa (abp gj.typeIs acM (aa2 acM gj.typeIs afx ?_ (ae7 _)));show wpAny _ _ (field (.ref j) 0 >>= _) _ _ s;refine aaa (abz j1 j3 (x:=.ref t) rfl ?_);refine aaa (abz j1 j3 rfl ?_);refine aaa (abm t1 t3 ?_);simp only[acL,gx];refine aaa (acs (aaa (abY j1 j3 #[0] ?_)));refine aaa ?_;refine aaa (aa1 (aaa (m:=firstArgMember _ _) (ae8 (a:=abb) (rfl) (aa1 ?_ (by size_fits)))) (by size_fits));refine aaa (wpAny_handled ?_)
 first|rw[hh]|rw[hh]
 exact aaa (aae (wpAny_throw (k _ _ (((aaN ..).extBut.push _).push _) #[_,aag _ rfl,rfl])))
structure afZ(h:Heap)(z u o i1 i2 t1 t2:Addr)(n:Nat):Prop where
 zz:IsZip h z u o .none
 uu:IsPair h u (.ref i1) (.ref i2)
 oo:∃a b,IsPair h o a b
 a1:h.IsTupleIter i1 t1 n
 a2:h.IsTupleIter i2 t2 n
structure Mi(z u o i1 i2:Addr):Prop where
 uz:u≠z
 oz:o≠z
 x1z:i1≠z
 x2z:i2≠z
 uo:u≠o
 u1:u≠i1
 u2:u≠i2
 o1:o≠i1
 o2:o≠i2
 xx:i1≠i2
def Qf{gE:Aam}(x:h.IsTuple a gE)(k:∀o,h.get? a=some o->h'.get? a=some o):h'.IsTuple a gE:=by obtain⟨o,e,r⟩:=x;exact#[o,k o e,r]
variable{z u:Addr}{v:Value}
def qJ{o:Addr}{gE:Aam}(x:h.IsTuple t gE)(y:IsZip h z u o v):t≠z:=by rintro rfl;obtain⟨q,e,c,_⟩:=x;rw[y]at e;cases e;simp at c
variable{t':Nat}{fp:Aaj}
def Inv.DZ(I:Inv X pins U H s)(k:∀b o,b∉fp->s.heap.get? b=some o->h'.get? b=some o)(hf:∀b∈fp,Dz X pins H b):Inv X pins U H {s with heap:=h',toks:=t'}:=by
 have QW:∀b u,H b=some u->b∉fp:=λb u e z=>by rw[(hf b z).1]at e;cases e
 refine I.step (λb hb=>?_) (λb o _ _ hc e _=>k b o hc e) (λb o _ _ hc e _=>#[o.slots,k b o hc e]) (λ_ _ _ _ n=>n)
  (λb o hc e=>#[o,k b o hc e]) (λ_ _ e=>e) (λ_ _ _ e=>e) (λb ps e=>#[#v[],#[1]]) (λm hm=>?_) (λb u e=>?_) I.bare
 .obtain⟨f0,f1,f2,f3,f4,f5⟩:=hf b hb;exact#[f3,f1,f4,f5]
 .obtain⟨o,es,ep,ho,r⟩:=hm;exact#[o,es,ep,k _ o (λz=>(hf _ z).2.1 rfl) ho,r]
 .refine(I.Bv b u e).G1 (λc v hc q=>k c v ?_ q) (λ_ q=>q) λ_ _ q=>q;rcases hc with z|z
  .rw[z];exact QW b u e
  .exact QW c _ z
theorem Vq(n:Nat):Mi (n+4) (n+2) (n+3) n (n+1) :=
 #[show ¬ (n+2=n+4)by omega,show ¬ (n+3=n+4)by omega,show ¬ (n=n+4)by omega,show ¬ (n+1=n+4)by omega,show ¬ (n+2=n+3)by omega,show ¬ (n+2=n)by omega,show ¬ (n+2=n+1)by omega,show ¬ (n+3=n)by omega,show ¬ (n+3=n+1)by omega,show ¬ (n=n+1)by omega]
def iK{sl:Addr}{gE:Aam}{vl vu:Value}{lo hi:Option Int}(g:IsTup s.heap t gE)(hs:s.heap.IsSliceOf sl vl vu .none)(pl:IsPart vl lo)(pu:IsPart vu hi)
  (hw:HT.Cv gE.size 0 lo=0/\HT.Cv gE.size gE.size hi=gE.size) (k:Q (.ref t) s):wpAny (model prog w) A (ad6 (.ref t) (.ref sl)) Q E s:=by
 obtain⟨q,q1,q2,q3⟩:=id hs;have ty:s.TypeIs (.ref sl) "slice" := #[q,q1,q2]
 unfold ad6;try with_reducible refine aaY ?_
 first|refine aaa (aae ?_)|skip
 refine aaa (wpAny_sequenceKey g.typeIs #[2] (aaa (abp (name:=aaE "__getitem__") g.typeIs acj (aa2 acj g.typeIs entry_tuple_getitem ?_ (args_tuple_getitem _ _)))));refine aaa (m:=afB (.ref t)) (tupleItemsOf_ g (aaa (ad4 ty ?_)));rw[if_pos #[2]];refine aaa (HT.Dd hs pl pu ?_);show wpAny _ _ (if (((HT.Cv gE.size 0 lo:Nat):Int)==0 && (1:Int)==1 && (HT.Cv gE.size gE.size hi - HT.Cv gE.size 0 lo)==gE.size)=true then _ else _) _ _ s;rw[if_pos (by rw[hw.1,hw.2];simp)];refine aaa ?_;unfold Builtin.Tuple.tupleIsExact;refine aaa (ad4 g.typeIs (aae ?_));rw[if_pos #[2]];exact aaa (acs (aae #[_,rfl,aae k]))
def T6(K:aaf):V->Option Int->Option Int->Hp->VK->Prop:=λx lo hi H Q=>∃a xs,x=.ref a/\C3 K H a xs /\
 (HT.Cv xs.length 0 lo=0/\HT.Cv xs.length xs.length hi=xs.length->Q (.ref a) H)/\∀p,H p=none->Q (.ref p) (upd H p (.tup (FY xs lo hi)))
def wU:LD X (T6 X.K):=by
 intro pins s U H x v vl vu lo hi sl Q I rx hs pl pu h;obtain⟨a,xs,rfl,hx,hq,q⟩:=h;by_cases hw:HT.Cv xs.length 0 lo=0/\HT.Cv xs.length xs.length hi=xs.length
 .cases rx;obtain⟨gE,r,ht,hz⟩:=I.tuple hx;have hn:gE.toArray.size=xs.length:=by exact r.length.symm
  refine#[_,_,PyProof.Rows.slot_tuple_getitem.lookup,ht.typeIs,iK ht hs pl pu #[1] #[.ref a,H,I,rfl,hq hw]]
 .exact yU pins s U H _ v vl vu lo hi sl Q I rx hs pl pu #[a,xs,rfl,hx,hw,q]
theorem qK(hc:wpAny (model prog w) A.in1 (collect x) (λvs s1=>∃(ss:Aaa) (h1:Heap) (tk:Nat),s1={s with heap:=h1,toks:=tk}/\acw vs ss/\vs.length<64 /\
   (∀(h2:Heap) (out:Aae) (Fi:Aaa) (n:Nat),(∀b o,h1.get? b=some o->h2.get? b=some o)->h2.get? h1.objs.size=some (seqObj "list" out.toArray n)->acw out Fi->Fi.Perm ss->sortedS Fi=true->Q (.ref h1.objs.size) {s with heap:=h2,toks:=tk})) E s) :
  wpAny (model prog w) A (call (.builtin "sorted") [x]) Q E s:=by
 refine adJ afi aeS aeT (args_sorted1 _) ?_;unfold adx.«sorted»;refine aaa (m:=checkCount "sorted" 1 1 _) (aae (aaa (aay hc (λvs s1 hv=>?_) λ_ _ e=>e)));obtain⟨ss,h1,tk,rfl,hS,EJ,k⟩:=hv;refine aaa (acI ?_ (by rw[aaJ];omega));have OJ:(h1.push (seqObj "list" vs.toArray 0)).get? h1.objs.size=some (seqObj "list" vs.toArray 0):=aag _ rfl;refine aaa (aaY (aa2 adF #[_,OJ,rfl] adq (list_sort_treeK strKind_oneLt OJ hS.keysOf (λv1 v2 rest e=>keyKind_strs (by rw[<- e];exact hS)) EJ λst p q=>#[_,rfl,?_]) (aej _)));obtain⟨Fi,b1,b2,b3⟩:=sorted_out_str hS p q;obtain⟨n,at2⟩:=sortedHeap_at (out:=(arrOf st).map (·.2)) OJ;refine aae #[_,rfl,k _ ((arrOf st).map (·.2)).toList Fi n (λb o e=>?_) (by rw[Array.toArray_toList];exact at2) b1 b2 b3];have lt:=aah e;rw[sortedHeap_old (aas lt) (by rw[size_push'];exact abk lt)];exact aad _ e
def oq:∀{eQ:List (Key×Value)} {ss:Aaa} {vs:Aae},eQ.map (·.1)=ss.map aaU->vs.length=eQ.length->(∀(j:Nat) (v:Value),vs[j]?=some v->∃k x,eQ[j]?=some (k,x)/\(ay P w).is k v=true)->acw vs ss
 |[],ss,vs,e,hl,_=>by
  have:ss=[]:=by simp_all
  subst this;have  := List.length_eq_zero_iff.mp hl;subst this;exact .nil
 |(k,x)::r,ss,vs,e,hl,h=>by
  cases ss with
  |nil=>cases e
  |cons y ys=>
   cases vs with
   |nil=>cases hl
   |cons v us=>injection e with e1 e2;obtain⟨k',x',e3,e4⟩:=h 0 v rfl;have ZM  := aar e3;cases ZM;have R3  := e1;subst R3;obtain⟨t,rfl⟩:=aen e4;exact .cons y t (oq e2 #[1] λj u hj=>h (j+1) u hj)
def NO:Aai->Hp->VK->Prop:=λxs H Q=>∃(d:Addr) (eQ:List (Key×V)) (ss:Aaa),xs=[.ref d]/\H d=some (.dK eQ)/\eQ.map (·.1)=ss.map aaU/\ss.length<64 /\
 ∀(l:Addr) (Fi:Aaa),H l=none->Fi.Perm ss->Fi.Pairwise (λa b=>¬ B0 b a)->Q (.ref l) (upd H l (.lst (Fi.map V.str)))
theorem rO(hc:X.calm=true):BM X (.builtin "sorted") NO:=by
 intro pins s U H xs us Q I r h;obtain⟨d,eQ,ss,rfl,hd,hk,EJ,k⟩:=h;obtain⟨u,rfl,ru⟩:=r.one;cases ru;obtain⟨hz,lo,vs,YY,hD⟩:=I.Bv d _ hd;obtain⟨ep,Zh⟩:=hD.dictAt;have MM:vs.map (·.1)=ss.map aaU:=by rw[<- hk];exact YY.keys.symm
 have hlen  :=by have:=congrArg ac8 MM;simpa using this
 refine qK (PySem.W.kdu_collect (PySem.W.kdl_dict lo) (I.ok.hd hc) Zh (by rw[aaJ];omega) λh1 tk acc kk hit=>?_);have hl:acc.toList.length=vs.length:=by exact hit.1
 have hS  := oq MM hl λj v e=>hit.2 j v #[1];refine#[ss,h1,tk,rfl,hS,#[1],λh2 out Fi n k2 e2 o1 o2 o3=>?_];have I1:Inv X pins U H {s with heap:=h1,toks:=tk}:=I.kept kk;refine#[.ref h1.objs.size,_,I1.laid (λb o q=>k2 b o q) (aaj _) ?_,rfl,k _ Fi (I1.Bv.fresh (aaj _)) o2 (eB o3)];exact#[by rw[aac,o2.length_eq,aaJ];omega,out,n,dN o1,e2]
noncomputable def Gp(P:aaD)(w:World)(a:Addr)(S:Str->Bool)(n:Nat):HO:=.ext λh=>h.SetOf (aez P w) a S n
def uP{S:Str->Bool}(x:h.SetOf (aez P w) a S n)(k:∀o,h.get? a=some o->h'.get? a=some o):h'.SetOf (aez P w) a S n:=by obtain⟨o,es,ep,t,e,r⟩:=x;exact#[o,es,ep,t,k o e,r]
def setOk{S:Str->Bool}(x:h.SetOf (aez P w) a S n):BG P w H h a (Gp P w a S n) :=
 #[x,(by obtain⟨o,_,_,_,e,_⟩:=x;exact#[o,e]),λh1 h2 y k=>uP y k]
def ur:BM X (.type "set") (λxs H Q=>xs=[]/\∀p,H p=none->Q (.ref p) (upd H p (Gp X.prog X.w p (λ_=>false) 0))):=by
 intro pins s U H xs us Q I r h;obtain⟨rfl,q⟩:=h;cases r;refine call_set_0 λled=>#[.ref s.heap.objs.size,_,I.laid (λb o e=>aad _ e) (aaj _) (setOk ?_),rfl,q _ (I.Bv.fresh (aaj _))]
 exact#[_,#v[],0,_,aag _ rfl,#[rfl,rfl,rfl],rfl,λe he=>#[1],λk=>#[0],#[2],#[4],rfl]
def sV:Co X (aa4 .NotIn) (λx y H Q=>∃z a S n,x=.str z/\y=.ref a/\H a=some (Gp X.prog X.w a S n)/\Q (.bl (!S z)) H):=by intro pins s U H x y v u Q I rx ry h;obtain⟨z,a,S,n,rfl,rfl,ha,q⟩:=h;obtain⟨t,rfl⟩:=rx;cases ry;obtain⟨x,_,_⟩:=I.Bv a _ ha;exact wpAny_notInSet_of (aef _ _ _ _) rfl x #[.bl _,H,I.tok _,rfl,q]
def wO(P:aaD)(w:World)(to:TE)(t:TA):TE:=λU H Q=>to U H λx H1=>∃a S n,x=.ref a/\H1 a=some (Gp P w a S n)/\t U H1 λys H2=>∃k S2 n2,ys=[.str k]/\H2 a=some (Gp P w a S2 n2)/\n2+1<scanBound /\
 Q .Bw (upd H2 a (Gp P w a (λk'=>S2 k' || decide (k'=k)) (if S2 k then n2 else n2+1)))
variable{e:Expr}{to:TE}
def sI{o:Expr}{t:TA}{apos BQ:Pos}(ho:PE X o to)(ha:PA X [e] t)
  (Cb:autoParam (abS o "add" X.env (eval o X.env)=eval o X.env) oR)
  (FR:autoParam (((backTo BQ (aai [e] X.env)).all (λx=>!x.1) && (aew BQ (ado [] X.env)).all (λx=>x.1.isSome)
   && decide ([e].length+([]:List ade).length+(if ([]:List ade).isEmpty then 0 else 1)<30))=true) oR)
  (Ca:autoParam ((apos.endLine==BQ.line)=true) oR) (hs:autoParam (aai [e] X.env=(false,eval e X.env)::aai [] X.env) oR) (Du:autoParam ((backTo BQ (aai [] X.env)).any (·.1)=false) oR) :
  PE X (.Call (.Attribute o "add" apos) [e] [] BQ) (wO X.prog X.w to t):=by
 refine λpins s U H Q I h=>wpAny_Call_method_late Cb FR Ca rfl (BZ (ho pins s U H _ I h) λv s1 #[x,H1,I1,r1,a,S,n,e1,hS,q1]=>?_);subst e1;cases r1;obtain⟨xs,_,_⟩:=I1.Bv a _ hS;refine#[_,_,PySem.F.plainAttrs_set,PySem.F.slot_set_add,PySem.F.type_set_add,xs.typeIs,λc e=>xs.noDict c e,?_];have hA:=ha BQ pins s1 U H1 _ I1 q1;rw[hs]at hA ⊢;refine ac5 (rfl) (Calls.evalArgs_plain (BZ hA λus s2 #[vs,H2,I2,r2,k,S2,n2,e2,Tj,hn,q2]=>?_));subst e2;obtain⟨u,rfl,t,rfl⟩:=r2.one;obtain⟨ys,_,_⟩:=I2.Bv a _ Tj;refine call_set_add (aef _ _ _ _) rfl ys hn λh' sb S3=>#[.Bw,_,I2.write (by rw[Tj];trivial) (.inl rfl) (λb o hb e=>sb.extBut _ _ hb e) ?_ (setOk S3),rfl,q2]
 obtain⟨o,_,_,_,e,_⟩:=S3;exact#[o,e]
noncomputable def FJ(x y:Str):Str:=if B0 y x then y else x
noncomputable def Tv(x:Str):It:=#[λi _=>i<x.cps.size,λi H v H'=>H'=H/\∃c,x.cps[i]?=some c/\v=.str #[#v[c]],λi _=>x.cps.size<=i]
def fK(x:Str):adT x = "str_ascii_iterator" \/ adT x = "str_iterator" :=by
 unfold adT;split
 .exact .inl rfl
 .exact .inr rfl
variable{K:aaf}
def uE(x:Str)(t:Tok)(it:Addr):Turn P w K tg (Tv x) [it] it (λi h=>h.IsStrIter it (adT x) x t i) where
 mem:=by simp
 obj:=λi h st b hb=>by
  have e:b=it:=by simpa using hb
  subst e;obtain⟨o,e,c,d⟩:=st;exact#[o,e,λv z=>by rw[d]at z;cases z]
 keep:=λi h h' st k=>by obtain⟨o,e,r⟩:=st;exact#[o,k it #[0] o e,r]
 item:=by
  intro X hP hw hK hc i pins s U H E I hf st hg;subst hP hw hK;have Lr:i<x.cps.size:=hg;have hx:x.cps[i]?=some x.cps[i]:=by simp[Lr]
  obtain⟨f0,f1,f2,f3,f4,f5⟩:=hf it #[0];have fin:∀h',h'.IsStrIter it (adT x) x t (i+1)->abV it s.heap h'->∃u,some (ad7 #[#v[x.cps[i]]] s.toks)=some u /\
    wpAny (model X.prog X.w) X.A (adn tg (.ref it) u) (λ_ s2=>∃y H',Inv X pins U H' s2/\RelV y u/\(Tv x).yld i H y H'/\s2.heap.IsStrIter it (adT x) x t (i+1)/\∀b∈[it],H' b=none) E _:=λh' Gn sb=>by
   have I1:Inv X pins U H {s with heap:=h',toks:=s.toks+1}:=I.turned (λb o hb e=>(sb.2 b hb).trans e) f0 f1 f3 f4 f5;obtain⟨o,e,c,d⟩:=id Gn;refine#[_,rfl,mZ e c d (by rcases fK x with z|z<;>rw[z]<;>decide) #[.str #[#v[x.cps[i]]],H,I1,#[_,rfl],#[rfl,_,hx,rfl],Gn,λb hb=>(hf b hb).1]]
  rcases fK x with z|z
  .rw[z]at st fin;exact wpAny_pyNext_ascii_item st hx λh' Gn sb=>by simp_all
  .rw[z]at st fin;exact wpAny_pyNext_wide_item st hx λh' Gn sb=>by simp_all
 done:=by
  intro X hP hw hK hc i pins s U H E I hf st hg;subst hP hw hK;have Lr:x.cps.size<=i:=hg;have hx:x.cps[i]?=none:=by simp[Lr]
  obtain⟨f0,f1,f2,f3,f4,f5⟩:=hf it #[0];rcases fK x with z|z
  .rw[z]at st;exact wpAny_pyNext_ascii_end (I.ok.hd hc) st hx λh' eb=>#[rfl,I.turned (t':=s.toks) (λb o hb e=>eb b o hb e) f0 f1 f3 f4 f5]
  .rw[z]at st;exact wpAny_pyNext_wide_end (I.ok.hd hc) st hx λh' eb=>#[rfl,I.turned (t':=s.toks) (λb o hb e=>eb b o hb e) f0 f1 f3 f4 f5]
 self:=λA i s Q E st h=>by
  obtain⟨o,e,c,d⟩:=st;rcases fK x with z|z
  .rw[z]at c;exact adL (T := "str_ascii_iterator") #[o,e,c] aeY (aa2 aeY #[o,e,c] F.entry_str_ascii_iterator_iter (aae #[_,rfl, "str_ascii_iterator",_,#[o,e,c],F.slot_str_ascii_iterator_next.lookup,h]) (F.args_str_ascii_iterator_iter_1 _))
  .rw[z]at c;exact adL (T := "str_iterator") #[o,e,c] F.slot_str_iterator_iter (aa2 F.slot_str_iterator_iter #[o,e,c] F.entry_str_iterator_iter (aae #[_,rfl, "str_iterator",_,#[o,e,c],F.slot_str_iterator_next.lookup,h]) (F.args_str_iterator_iter_1 _))
def Ux(tl:TE):TI:=λU H R=>tl U H λx H1=>∃z,x=.str z/\R (Tv z) H1
def y6{l:Expr}{tl:TE}(hl:PE X l tl):PI X tg l (Ux tl):=by
 refine λpins s U H R I h=>BZ (hl pins s U H _ I h) λv s1 #[x,H1,I1,r1,q1]=>?_;obtain⟨z,rfl,q⟩:=q1;obtain⟨t,rfl⟩:=r1;refine wpAny_pyIter_strU #[s1.heap.objs.size,_,_,_,H1,rfl,I1.kept λb o e=>aad _ e,uE z t _,#[_,aag _ rfl,rfl,rfl],λb hb=>?_,q];have e:b=s1.heap.objs.size:=by simp_all
 subst e;exact I1.HH (aaj _) (I1.Bv.fresh (aaj _))
def sX:Co X (aa4 .LtE) (λx y H Q=>∃i j,x=.str i/\y=.str j/\Q (.bl (!decide (j.cps.toList<i.cps.toList))) H):=by intro pins s U H x y v u Q I rx ry h;obtain⟨i,j,rfl,rfl,q⟩:=h;obtain⟨t,rfl⟩:=rx;obtain⟨t',rfl⟩:=ry;exact PySem.P.le_str #[.bl _,H,I,rfl,q]
def Mz(K:aaf):R2:=λx y H Q=>∃a b xs ys,x=.ref a/\y=.ref b/\C3 K H a xs/\C3 K H b ys/\xs.length+ys.length<=sizeLine /\
 (xs=[]->Q (.ref b) H)/\(ys=[]->Q (.ref a) H)/\∀p,H p=none->Q (.ref p) (upd H p (.tup (xs++ys)))
def xA:Co X (acg .Add) (Mz X.K):=by
 intro pins s U H x y v u Q I rx ry h;obtain⟨a,b,xs,ys,rfl,rfl,ha,hb,hz,q0,q1,q2⟩:=h;by_cases hx:xs=[]
 .cases rx;cases ry;obtain⟨gE,r1,p1,_⟩:=I.tuple ha;obtain⟨CQ,r2,p2,_⟩:=I.tuple hb;subst hx;cases r1;obtain⟨⟨c1,d1,e1,l1⟩,g1,g2,n,g3⟩:=id p1;obtain⟨⟨c2,d2,e2,l2⟩,k1,k2,n2,k3⟩:=id p2;subst g2 g3 k2 k3;exact concat_meets #[_,g1,rfl] #[_,k1,rfl] ae1 seq_tuple_add ad3 adW (adN _ _)
   (tuple_addW0 a b _ _ n n2 d1 d2 l1 l2 #[0]) #[g1,k1,#[.ref b,H,I,rfl,q0 rfl]]
 .exact xB pins s U H _ _ v u Q I rx ry #[a,b,xs,ys,rfl,rfl,ha,hb,hx,hz,q1,λ_=>q2]
variable{st:Expr}{XM:TE}{p2:Pos}
end L2
namespace PySem
open Sem (wp)
open PySem.Spec PyProof.Rows
section
variable{prog:aaD}{w:World}{K:Type}[DecidableEq K]{knd:KeyKind prog w K}{A:Around}{R:Result->Shared->Prop}
end
section
variable{prog:aaD}{w:World}{K:Type}[DecidableEq K]{knd:KeyKind prog w K}{A:Around}{E:Aab}{s:Shared}
end
end PySem
namespace L2
open PySem PySem.Spec PyProof.Rows
variable{X:Cx}
end L2
namespace Q
open PySem L2
inductive PV where
 |Bw|bl (b:Bool)|int (i:Int)|str (x:Str)|tup (xs:List PV)|lst (xs:List PV)|Cd (eQ:List (Key×PV))|set (xs:Aaa)|D5 (ns:Aas)
abbrev _root_.Aaw:=Option PV
abbrev _root_.Aaq:=PV->PV->Prop
abbrev _root_.Aap:=PV->Prop
abbrev _root_.Aad:=List PV
def HQ(K:aaf)(F:Hp)(a:Addr)(ns:Aas):Prop:=(∃o,F a=some (.D1 o (.lst (ns.map V.int)))) \/
 ∃(o:Obj) (gE:Aam) (n:Nat),K.lookup a=some o/\o.cls=.type "list" /\ o.dict=none/\o.data=.seq gE n/\gE.size<=sizeLine/\AS (ns.map V.int) gE.toList
mutual
inductive Rep (K:aaf) (F:Hp):V->PV->Prop where
 |Bw:Rep K F .Bw .Bw
 |bl (b:Bool):Rep K F (.bl b) (.bl b)
 |int (i:Int):Rep K F (.int i) (.int i)
 |str (x:Str):Rep K F (.str x) (.str x)
 |tup {a:Addr} {vs:Aai} {xs:Aad}:C3 K F a vs->rW K F vs xs->Rep K F (.ref a) (.tup xs)
 |lst {a:Addr} {vs:Aai} {xs:Aad}:F a=some (.lst vs)->rW K F vs xs->Rep K F (.ref a) (.lst xs)
 |Cd {a:Addr} {vs:List (Key×V)} {xs:List (Key×PV)}:F a=some (.dK vs)->Bo K F vs xs->Rep K F (.ref a) (.Cd xs)
 |D5 {a:Addr} {ns:Aas}:HQ K F a ns->Rep K F (.ref a) (.D5 ns)
inductive rW (K:aaf) (F:Hp):Aai->List PV->Prop where
 |nil:rW K F [] []
 |cons {v:V} {x:PV} {vs:Aai} {xs:Aad}:Rep K F v x->rW K F vs xs->rW K F (v::vs) (x::xs)
inductive Bo (K:aaf) (F:Hp):List (Key×V)->List (Key×PV)->Prop where
 |nil:Bo K F [] []
 |cons {k:Key} {v:V} {x:PV} {vs:List (Key×V)} {xs:List (Key×PV)}:Rep K F v x->Bo K F vs xs->Bo K F ((k,v)::vs) ((k,x)::xs)
end
variable{K:aaf}{F F' H:Hp}
variable{a:Addr}{xs:Aai}
def aZ(s:dO F F')(h:CN K F a xs):CN K F' a xs:=by
 rcases h with (h|⟨o,h⟩)|h
 .exact .inl (.inl (s _ _ h))
 .exact .inl (.inr #[o,s _ _ h])
 .exact .inr h
def au(s:dO F F')(h:C3 K F a xs):C3 K F' a xs:=by
 rcases h with (h|⟨o,h⟩)|h
 .exact .inl (.inl (s _ _ h))
 .exact .inl (.inr #[o,s _ _ h])
 .exact .inr h
variable{ns:Aas}
def jm(s:dO F F')(h:HQ K F a ns):HQ K F' a ns:=by
 rcases h with ⟨o,h⟩|h
 .exact .inl #[o,s _ _ h]
 .exact .inr h
def HQ.sq(h:HQ K F a ns):CN K F a (ns.map V.int):=by
 rcases h with ⟨o,h⟩|h
 .exact .inl (.inr #[o,h])
 .exact .inr h
variable{v:V}{x:PV}
def Rep.mono(s:dO F F')(h:Rep K F v x):Rep K F' v x :=
 Rep.rec
  .Bw .bl .int .str (λa _ b=>.tup (au s a) b) (λa _ b=>.lst (s _ _ a) b) (λa _ b=>.Cd (s _ _ a) b) (λa=>.D5 (jm s a)) .nil (λ_ _ a b=>.cons a b) .nil (λ_ _ a b=>.cons a b) h
variable{vs:Aai}
def rW.mono{xs:Aad}(s:dO F F')(h:rW K F vs xs):rW K F' vs xs :=
 rW.rec
  .Bw .bl .int .str (λa _ b=>.tup (au s a) b) (λa _ b=>.lst (s _ _ a) b) (λa _ b=>.Cd (s _ _ a) b) (λa=>.D5 (jm s a)) .nil (λ_ _ a b=>.cons a b) .nil (λ_ _ a b=>.cons a b) h
def Bo.mono{vs:List (Key×V)}{xs:List (Key×PV)}(s:dO F F')(h:Bo K F vs xs):Bo K F' vs xs :=
 Bo.rec
  .Bw .bl .int .str (λa _ b=>.tup (au s a) b) (λa _ b=>.lst (s _ _ a) b) (λa _ b=>.Cd (s _ _ a) b) (λa=>.D5 (jm s a)) .nil (λ_ _ a b=>.cons a b) .nil (λ_ _ a b=>.cons a b) h
def rW.ind{motive:∀vs xs,rW K F vs xs->Prop}{xs:Aad}(h:rW K F vs xs)(nil:motive [] [] .nil)(cons:∀{v x vs xs} (a:Rep K F v x) (r:rW K F vs xs),motive vs xs r->motive (v::vs) (x::xs) (.cons a r)):motive vs xs h :=
 rW.rec (motive_1:=λ_ _ _=>True) (motive_3:=λ_ _ _=>True)
  trivial (λ_=>trivial) (λ_=>trivial) (λ_=>trivial) (λ_ _ _=>trivial) (λ_ _ _=>trivial) (λ_ _ _=>trivial) (λ_=>trivial) nil (λa r _ b=>cons a r b) trivial (λ_ _ _ _=>trivial) h
def Bo.ind{motive:∀vs xs,Bo K F vs xs->Prop}{vs:List (Key×V)}{xs:List (Key×PV)}(h:Bo K F vs xs)(nil:motive [] [] .nil)(cons:∀{k v x vs xs} (a:Rep K F v x) (r:Bo K F vs xs),motive vs xs r->motive ((k,v)::vs) ((k,x)::xs) (.cons a r)):motive vs xs h :=
 Bo.rec (motive_1:=λ_ _ _=>True) (motive_2:=λ_ _ _=>True)
  trivial (λ_=>trivial) (λ_=>trivial) (λ_=>trivial) (λ_ _ _=>trivial) (λ_ _ _=>trivial) (λ_ _ _=>trivial) (λ_=>trivial) trivial (λ_ _ _ _=>trivial) nil (λa r _ b=>cons a r b) h
def rW.len{xs:Aad}(h:rW K F vs xs):vs.length=xs.length:=by
 induction h using rW.ind with
 |nil=>rfl
 |cons _ _ ih=>exact congrArg _ ih
variable{i:Nat}
def rW.get{xs:Aad}(h:rW K F vs xs)(e:xs[i]?=some x):∃v,vs[i]?=some v/\Rep K F v x:=by
 induction h using rW.ind generalizing i with
 |nil=>cases e
 |cons a _ ih=>cases i with
  |zero=>cases e;exact#[_,rfl,a]
  |succ i=>exact ih e
def rW.KG{xs:Aad}(h:rW K F vs xs)(e:vs[i]?=some v):∃x,xs[i]?=some x/\Rep K F v x:=by
 induction h using rW.ind generalizing i with
 |nil=>cases e
 |cons a _ ih=>cases i with
  |zero=>cases e;exact#[_,rfl,a]
  |succ i=>exact ih e
variable{ws:Aai}{ys:Aad}
def rW.app{xs:Aad}(h:rW K F vs xs)(k:rW K F ws ys):rW K F (vs++ws) (xs++ys):=by
 induction h using rW.ind with
 |nil=>exact k
 |cons a _ ih=>exact .cons a ih
def rW.take{xs:Aad}(n:Nat)(h:rW K F vs xs):rW K F (vs.take n) (xs.take n):=by
 induction h using rW.ind generalizing n with
 |nil=>cases n<;>exact .nil
 |cons a _ ih=>cases n with
  |zero=>exact .nil
  |succ n=>exact .cons a (ih n)
def rW.drop{xs:Aad}(n:Nat)(h:rW K F vs xs):rW K F (vs.drop n) (xs.drop n):=by
 induction h using rW.ind generalizing n with
 |nil=>cases n<;>exact .nil
 |cons a r ih=>cases n with
  |zero=>exact .cons a r
  |succ n=>exact ih n
def rW.TX{xs:Aad}(n:Nat)(k:Rep K F v x)(h:rW K F vs xs):rW K F (vs.set n v) (xs.set n x):=by
 induction h using rW.ind generalizing n with
 |nil=>exact .nil
 |cons a r ih=>cases n with
  |zero=>exact .cons k r
  |succ n=>exact .cons a (ih n)
def rW.erase{xs:Aad}(n:Nat)(h:rW K F vs xs):rW K F (vs.eraseIdx n) (xs.eraseIdx n):=by
 induction h using rW.ind generalizing n with
 |nil=>exact .nil
 |cons a r ih=>cases n with
  |zero=>exact r
  |succ n=>exact .cons a (ih n)
def Bo.len{vs:List (Key×V)}{xs:List (Key×PV)}(h:Bo K F vs xs):vs.length=xs.length:=by
 induction h using Bo.ind with
 |nil=>rfl
 |cons _ _ ih=>exact congrArg _ ih
def Bo.keys{vs:List (Key×V)}{xs:List (Key×PV)}(h:Bo K F vs xs):vs.map (·.1)=xs.map (·.1):=by
 induction h using Bo.ind with
 |nil=>rfl
 |cons _ _ ih=>exact congrArg _ ih
structure Sl where
 k:Nat
 v:PV
abbrev Aat:=Option Sl
abbrev En:=List (Aat)
abbrev Aal:=PV->En->Prop
structure Ct where
 P:Hp->Hp->Addr->List Addr->PV->Prop
 mono:∀F F' H H' a l x,P F H a l x->dO F F'->(∀c∈l,H' c=H c)->P F' H' a l x
structure Md where
 P:aaD
 w:World
 K:aaf
 ob:Ct
structure Zn where
 Ha:Hp
 Fa:Hp
 S:List Addr
 oa:Nat->Option Addr:=λ_=>none
 sS:∀b∈S,Ha b≠none
def CY(M:Md)(F H:Hp)(a:Addr):PV->Prop
 |.lst xs=>∃vs,H a=some (.lst vs)/\rW M.K F vs xs
 |.Cd xs=>∃vs,H a=some (.dK vs)/\Bo M.K F vs xs
 |.set xs=>H a=some (Gp M.P M.w a (λs=>decide (s∈xs)) xs.length)
 |_=>False
variable{M:Md}{H':Hp}
def CY.mono(s:dO F F')(e:H' a=H a)(h:CY M F H a x):CY M F' H' a x:=by
 cases x<;>try exact h.elim
 .obtain⟨vs,h1,h2⟩:=h;exact#[vs,e.trans h1,h2.mono s]
 .obtain⟨vs,h1,h2⟩:=h;exact#[vs,e.trans h1,h2.mono s]
 .exact e.trans h
def Fn(M:Md)(Z:Zn)(F H:Hp)(v:V)(s:Sl)(fp:Aaj):Prop :=
 (s.k=0/\fp=[]/\Rep M.K F v s.v)\/(s.k=1/\∃a,v=.ref a/\fp=[a]/\Z.Ha a=none/\CY M F H a s.v) \/
 ((s.k=2\/s.k=4)/\∃a,v=.ref a/\(∀c∈fp,c∈Z.S\/Z.Ha c=none)/\M.ob.P F H a fp s.v) \/
 (s.k=3/\∃a,v=.ref a/\fp=[a]/\a∈Z.S/\CY M F H a s.v)
structure Slots(M:Md)(Z:Zn)(F:Hp)(U:St)(H:Hp)(env:En)(fp:Nat->List Addr):Prop where
 at':∀i s,env[i]?=some (some s)->∃v,U[i]?=some (some v)/\Fn M Z F H v s (fp i)
 al:∀i a,a∈fp i->H a≠none/\F a=none
 dj:∀i j a,i≠j->a∈fp i->a∉fp j
 oa:∀i a s,Z.oa i=some a->env[i]?=some (some s)->s.k=2->U[i]?=some (some (.ref a))
structure tO(M:Md)(Z:Zn)(F:Hp)(U:St)(H:Hp)(env:En):Prop where
 sF:dO F H
 sG:∀b o,Z.Ha b=some o->b∉Z.S->H b=some o
 pr:∀b,Z.Ha b≠none->H b≠none
 gr:dO Z.Fa F
 nw:∀a,F a≠none->Z.Fa a≠none\/Z.Ha a=none
 len:env.length=U.length
 sl:∃fp,Slots M Z F U H env fp
variable{Z:Zn}{U:St}{env:En}{s:Sl}{fp:Aaj}
def Fn.mono(s1:dO F F')(e:∀c∈fp,H' c=H c)(h:Fn M Z F H v s fp):Fn M Z F' H' v s fp:=by
 rcases h with ⟨a,b,c⟩|⟨a,p,rfl,rfl,c,d⟩|⟨a,p,rfl,c,d⟩|⟨a,p,rfl,rfl,c,d⟩
 .exact .inl #[a,b,c.mono s1]
 .exact .inr (.inl #[a,p,rfl,rfl,c,d.mono s1 (e p #[0])])
 .exact .inr (.inr (.inl #[a,p,rfl,c,M.ob.mono _ _ _ _ _ _ _ d s1 e]))
 .exact .inr (.inr (.inr #[a,p,rfl,rfl,c,d.mono s1 (e p #[0])]))
def aj:dO H H:=λ_ _ h=>h
def ag{A B C:Hp}(x:dO A B)(y:dO B C):dO A C:=λa o h=>y a o (x a o h)
variable{p:Addr}{o:HO}
def aq(h:F p=none):dO F (upd F p o):=λa u e=>by rw[af (ao e h)];exact e
def dO.none_of{A B:Hp}(s:dO A B)(h:B a=none):A a=none:=by
 cases e:A a with
 |none=>rfl
 |some o=>rw[s a o e]at h;cases h
def Slots.move{fp:Nat->List Addr}(L:Slots M Z F U H env fp)(s1:dO F F')(s3:∀i c o,c∈fp i->H c=some o->H' c=some o)(nw:∀a,F' a≠none->F a≠none\/H a=none):Slots M Z F' U H' env fp:=by
 refine#[λi s h=>?_,λi a h=>?_,L.dj,L.oa]
 .obtain⟨v,h1,h2⟩:=L.at' i s h;refine#[v,h1,h2.mono s1 λc hc=>?_];cases e:H c with
  |none=>exact absurd e (L.al i c hc).1
  |some o=>exact s3 i c o hc e
 .obtain⟨h1,h2⟩:=L.al i a h;constructor
  .cases e:H a with
   |none=>exact absurd e h1
   |some o=>rw[s3 i a o h e];simp
  .cases e:F' a with
   |none=>rfl
   |some o=>
    rcases nw a #[1]with z|z
    .exact absurd h2 z
    .exact absurd z h1
variable{l:Aaj}
def Slots.put{fp:Nat->List Addr}(L:Slots M Z F U H env fp)(hk:s.k≠2)(hi:i<U.length)(h:Fn M Z F H v s l)(al:∀a∈l,H a≠none/\F a=none)(dj:∀j a,j≠i->a∈l->a∉fp j):
  Slots M Z F (U.set i (some v)) H (env.set i (some s)) (λj=>if j=i then l else fp j):=by
 refine#[λj t e=>?_,λj a e=>?_,λj k a IB e z=>?_,λj a t e1 e2 e3=>?_];case refine_4=>
  by_cases q:j=i
  .subst q;rw[abt]at e2;simp only[if_true]at e2;split at e2
   .cases e2;exact absurd e3 hk
   .cases e2
  .rw[aaw (abE q)]at e2;rw[aaw (abE q)];exact L.oa j a t e1 e2 e3
 .by_cases q:j=i
  .subst q;rw[abt]at e;simp only[if_true]at e;split at e
   .exact#[v,#[1],#[1]]
   .first|(done)|cases e
  .rw[aaw (abE q)]at e;rw[aaw (abE q),if_neg q];exact L.at' j t e
 .by_cases q:j=i
  .rw[if_pos q]at e;exact al a e
  .rw[if_neg q]at e;exact L.al j a e
 .by_cases q:j=i
  .rw[if_pos q]at e;rw[if_neg (λy=>IB (q.trans y.symm))]at z;exact dj k a (λy=>IB (q.trans y.symm)) e z
  .rw[if_neg q]at e;by_cases q2:k=i
   .rw[if_pos q2]at z;exact dj j a q z e
   .rw[if_neg q2]at z;exact L.dj j k a IB e z
theorem Slots.push{fp:Nat->List Addr}(L:Slots M Z F U H env fp)(hk:s.k≠2)(hn:env.length=U.length)(h:Fn M Z F H v s l)(al:∀a∈l,H a≠none/\F a=none)(dj:∀j a,a∈l->a∉fp j):
  Slots M Z F (U++[some v]) H (env++[some s]) (λj=>if j=env.length then l else fp j):=by
 refine#[λj t e=>?_,λj a e=>?_,λj k a IB e z=>?_,λj a t e1 e2 e3=>?_];case refine_4=>
  by_cases q:j=env.length
  .subst q;simp at e2;subst e2;exact absurd e3 hk
  .have hj:j<env.length:=by
    have:j<(env++[some s]).length:=by
     rcases aaQ j _ with y|y
     .exact y
     .rw[aao y]at e2;cases e2
    simp at this;omega
   rw[aat hj]at e2;rw[aat #[]];exact L.oa j a t e1 e2 e3
 .by_cases q:j=env.length
  .exact#[v,#[1],#[1]]
  .rw[if_neg q];have hj:j<env.length:=by
    have:j<(env++[some s]).length:=by
     rcases aaQ j _ with y|y
     .exact y
     .rw[aao y]at e;cases e
    simp at this;omega
   rw[aat hj]at e;rw[aat #[]];exact L.at' j t e
 .by_cases q:j=env.length
  .rw[if_pos q]at e;exact al a e
  .rw[if_neg q]at e;exact L.al j a e
 .by_cases q:j=env.length
  .rw[if_pos q]at e;rw[if_neg (λy=>IB (q.trans y.symm))]at z;exact dj k a e z
  .rw[if_neg q]at e;by_cases q2:k=env.length
   .rw[if_pos q2]at z;exact dj j a z e
   .rw[if_neg q2]at z;exact L.dj j k a IB e z
theorem Slots.drop{fp:Nat->List Addr}(L:Slots M Z F (U++[some v]) H (env++[some s]) fp)(hn:env.length=U.length):Slots M Z F U H env fp:=by
 have lt:∀{j:Nat} {t:Sl},env[j]?=some (some t)->j<env.length:=λ{j t} e=>by
  rcases aaQ j env.length with y|y
  .exact y
  .rw[aao y]at e;cases e
 refine#[λj t e=>?_,L.al,L.dj,λj a t e1 e2 e3=>?_]
 .have hj:=lt e;obtain⟨v',h1,h2⟩:=L.at' j t (by rw[aat hj];exact e);rw[aat #[]]at h1;exact#[v',h1,h2]
 .have hj:=lt e2;have:=L.oa j a t e1 (by rw[aat hj];exact e2) e3;rw[aat #[]]at this;exact this
def Slots.last{fp:Nat->List Addr}(L:Slots M Z F (U++[some v]) H (env++[some s]) fp)(hn:env.length=U.length):Fn M Z F H v s (fp env.length):=by obtain⟨v',h1,h2⟩:=L.at' env.length s #[0];rw[hn]at h1;simp at h1;subst h1;exact h2
def tO.h0(K:tO M Z F U H env)(h:H a=none):Z.Ha a=none:=by
 cases e:Z.Ha a with
 |none=>rfl
 |some o=>exact absurd h (K.pr a #[1])
def tO.move(K:tO M Z F U H env)(s1:dO F F')(s2:dO F' H')(s3:dO H H')(nw:∀a,F' a≠none->F a≠none\/H a=none):tO M Z F' U H' env:=by
 obtain⟨fp,L⟩:=K.sl;refine#[s2,λb o h1 h2=>s3 b o (K.sG b o h1 h2),λb h=>?_,ag K.gr s1,λa h=>?_,K.len,fp,L.move s1 (λ_ c o _ e=>s3 c o e) nw]
 .cases e:H b with
  |none=>exact absurd e (K.pr b h)
  |some o=>rw[s3 b o e];simp
 .rcases nw a h with h1|h1
  .exact K.nw a h1
  .exact .inr (K.h0 h1)
def tO.lay(K:tO M Z F U H env)(h:H p=none):tO M Z (upd F p o) U (upd H p o) env:=by
 have hF  := dO.none_of K.sF h;refine K.move (aq hF) (λa u e=>?_) (aq h) λa e=>?_
 .by_cases q:a=p
  .subst q;rw[ah]at e ⊢;exact e
  .rw[af q]at e ⊢;exact K.sF a u e
 .by_cases q:a=p
  .subst q;exact .inr h
  .rw[af q]at e;exact .inl e
def tO.slots{sa:St}{aT:En}{fp:Nat->List Addr}(K:tO M Z F U H env)(hn:aT.length=sa.length)(L:Slots M Z F sa H aT fp):tO M Z F sa H aT:=#[K.sF,K.sG,K.pr,K.gr,K.nw,hn,fp,L]
def tO.own(K:tO M Z F U H env)(h:H p=none)(hx:CY M F (upd H p o) p x):tO M Z F (U++[some (.ref p)]) (upd H p o) (env++[some #[1,x]]):=by
 have hF  := dO.none_of K.sF h;have K1:tO M Z F U (upd H p o) env:=K.move aj (λa u e=>by rw[af (ao e hF)];exact K.sF a u e) (aq h) λa e=>.inl e;obtain⟨fp,L⟩:=K.sl;have L1:Slots M Z F U (upd H p o) env fp:=L.move aj (λ_ c u _ e=>aq h c u e) λa e=>.inl e;refine K1.slots (by simp[K.len]) (L1.push #[0] K.len (.inr (.inl #[rfl,p,rfl,rfl,K.h0 h,hx])) (λa ha=>?_) λj a ha hj=>?_)
 .simp at ha;subst ha;exact#[by rw[ah];simp,hF]
 .simp at ha;subst ha;exact(L.al j a hj).1 h
def tO.drop(K:tO M Z F (U++[some v]) H (env++[some s])):tO M Z F U H env:=by
 have hn  :=by have:=K.len;simpa using this
 obtain⟨fp,L⟩:=K.sl;exact K.slots hn (L.drop hn)
def CY.rep(h:CY M F H a x)(hx:∀xs,x≠.set xs)(hF:F a=none)(ho:H a=some o):Rep M.K (upd F a o) (.ref a) x:=by
 have s1:dO F (upd F a o):=aq hF;cases x<;>try exact h.elim
 .obtain⟨vs,h1,h2⟩:=h;rw[ho]at h1;cases h1;exact .lst ah (h2.mono s1)
 .obtain⟨vs,h1,h2⟩:=h;rw[ho]at h1;cases h1;exact .Cd ah (h2.mono s1)
 .exact absurd rfl (hx _)
def tO.D1{fp:Nat->List Addr}{sa:St}{aT:En}(K:tO M Z F U H env)(L:Slots M Z F U H env fp)(hf:fp i=[a])(h0:Z.Ha a=none)(ho:H a=some o)
  (hn:aT.length=sa.length) (hs:∀j s,j≠i->aT[j]?=some (some s)->env[j]?=some (some s)/\sa[j]?=U[j]?)
  (hi:∀s,aT[i]?=some (some s)->∃v,sa[i]?=some (some v)/\s.k=0/\Rep M.K (upd F a o) v s.v):tO M Z (upd F a o) sa H aT:=by
 have ha:=L.al i a #[1];have s1:dO F (upd F a o):=aq ha.2;refine#[λb u e=>?_,K.sG,K.pr,ag K.gr s1,λb e=>?_,hn,λj=>if j=i then []else fp j,λj s h=>?_,λj b h=>?_,λj k b IB h z=>?_,λj b t e1 e2 e3=>?_]
 .by_cases q:b=a
  .subst q;rw[ah]at e;cases e;exact ho
  .rw[af q]at e;exact K.sF b u e
 .by_cases q:b=a
  .subst q;exact .inr h0
  .rw[af q]at e;exact K.nw b e
 .by_cases q:j=i
  .subst q;obtain⟨v,h1,h2,h3⟩:=hi s h;exact#[v,h1,.inl #[h2,if_pos rfl,h3]]
  .obtain⟨e1,e2⟩:=hs j s q h;obtain⟨v,h1,h2⟩:=L.at' j s e1;exact#[v,#[1],by rw[if_neg q];exact h2.mono s1 λ_ _=>rfl]
 .by_cases q:j=i
  .rw[if_pos q]at h;simp at h
  .rw[if_neg q]at h;have hb:=L.al j b h;have:b≠a:=λz=>L.dj j i b q h #[1];exact#[hb.1,by rw[af this];exact hb.2]
 .by_cases q:j=i
  .rw[if_pos q]at h;simp at h
  .rw[if_neg q]at h;by_cases q2:k=i
   .rw[if_pos q2]at z;simp at z
   .rw[if_neg q2]at z;exact L.dj j k b IB h z
 .by_cases q:j=i
  .subst q;obtain⟨_,_,h2,_⟩:=hi t e2;rw[e3]at h2;cases h2
  .obtain⟨f1,f2⟩:=hs j t q e2;rw[f2];exact L.oa j b t e1 f1 e3
def bK(h:H a≠none):∃o,H a=some o:=by
 cases e:H a with
 |none=>exact absurd e h
 |some o=>exact#[o,rfl]
theorem tO.Jj(K:tO M Z F (U++[some v]) H (env++[some #[1,x]]))(hx:∀xs,x≠.set xs):∃F',dO F F'/\tO M Z F' U H env/\Rep M.K F' v x:=by
 have hn  :=by have:=K.len;simpa using this
 obtain⟨fp,L⟩:=K.sl;rcases L.last hn with ⟨e,_⟩|⟨_,a,rfl,hf,h0,hw⟩|⟨e,_⟩|⟨e,_⟩
 .first|(done)|cases e
 .have ha:=L.al env.length a #[1];obtain⟨o,ho⟩:=bK ha.1;refine#[_,aq ha.2,K.D1 L hf h0 ho hn (λj s _ e=>?_) (λs e=>?_),hw.rep hx ha.2 ho]
  .have hj:j<env.length:=by
    rcases aaQ j env.length with y|y
    .exact y
    .rw[aao y]at e;cases e
   rw[aat hj,aat #[]];exact#[e,rfl]
  .simp at e
 .first|(revert e;simp)|cases e
 .first|(done)|cases e
def tO.freeze(K:tO M Z F U H env)(hi:env[i]?=some (some #[1,x]))(hx:∀xs,x≠.set xs):∃F' v,U[i]?=some (some v)/\dO F F'/\tO M Z F' U H (env.set i (some #[0,x]))/\Rep M.K F' v x:=by
 obtain⟨fp,L⟩:=K.sl;obtain⟨v,hv,h⟩:=L.at' i _ hi;rcases h with ⟨e,_⟩|⟨_,a,rfl,hf,h0,hw⟩|⟨e,_⟩|⟨e,_⟩
 .first|(done)|cases e
 .have ha:=L.al i a #[1];obtain⟨o,ho⟩:=bK ha.1;refine#[_,_,hv,aq ha.2,K.D1 L hf h0 ho (by simp[K.len]) (λj s q e=>?_) (λs e=>?_),hw.rep hx ha.2 ho]
  .rw[aaw (abE q)]at e;exact#[e,rfl]
  .rw[abt]at e;simp only[if_true]at e;split at e
   .first|(done)|cases e
    exact#[_,hv,rfl,hw.rep hx ha.2 ho]
   .first|(done)|cases e
 .first|(revert e;simp)|cases e
 .first|(done)|cases e
theorem tO.put(K:tO M Z F U H env)(h:Rep M.K F v x):tO M Z F (U.set i (some v)) H (env.set i (some #[0,x])):=by
 obtain⟨fp,L⟩:=K.sl;rcases aaQ i env.length with hi|hi;case inr=>rw[aby hi,aby (by have:=K.len;omega)];exact K
 exact K.slots (by simp[K.len]) (L.put #[0] (by have:=K.len;omega) (.inl #[rfl,rfl,h]) (λa h=>#[1]) λj a _ h=>#[1])
theorem tO.take(K:tO M Z F (U++[some v]) H (env++[some s]))(hk:autoParam (s.k≠2) B'):tO M Z F (U.set i (some v)) H (env.set i (some s)):=by
 have hn  :=by have:=K.len;simpa using this
 rcases aaQ i env.length with hi|hi;case inr=>rw[aby hi,aby #[]];exact K.drop
 obtain⟨fp,L⟩:=K.sl;have hl:=L.last hn;refine K.slots #[1] (Slots.put (fp:=λj=>if j=env.length then []else fp j) #[λj t e=>?_,λj a e=>?_,λj k a IB e z=>?_,(L.drop hn).oa] hk #[] hl (λa=>L.al _ a) λj a _ h z=>?_)
 .have hj:j<env.length:=by
   rcases aaQ j env.length with y|y
   .exact y
   .rw[aao y]at e;cases e
  rw[if_neg #[]];obtain⟨v',h1,h2⟩:=L.at' j t (by rw[aat hj];exact e);rw[aat #[]]at h1;exact#[v',h1,h2]
 .split at e
  .simp at e
  .exact L.al j a e
 .split at e
  .simp at e
  .split at z
   .simp at z
   .exact L.dj j k a IB e z
 .split at z
  .simp at z
  .rename_i q;exact L.dj env.length j a (abE q) h z
variable{k:Nat}{y:PV}
def tO.write(K:tO M Z F U H env)(hk:k=1\/k=3)(hi:env[i]?=some (some #[k,x]))(hv:U[i]?=some (some (.ref a)))(hw:CY M F (upd H a o) a y):tO M Z F U (upd H a o) (env.set i (some #[k,y])):=by
 obtain⟨fp,L⟩:=K.sl;obtain⟨v,Ku,h⟩:=L.at' i _ hi;rw[hv]at Ku;cases Ku;obtain⟨hf,hd,G9⟩:fp i=[a]/\(Z.Ha a=none\/a∈Z.S)/\Fn M Z F (upd H a o) (.ref a) ⟨k,y⟩ [a]:=by
  rcases h with ⟨e,_⟩|⟨e,a',ea,hf,h0,hx⟩|⟨e,_⟩|⟨e,a',ea,hf,h0,hx⟩
  .rcases hk with rfl|rfl<;>exact absurd e #[0]
  .cases ea;exact#[hf,.inl h0,.inr (.inl #[e,a,rfl,rfl,h0,hw])]
  .rcases hk with rfl|rfl<;>exact absurd e #[0]
  .cases ea;exact#[hf,.inr h0,.inr (.inr (.inr #[e,a,rfl,rfl,h0,hw]))]
 have ha:=L.al i a (by rw[hf];simp);refine#[λb u e=>?_,λb u h1 h2=>?_,λb h=>?_,K.gr,K.nw,by simp[K.len],fp,λj s e=>?_,λj b h=>?_,L.dj,λj b t e1 e2 e3=>?_]
 .rw[af (ao e ha.2)];exact K.sF b u e
 .have:b≠a:=by
   rcases hd with h0|h0
   .exact ao h1 h0
   .exact λz=>h2 (by rw[z];exact h0)
  rw[af this];exact K.sG b u h1 h2
 .by_cases q:b=a
  .subst q;rw[ah];simp
  .rw[af q];exact K.pr b h
 .by_cases q:j=i
  .subst q;rw[abt]at e;simp only[if_true]at e;split at e
   .first|(exfalso;revert e;simp;done)|cases e
    exact#[_,hv,by rw[hf];exact G9]
   .first|(exfalso;revert e;simp;done)|cases e
  .rw[aaw (abE q)]at e;obtain⟨v,h1,h2⟩:=L.at' j s e;refine#[v,h1,h2.mono aj λc hc=>af λz=>?_];exact L.dj j i c q hc (by rw[hf,z];simp)
 .have hb:=L.al j b h;refine#[?_,hb.2];by_cases q:b=a
  .subst q;rw[ah];simp
  .rw[af q];exact hb.1
 .by_cases q:j=i
  .subst q;rw[abt]at e2;simp only[if_true]at e2;split at e2
   .cases e2;rcases hk with rfl|rfl<;>cases e3
   .cases e2
  .rw[aaw (abE q)]at e2;exact L.oa j b t e1 e2 e3
def Vw(M:Md)(F H:Hp)(v:V)(x:PV):Prop:=Rep M.K F v x\/∃a,v=.ref a/\CY M F H a x
def Vw.lst{xs:Aad}(h:Vw M F H v (.lst xs))(s:dO F H):∃a vs,v=.ref a/\H a=some (.lst vs)/\rW M.K F vs xs:=by
 rcases h with h|⟨a,rfl,vs,h1,h2⟩
 .cases h with
  |lst h1 h2=>exact#[_,_,rfl,s _ _ h1,h2]
 .exact#[a,vs,rfl,h1,h2]
def Vw.tup{xs:Aad}(h:Vw M F H v (.tup xs))(s:dO F H):∃a vs,v=.ref a/\C3 M.K H a vs/\rW M.K F vs xs:=by
 rcases h with h|⟨a,rfl,h⟩
 .cases h with
  |tup h1 h2=>exact#[_,_,rfl,au s h1,h2]
 .exact h.elim
def Vw.Cd{xs:List (Key×PV)}(h:Vw M F H v (.Cd xs))(s:dO F H):∃a vs,v=.ref a/\H a=some (.dK vs)/\Bo M.K F vs xs:=by
 rcases h with h|⟨a,rfl,vs,h1,h2⟩
 .cases h with
  |Cd h1 h2=>exact#[_,_,rfl,s _ _ h1,h2]
 .exact#[a,vs,rfl,h1,h2]
def Vw.int{i:Int}(h:Vw M F H v (.int i)):v=.int i:=by
 rcases h with h|⟨a,rfl,h⟩
 .cases h;rfl
 .exact h.elim
variable{b:Bool}
def Vw.bl(h:Vw M F H v (.bl b)):v=.bl b:=by
 rcases h with h|⟨a,rfl,h⟩
 .cases h;rfl
 .exact h.elim
def Vw.str{x:Str}(h:Vw M F H v (.str x)):v=.str x:=by
 rcases h with h|⟨a,rfl,h⟩
 .cases h;rfl
 .exact h.elim
def Vw.Bw(h:Vw M F H v .Bw):v=.Bw:=by
 rcases h with h|⟨a,rfl,h⟩
 .cases h;rfl
 .exact h.elim
def tO.vw(K:tO M Z F U H env)(hi:env[i]?=some (some s))(hk:s.k≠2/\s.k≠4):∃v,U[i]?=some (some v)/\Vw M F H v s.v:=by
 obtain⟨fp,L⟩:=K.sl;obtain⟨v,hv,h⟩:=L.at' i _ hi;rcases h with ⟨_,_,h⟩|⟨_,a,rfl,_,_,h⟩|⟨e,_⟩|⟨_,a,rfl,_,_,h⟩
 .exact#[v,hv,.inl h]
 .exact#[_,hv,.inr #[a,rfl,h]]
 .exact(e.elim hk.1 hk.2).elim
 .exact#[_,hv,.inr #[a,rfl,h]]
def tO.val(K:tO M Z F U H env)(hi:env[i]?=some (some #[0,x])):∃v,U[i]?=some (some v)/\Rep M.K F v x:=by
 obtain⟨fp,L⟩:=K.sl;obtain⟨v,hv,h⟩:=L.at' i _ hi;rcases h with ⟨_,_,h⟩|⟨e,_⟩|⟨e,_⟩|⟨e,_⟩
 .exact#[v,hv,h]
 .first|(done)|cases e
 .first|(revert e;simp)|cases e
 .first|(done)|cases e
def tO.ownAt(K:tO M Z F U H env)(hk:k=1\/k=3)(hi:env[i]?=some (some #[k,x])):∃a,U[i]?=some (some (.ref a))/\CY M F H a x:=by
 obtain⟨fp,L⟩:=K.sl;obtain⟨v,hv,h⟩:=L.at' i _ hi;rcases h with ⟨e,_⟩|⟨_,a,rfl,_,_,h⟩|⟨e,_⟩|⟨_,a,rfl,_,_,h⟩
 .rcases hk with rfl|rfl<;>exact absurd e #[0]
 .exact#[a,hv,h]
 .rcases hk with rfl|rfl<;>exact absurd e #[0]
 .exact#[a,hv,h]
abbrev WE:=En->(PV->En->Prop)->Prop
abbrev WT:=En->(Bool->En->Prop)->Prop
abbrev WA:=En->(Aad->En->Prop)->Prop
structure Wd where
 nx:En->Prop
 rt:PV->En->Prop
 bk:En->Prop:=λ_=>False
 ct:En->Prop:=λ_=>False
 rf:PV->En->Prop:=λ_ _=>False
 ro:PV->Nat->En->Prop:=λ_ _ _=>False
abbrev WS:=Wd->En->Prop
noncomputable abbrev md(ob:Ct)(X:Cx):Md:=#[X.prog,X.w,X.K,ob]
structure BH(ob:Ct)(X:Cx)(e:Expr)(f:WE):Prop where
 ex:∃t:TE,PE X e t/\∀(Z:Zn) (F:Hp) (U:St) (H:Hp) (env:En) (P:Aal) (Q:VK),tO (md ob X) Z F U H env->f env P ->
  (∀x aT v F' H',P x aT->dO F F'->tO (md ob X) Z F' U H' aT->Rep X.K F' v x->Q v H')->t U H Q
structure Gh(ob:Ct)(X:Cx)(e:Expr)(f:WE):Prop where
 ex:∃t:TE,PE X e t/\∀(Z:Zn) (F:Hp) (U:St) (H:Hp) (env:En) (P:Aal) (Q:VK),tO (md ob X) Z F U H env->f env P ->
  (∀x aT v F' H',P x aT->dO F F'->tO (md ob X) Z F' U H' aT->Vw (md ob X) F' H' v x->Q v H')->t U H Q
structure GD(ob:Ct)(X:Cx)(e:Expr)(f:WE):Prop where
 ex:∃t:TE,PE X e t/\∀(Z:Zn) (F:Hp) (U:St) (H:Hp) (env:En) (P:Aal) (Q:VK),tO (md ob X) Z F U H env->f env P ->
  (∀x aT v F' H',P x aT->dO F F'->(∀xs,x≠.set xs)->tO (md ob X) Z F' (U++[some v]) H' (aT++[some #[1,x]])->Q v H')->t U H Q
structure Gd(ob:Ct)(X:Cx)(e:Expr)(f:WT):Prop where
 ex:∃t:TT,PT X e t/\∀(Z:Zn) (F:Hp) (U:St) (H:Hp) (env:En) (P:Bool->En->Prop) (Q:Bool->Hp->Prop),tO (md ob X) Z F U H env->f env P ->
  (∀b aT F' H',P b aT->dO F F'->tO (md ob X) Z F' U H' aT->Q b H')->t U H Q
structure OP(ob:Ct)(X:Cx)(e:Expr)(f:WT):Prop where
 ex:∃t:TT,PW X e t/\∀(Z:Zn) (F:Hp) (U:St) (H:Hp) (env:En) (P:Bool->En->Prop) (Q:Bool->Hp->Prop),tO (md ob X) Z F U H env->f env P ->
  (∀b aT F' H',P b aT->dO F F'->tO (md ob X) Z F' U H' aT->Q b H')->t U H Q
structure GG(ob:Ct)(X:Cx)(es:Aak)(f:WA):Prop where
 ex:∃t:TA,PA X es t/\∀(Z:Zn) (F:Hp) (U:St) (H:Hp) (env:En) (P:Aad->En->Prop) (Q:Aai->Hp->Prop),tO (md ob X) Z F U H env->f env P ->
  (∀xs aT vs F' H',P xs aT->xs.length=es.length->dO F F'->tO (md ob X) Z F' U H' aT->rW X.K F' vs xs->Q vs H')->t U H Q
def eC(x:PV):WE:=λenv P=>P x env
noncomputable def eV(i:Nat):WE:=λenv P=>match env[i]? with
 |some (some #[0,x])=>P x env
 |some (some #[1,.lst xs])=>P (.lst xs) (env.set i (some #[0,.lst xs]))
 |some (some #[1,.Cd xs])=>P (.Cd xs) (env.set i (some #[0,.Cd xs]))
 |_=>False
noncomputable def BV(i:Nat):WE:=λenv P=>match env[i]? with
 |some (some #[0,x])=>P x env
 |some (some #[1,x])=>P x env
 |some (some #[3,x])=>P x env
 |_=>False
variable{α:Type}
def opt(o:Option α)(P:α->Prop):Prop:=∃z,o=some z/\P z
def CC{z:α}{P:α->Prop}:opt (some z) P↔P z:=#[λ#[_,e,h]=>#[1],λh=>#[z,rfl,h]]
def bY:WA:=λenv P=>P [] env
def aS(a:WE)(r:WA):WA:=λenv P=>a env λx e1=>r e1 λxs e2=>P (x::xs) e2
def Dm(a:WA):WE:=λenv P=>a env λxs e=>P (.tup xs) e
def CZ(a:WA):WE:=λenv P=>a env λxs e=>P (.lst xs) e
def lT(g:PV->PV->Option PV)(a b:WE):WE:=λenv P=>a env λx e1=>b e1 λy e2=>opt (g x y) λz=>P z e2
def Xr(g:PV->Option PV)(a:WE):WE:=λenv P=>a env λx e1=>opt (g x) λz=>P z e1
def Gy(g:PV->PV->Option PV)(i:Nat)(b:WE):WE:=λenv P=>(env[i]?).join.isSome=true/\b env λy e2=>BV i e2 λx _=>opt (g x y) λz=>P z e2
noncomputable def Bs(a:WE):WT:=λenv P=>a env λx e=>opt (match x with|.bl b=>some b|_=>none) λb=>P b e
def Gm(a b:WT):WT:=λenv P=>a env λx e=>if x=true then b e P else P false e
def IY(a b:WT):WT:=λenv P=>a env λx e=>if x=true then P true e else b e P
def Dr(a:WT):WT:=λenv P=>a env λx e=>P (!x) e
def OF(c:WT)(a b:WE):WE:=λenv P=>c env λx e=>if x=true then a e P else b e P
variable{ob:Ct}{X:Cx}{e a b c:Expr}{es:Aak}{pos:Pos}{f g h:WE}
def XF(he:BH ob X e f):Gh ob X e f:=by obtain⟨t,ht,h⟩:=he.ex;exact#[t,ht,λZ F U H env P Q K hf k=>h Z F U H env P Q K hf λx aT v F' H' p s K' r=>k x aT v F' H' p s K' (.inl r)]
def XX(he:GD ob X e f):BH ob X e f:=by obtain⟨t,ht,h⟩:=he.ex;refine#[t,ht,λZ F U H env P Q K hf k=>h Z F U H env P Q K hf λx aT v F' H' p s hx K'=>?_];obtain⟨F2,s2,K2,r⟩:=K'.Jj hx;exact k x aT v F2 H' p (ag s s2) K2 r
def dF(hp:PE X e (tC v))(hr:∀F,Rep X.K F v x):BH ob X e (eC x) :=
 #[_,hp,λZ F U H env P Q K hf k=>k x env v F H hf aj K (hr F)]
def Ar{i j}:BH ob X (.Constant (.int i) j pos) (eC (.int i)):=dF aA λ_=>.int i
def Bh{i j}:BH ob X (.Constant (.bool i) j pos) (eC (.bl i)):=dF A2 λ_=>.bl i
def Ak{j}:BH ob X (.Constant .none j pos) (eC .Bw):=dF sJ λ_=>.Bw
def Ag{i j}:BH ob X (.Constant (.str i) j pos) (eC (.str i)):=dF aQ λ_=>.str i
def Ad(i:Nat){x:Str}(hp:PE X (.Name x pos) (B2 i)):BH ob X (.Name x pos) (eV i):=by
 refine#[_,hp,λZ F U H env P Q K hf k=>?_];unfold eV at hf;split at hf
 .rename_i y hy;obtain⟨v,hv,r⟩:=K.val hy;exact#[v,hv,k _ _ v F H hf aj K r]
 .rename_i y hy;obtain⟨F',v,hv,s,K',r⟩:=K.freeze hy (λ_=>#[0]);exact#[v,hv,k _ _ v F' H hf s K' r]
 .rename_i y hy;obtain⟨F',v,hv,s,K',r⟩:=K.freeze hy (λ_=>#[0]);exact#[v,hv,k _ _ v F' H hf s K' r]
 .exact hf.elim
def yh(i:Nat){x:Str}(hp:PE X (.Name x pos) (B2 i)):Gh ob X (.Name x pos) (BV i):=by
 refine#[_,hp,λZ F U H env P Q K hf k=>?_];unfold BV at hf;split at hf
 .rename_i y hy;obtain⟨v,hv,r⟩:=K.vw hy #[0];exact#[v,hv,k _ _ v F H hf aj K r]
 .rename_i y hy;obtain⟨v,hv,r⟩:=K.vw hy #[0];exact#[v,hv,k _ _ v F H hf aj K r]
 .rename_i y hy;obtain⟨v,hv,r⟩:=K.vw hy #[0];exact#[v,hv,k _ _ v F H hf aj K r]
 .exact hf.elim
def AJ:GG ob X [] bY:=#[_,aN,λZ F U H env P Q K hf k=>k [] env [] F H hf rfl aj K .nil]
variable{fa:WA}
def yA(he:BH ob X e f)(hr:GG ob X es fa)(hs:autoParam (aai (e::es) X.env=(false,eval e X.env)::aai es X.env) oR):GG ob X (e::es) (aS f fa):=by obtain⟨t,ht,h⟩:=he.ex;obtain⟨u,hu,g⟩:=hr.ex;refine#[_,aD ht hu hs,λZ F U H env P Q K hf k=>?_];exact h Z F U H env _ _ K hf λx e1 v F1 H1 p s1 K1 r1=>g Z F1 U H1 e1 _ _ K1 p λxs e2 vs F2 H2 p2 hl s2 K2 r2=>k _ e2 _ F2 H2 p2 #[1] (ag s1 s2) K2 (.cons (r1.mono s2) r2)
theorem Ae{x1}(ha:GG ob X es fa)(hn:autoParam (es.length<=1000) on):BH ob X (.Tuple es x1 pos) (Dm fa):=by
 obtain⟨t,ht,h⟩:=ha.ex;refine#[_,zc ht,λZ F U H env P Q K hf k=>?_];refine h Z F U H env _ _ K hf λxs e1 vs F1 H1 p hl s1 K1 r1=>#[?_,λq hq=>?_]
 .rw[r1.len,hl,aaJ];omega
 .have hF  := dO.none_of K1.sF hq;exact k _ e1 _ _ _ p (ag s1 (aq hF)) (K1.lay hq) (.tup (.inl (.inl ah)) (r1.mono (aq hF)))
theorem An(ha:GG ob X es fa)(hn:autoParam (es.length<=1000) on):GD ob X (.List es pos) (CZ fa):=by
 obtain⟨t,ht,h⟩:=ha.ex;refine#[_,nU ht,λZ F U H env P Q K hf k=>?_];refine h Z F U H env _ _ K hf λxs e1 vs F1 H1 p hl s1 K1 r1=>#[?_,λq hq=>?_]
 .rw[r1.len,hl,aaJ];omega
 .exact k _ e1 _ _ _ p s1 (λ_=>#[0]) (K1.own hq #[vs,ah,r1])
def Ff(ob:Ct)(X:Cx)(r:R2)(g:PV->PV->Option PV):Prop :=
 ∀(Z:Zn) (F:Hp) (U:St) (H:Hp) (env:En) (v u:V) (x y z:PV) (Q:VK),tO (md ob X) Z F U H env->Vw (md ob X) F H v x->Vw (md ob X) F H u y->g x y=some z ->
  (∀v' F' H',dO F F'->tO (md ob X) Z F' U H' env->Rep X.K F' v' z->Q v' H')->r v u H Q
def Si(ob:Ct)(X:Cx)(r:R2)(g:PV->PV->Option PV):Prop :=
 ∀(Z:Zn) (F:Hp) (U:St) (H:Hp) (env:En) (v u:V) (x y z:PV) (Q:VK),tO (md ob X) Z F U H env->Rep X.K F v x->Vw (md ob X) F H u y->g x y=some z ->
  (∀v' F' H',dO F F'->tO (md ob X) Z F' U H' env->Rep X.K F' v' z->Q v' H')->r v u H Q
variable{r:R2}
def SH{o:PV->PV->Option PV}(h:Ff ob X r o):Si ob X r o:=λZ F U H env v u x y z Q K rx ry=>h Z F U H env v u x y z Q K (.inl rx) ry
variable{tb:TE}
def im{o:PV->PV->Option PV}{ta:TE}(hq:Si ob X r o)
  (ha:∀(Z:Zn) (F:Hp) (U:St) (H:Hp) (env:En) (P:Aal) (Q:VK),tO (md ob X) Z F U H env->f env P->(∀x aT v F' H',P x aT->dO F F'->tO (md ob X) Z F' U H' aT->Rep X.K F' v x->Q v H')->ta U H Q)
  (hb:∀(Z:Zn) (F:Hp) (U:St) (H:Hp) (env:En) (P:Aal) (Q:VK),tO (md ob X) Z F U H env->g env P->(∀x aT v F' H',P x aT->dO F F'->tO (md ob X) Z F' U H' aT->Vw (md ob X) F' H' v x->Q v H')->tb U H Q) :
  ∀(Z:Zn) (F:Hp) (U:St) (H:Hp) (env:En) (P:Aal) (Q:VK),tO (md ob X) Z F U H env->lT o f g env P->(∀x aT v F' H',P x aT->dO F F'->tO (md ob X) Z F' U H' aT->Rep X.K F' v x->Q v H')->Fx r ta tb U H Q:=by
 refine λZ F U H env P Q K hf k=>ha Z F U H env _ _ K hf λx e1 v F1 H1 p s1 K1 r1=>hb Z F1 U H1 e1 _ _ K1 p λy e2 u F2 H2 p2 s2 K2 r2=>?_;obtain⟨z,ez,p3⟩:=p2;exact hq Z F2 U H2 e2 v u x y z Q K2 (r1.mono s2) r2 ez λv' F' H' s3 K3 r3=>k z e2 v' F' H' p3 (ag s1 (ag s2 s3)) K3 r3
def nX{o:PV->PV->Option PV}(hq:Ff ob X r o)
  (hb:∀(Z:Zn) (F:Hp) (U:St) (H:Hp) (env:En) (P:Aal) (Q:VK),tO (md ob X) Z F U H env->g env P->(∀x aT v F' H',P x aT->dO F F'->tO (md ob X) Z F' U H' aT->Vw (md ob X) F' H' v x->Q v H')->tb U H Q) :
  ∀(Z:Zn) (F:Hp) (U:St) (H:Hp) (env:En) (P:Aal) (Q:VK),tO (md ob X) Z F U H env->Gy o i g env P->(∀x aT v F' H',P x aT->dO F F'->tO (md ob X) Z F' U H' aT->Rep X.K F' v x->Q v H')->Fx r (B2 i) tb U H Q:=by
 intro Z F U H env P Q K hf k;obtain⟨hd,hf⟩:=hf;obtain⟨v,hv⟩:∃v,U[i]?=some (some v):=by
  cases e:env[i]? with
  |none=>rw[e]at hd;cases hd
  |some w=>
   cases w with
   |none=>rw[e]at hd;cases hd
   |some s=>obtain⟨fp,L⟩:=K.sl;obtain⟨v,hv,_⟩:=L.at' i s e;exact#[v,hv]
 refine#[v,hv,hb Z F U H env _ _ K hf λy e2 u F2 H2 p2 s2 K2 r2=>?_];unfold BV at p2;have fin:∀(s:Sl),(s.k≠2/\s.k≠4)->e2[i]?=some (some s)->opt (o s.v y) (λz=>P z e2)->r v u H2 Q:=λs hk hs #[z,ez,p3]=>by obtain⟨v',Ku,rv⟩:=K2.vw hs hk;rw[hv]at Ku;cases Ku;exact hq Z F2 U H2 e2 v u s.v y z Q K2 rv r2 ez λv' F' H' s3 K3 r3=>k z e2 v' F' H' p3 (ag s2 s3) K3 r3
 split at p2
 .rename_i hy;exact fin _ #[0] hy p2
 .rename_i hy;exact fin _ #[0] hy p2
 .rename_i hy;exact fin _ #[0] hy p2
 .exact p2.elim
open PySem L2 PyProof.Rows
noncomputable def Dc(eQ:List (Key×PV))(k:Key):Aaw:=(eQ.find? λkv=>decide (kv.1=k)).map (·.2)
noncomputable def Gr(eQ:List (Key×PV))(k:Key)(v:PV):List (Key×PV) :=
 if (eQ.any λkv=>decide (kv.1=k))=true then eQ.map (λkv=>if kv.1=k then (kv.1,v)else kv)else eQ++[(k,v)]
noncomputable def FN:PV->Option Key
 |.int i=>some (.inl i)
 |.str s=>some (.inr s)
 |_=>none
variable{K:aaf}{F:Hp}
variable{k:Key}{vs:List (Key×V)}{xs:List (Key×PV)}
def Bo.val(h:Bo K F vs xs):(Cz vs k=none/\Dc xs k=none)\/∃v x,Cz vs k=some v/\Dc xs k=some x/\Rep K F v x:=by
 induction h using Bo.ind with
 |nil=>exact .inl #[rfl,rfl]
 |@cons k' v x vs xs h _ ih=>
  by_cases e:k'=k
  .exact .inr #[v,x,da e,by simp[Dc,e],h]
  .rw[fI e];have e2:Dc ((k',x)::xs) k=Dc xs k:=by simp[Dc,e]
   rw[e2];exact ih
def Bo.any(h:Bo K F vs xs):(vs.any λkv=>decide (kv.1=k))=xs.any λkv=>decide (kv.1=k):=by
 induction h using Bo.ind with
 |nil=>rfl
 |cons _ _ ih=>exact congrArg _ ih
def Bo.app{ws:List (Key×V)}{ys:List (Key×PV)}(h:Bo K F vs xs)(k:Bo K F ws ys):Bo K F (vs++ws) (xs++ys):=by
 induction h using Bo.ind with
 |nil=>exact k
 |cons a _ ih=>exact .cons a ih
variable{v:V}{x:PV}
def Bo.NV(hv:Rep K F v x)(h:Bo K F vs xs):Bo K F (vs.map λkv=>if kv.1=k then (kv.1,v)else kv) (xs.map λkv=>if kv.1=k then (kv.1,x)else kv):=by
 induction h using Bo.ind with
 |nil=>exact .nil
 |@cons k' v' x' vs xs a _ ih=>
  rw[aau,aau];by_cases e:k'=k
  .rw[if_pos e,if_pos e];exact .cons hv ih
  .rw[if_neg e,if_neg e];exact .cons a ih
def Bo.put(h:Bo K F vs xs)(hv:Rep K F v x):Bo K F (putK vs k v) (Gr xs k x):=by
 unfold putK Gr;rw[h.any];split
 .exact h.NV hv
 .exact h.app (.cons hv .nil)
def fu(h:FN x=some k)(r:Rep K F v x):v=kV k:=by cases r<;>cases h<;>rfl
noncomputable def lE:PV->PV->Option PV
 |.tup xs,.int i=>IQ xs i
 |.lst xs,.int i=>IQ xs i
 |.str s,.int i=>if s.length<=100000 then (IQ s.cps.toList i).map λc=>.str #[#v[c]]else none
 |.Cd eQ,y=>(FN y).bind (Dc eQ)
 |_,_=>none
def NQ:R2:=λx y H Q=>∃a v,x=.ref a/\Hm H a y (some v)/\Q v H
variable{ob:Ct}{X:Cx}{a b c e:Expr}{f g h:WE}{pos:Pos}
def CO(hu:X.A.units+1<cLine):Lf X NQ:=by intro value slice pins s U H x y v u Q I rx ry h hs;obtain⟨a,z,rfl,g,q⟩:=h;cases rx;exact tail_any (jc I g) PySem.F.slot_dict_getitem.lookup (mC hu I g ry λw' s3 I3 Fq=>#[z,H,I3,Fq,q]) hs
def QL(K:aaf):R2:=λx y H Q=>Wm K x y H Q\/NQ x y H Q
def tT(hu:X.A.units+1<cLine):Lf X (QL X.K):=N0.or (CO hu)
variable{i:Int}
def qD{vs:Aai}{xs:Aad}{z:PV}(r:rW K F vs xs)(h:IQ xs i=some z):∃v,IQ vs i=some v/\Rep K F v z:=by
 unfold IQ at h⊢;rw[r.len];cases e:Kp xs.length i with
 |none=>rw[e]at h;cases h
 |some j=>rw[e]at h;exact r.get h
variable{M:Md}{H:Hp}
def Mn(h:Vw M F H v x)(hk:FN x=some k):v=kV k:=by
 cases x<;>try cases hk
 .exact h.int
 .exact h.str
theorem Ki:Ff ob X (QL X.K) lE:=by
 intro Z F U H env v u x y z Q K rx ry hz k;unfold lE at hz;split at hz
 .obtain⟨p,vs,rfl,h1,h2⟩:=rx.tup K.sF;rw[ry.int];obtain⟨w,e1,e2⟩:=qD h2 hz;exact .inl (.inr (.inl #[p,vs,_,w,rfl,rfl,h1,e1,k w F H aj K e2]))
 .obtain⟨p,vs,rfl,h1,h2⟩:=rx.lst K.sF;rw[ry.int];obtain⟨w,e1,e2⟩:=qD h2 hz;exact .inl (.inl #[p,vs,_,w,rfl,rfl,.inl (.inl h1),e1,k w F H aj K e2])
 .rename_i s i;split at hz
  .rw[rx.str,ry.int];cases e:IQ s.cps.toList i with
   |none=>rw[e]at hz;cases hz
   |some c=>rw[e]at hz;cases hz;exact .inl (.inr (.inr #[s,i,c,rfl,rfl,by rw[aaJ];omega,e,k _ F H aj K (.str _)]))
  .cases hz
 .rename_i eQ;obtain⟨p,vs,rfl,h1,h2⟩:=rx.Cd K.sF;cases e:FN y with
  |none=>rw[e]at hz;cases hz
  |some kk=>
   rw[e]at hz;have hz:Dc eQ kk=some z:=hz;rw[Mn ry e];rcases h2.val with ⟨_,e2⟩|⟨w,w',e1,e2,e3⟩
   .rw[e2]at hz;cases hz
   .rw[e2]at hz;cases hz;refine .inr #[p,w,rfl,?_,k w F H aj K e3];rw[<- e1];exact SU h1
 .cases hz
def Bf(hu:X.A.units+1<cLine)(ha:BH ob X a f)(hb:Gh ob X b g)(hs:autoParam (lN b) Ch):BH ob X (.Subscript a b pos) (lT lE f g):=by obtain⟨ta,ha,ka⟩:=ha.ex;obtain⟨tb,hb,kb⟩:=hb.ex;exact#[_,cq (tT hu) ha hb hs,im (SH Ki) ka kb]
variable{p:Pos}
def Aq(i:Nat){x:Str}(hu:X.A.units+1<cLine)(ha:PE X (.Name x p) (B2 i))(hb:Gh ob X b g)(hs:autoParam (lN b) Ch):BH ob X (.Subscript (.Name x p) b pos) (Gy lE i g):=by obtain⟨tb,hb,kb⟩:=hb.ex;exact#[_,cq (tT hu) ha hb hs,nX Ki kb]
variable{r r':R2}
def Co.or{fn:Value->Value->Sem Value}(h:Co X fn r)(h':Co X fn r'):Co X fn (λx y H Q=>r x y H Q\/r' x y H Q):=by
 intro pins s U H x y v u Q I rx ry q;rcases q with q|q
 .exact h pins s U H x y v u Q I rx ry q
 .exact h' pins s U H x y v u Q I rx ry q
noncomputable def BO:PV->PV->Option PV
 |.int i,.int j=>some (.int (i+j))
 |.str s,.str t=>if s.length+t.length<=100000 then some (.str (s++t))else none
 |.tup xs,.tup ys=>if xs.length+ys.length<=100000 then some (.tup (xs++ys))else none
 |.lst xs,.lst ys=>if xs.length+ys.length<=100000 then some (.lst (xs++ys))else none
 |_,_=>none
def Vw.Ic{xs:Aad}(h:Vw M F H v (.tup xs)):Rep M.K F v (.tup xs):=by
 rcases h with h|⟨a,rfl,h⟩
 .exact h
 .exact h.elim
def MA(K:aaf):R2:=λx y H Q=>((G6 λi j=>.int (i+j)) x y H Q\/∃i j,x=.str i/\y=.str j/\i.length+j.length<=sizeLine/\Q (.str (i++j)) H)\/(Mz K x y H Q\/QP x y H Q)
def qa:Co X (acg .Add) (MA X.K):=Co.or (Co.or dy qY) (Co.or xA zo)
theorem p9:Ff ob X (MA X.K) BO:=by
 intro Z F U H env v u x y z Q K rx ry hz k;unfold BO at hz;split at hz
 .cases hz;rw[rx.int,ry.int];exact .inl (.inl #[_,_,rfl,rfl,k _ F H aj K (.int _)])
 .split at hz
  .cases hz;rw[rx.str,ry.str];exact .inl (.inr #[_,_,rfl,rfl,by rw[aaJ];omega,k _ F H aj K (.str _)])
  .cases hz
 .rename_i xs ys;split at hz
  .cases hz;obtain⟨p,vs,rfl,h1,h2⟩:=rx.tup K.sF;obtain⟨q,ws,rfl,g1,g2⟩:=ry.tup K.sF;have hl:=h2.len;have gl:=g2.len;refine .inr (.inl #[p,q,vs,ws,rfl,rfl,h1,g1,by rw[aaJ];omega,?_]);refine#[λe=>k _ F H aj K ?_,λe=>k _ F H aj K ?_,λr hr=>?_]
   .subst e;have  := List.length_eq_zero_iff.mp hl.symm;subst this;exact ry.Ic
   .subst e;have  := List.length_eq_zero_iff.mp gl.symm;subst this;rw[aa9];exact rx.Ic
   .have hF  := dO.none_of K.sF hr;exact k _ _ _ (aq hF) (K.lay hr) (.tup (.inl (.inl ah)) ((h2.app g2).mono (aq hF)))
  .cases hz
 .split at hz
  .cases hz;obtain⟨p,vs,rfl,h1,h2⟩:=rx.lst K.sF;obtain⟨q,ws,rfl,g1,g2⟩:=ry.lst K.sF;have hl:=h2.len;have gl:=g2.len;refine .inr (.inr #[p,q,vs,ws,rfl,rfl,h1,g1,by rw[aaJ];omega,λr hr=>?_]);have hF  := dO.none_of K.sF hr;exact k _ _ _ (aq hF) (K.lay hr) (.lst ah ((h2.app g2).mono (aq hF)))
  .cases hz
 .cases hz
variable{o:PV->PV->Option PV}
def fG{op:Operator}(hr:Co X (acg op) r)(hq:Ff ob X r o)(ha:BH ob X a f)(hb:Gh ob X b g):BH ob X (.BinOp a op b pos) (lT o f g):=by obtain⟨ta,ha,ka⟩:=ha.ex;obtain⟨tb,hb,kb⟩:=hb.ex;exact#[_,aE hr ha hb,im (SH hq) ka kb]
def ym{op:Operator}(i:Nat){x:Str}(hr:Co X (acg op) r)(hq:Ff ob X r o)(ha:PE X (.Name x p) (B2 i))(hb:Gh ob X b g):BH ob X (.BinOp (.Name x p) op b pos) (Gy o i g):=by obtain⟨tb,hb,kb⟩:=hb.ex;exact#[_,aE hr ha hb,nX hq kb]
def Ax(ha:BH ob X a f)(hb:Gh ob X b g):BH ob X (.BinOp a .Add b pos) (lT BO f g):=fG qa p9 ha hb
noncomputable def iI(C:Int->Int->Bool)(h:Int->Int->Int):PV->PV->Option PV
 |.int i,.int j=>if C i j=true then some (.int (h i j))else none
 |_,_=>none
def io{C:Int->Int->Bool}{D:Int->Int->Prop}{h:Int->Int->Int}(hC:∀i j,C i j=true->D i j):Ff ob X (rI D λi j=>.int (h i j)) (iI C h):=by
 intro Z F U H env v u x y z Q K rx ry hz k;unfold iI at hz;split at hz
 .split at hz
  .rename_i hc;cases hz;rw[rx.int,ry.int];exact#[_,_,rfl,rfl,hC _ _ hc,k _ F H aj K (.int _)]
  .cases hz
 .cases hz
noncomputable def Ea:=iI (λ_ _=>true) λi j=>i - j
noncomputable def OH(i j:Int):Bool:=(decide (-(2 ^ 64)<i) && decide (i<2 ^ 64)) || (decide (-(2 ^ 64)<j) && decide (j<2 ^ 64))
noncomputable def Ec:PV->PV->Option PV
 |.int i,.int j=>if OH i j=true then some (.int (i*j))else none
 |.str s,.int i=>if 0<=i/\i<=1000/\s.length<=1000 then some (.str (G5 s i.toNat))else none
 |.lst xs,.int i=>if -1000<=i/\i<=1000/\xs.length<=1000 then some (.lst (aaO i.toNat xs).flatten)else none
 |_,_=>none
noncomputable def DP:=iI (λ_ j=>decide (0<j)) λi j=>i % j
noncomputable def GU:=iI (λ_ j=>decide (0<j) && decide (j<1073741824)) λi j=>i / j
noncomputable def FF:=iI (λi j=>decide (0<=j) && decide (j<=1000000) && decide (i.natAbs<2 ^ 64)) λi j=>i ^ j.toNat
def xv:Co X (acg .Sub) (rI (λ_ _=>True) λi j=>.int (i - j)):=by intro pins s U H x y v u Q I rx ry h;obtain⟨i,j,e1,e2,_,q⟩:=h;exact zj pins s U H x y v u Q I rx ry #[i,j,e1,e2,q]
def Af(ha:BH ob X a f)(hb:Gh ob X b g):BH ob X (.BinOp a .Sub b pos) (lT Ea f g):=fG xv (io λ_ _ _=>trivial) ha hb
def Am(ha:BH ob X a f)(hb:Gh ob X b g):BH ob X (.BinOp a .Mod b pos) (lT DP f g):=fG cC (io λ_ _ h=>of_decide_eq_true h) ha hb
def Av(ha:BH ob X a f)(hb:Gh ob X b g):BH ob X (.BinOp a .FloorDiv b pos) (lT GU f g):=fG lu (io λ_ _ h=>by simp at h;exact h) ha hb
def Ai(ha:BH ob X a f)(hb:Gh ob X b g):BH ob X (.BinOp a .Pow b pos) (lT FF f g):=fG sU (io λ_ _ h=>by simp at h;exact#[h.1.1,h.1.2,h.2]) ha hb
def rW.rep{vs:Aai}{xs:Aad}(r:rW K F vs xs):∀n:Nat,rW K F (aaO n vs).flatten (aaO n xs).flatten
 |0=>.nil
 |n+1=>r.app (r.rep n)
theorem xt:Ff ob X (λx y H Q=>(rI HV λi j=>.int (i*j)) x y H Q\/(Mx x y H Q\/QD x y H Q)) Ec:=by
 intro Z F U H env v u x y z Q K rx ry hz k;unfold Ec at hz;split at hz
 .split at hz
  .rename_i hc;cases hz;rw[rx.int,ry.int];refine .inl #[_,_,rfl,rfl,?_,k _ F H aj K (.int _)];unfold OH at hc;simp at hc;exact hc
  .cases hz
 .split at hz
  .rename_i hc;cases hz;rw[rx.str,ry.int];exact .inr (.inl #[_,_,rfl,rfl,hc.1,hc.2.1,hc.2.2,k _ F H aj K (.str _)])
  .cases hz
 .rename_i xs i;split at hz
  .cases hz;obtain⟨p,vs,rfl,h1,h2⟩:=rx.lst K.sF;rw[ry.int];have hl:=h2.len;refine .inr (.inr #[p,i,vs,rfl,rfl,h1,#[],#[],?_,λr hr=>?_])
   .have h3:i.toNat<=1000:=by omega
    have h4:vs.length<=1000:=by omega
    calc vs.length*i.toNat<=1000*1000:=Nat.mul_le_mul h4 h3
     _<=16777216:=by decide
   .have hF  := dO.none_of K.sF hr;exact k _ _ _ (aq hF) (K.lay hr) (.lst ah ((h2.rep _).mono (aq hF)))
  .cases hz
 .cases hz
def Al(ha:BH ob X a f)(hb:Gh ob X b g):BH ob X (.BinOp a .Mult b pos) (lT Ec f g):=fG (Co.or cB (Co.or xy zk)) xt ha hb
noncomputable def QZ:PV->Option PV
 |.int i=>some (.int (-i))
 |_=>none
variable{op:CmpOp}
def g8(hr:Co X (aa4 op) r)(hq:Ff ob X r o)(ha:BH ob X a f)(hb:Gh ob X b g)(hm:adi op b=false):BH ob X (.Compare a [op] [b] pos) (lT o f g):=by obtain⟨ta,ha,ka⟩:=ha.ex;obtain⟨tb,hb,kb⟩:=hb.ex;exact#[_,lp hr ha hb hm,im (SH hq) ka kb]
def AA{o:PV->PV->Option PV}(he:∃t,PE X (.Compare a [op] [b] pos) t/\PT X (.Compare a [op] [b] pos) (IX t)/\∀(Z:Zn) (F:Hp) (U:L2.St) (H:Hp) (env:En) (P:Aal) (Q:VK),tO (md ob X) Z F U H env->f env P->(∀x aT v F' H',P x aT->dO F F'->tO (md ob X) Z F' U H' aT->Rep X.K F' v x->Q v H')->t U H Q):Gd ob X (.Compare a [op] [b] pos) (Bs f):=by
 obtain⟨t,_,ht,h⟩:=he;refine#[_,ht,λZ F U H env P Q K hf k=>h Z F U H env _ _ K hf λx e1 v F1 H1 p s1 K1 r1=>?_];obtain⟨z,hz,p⟩:=p;cases x<;>try (cases hz)
 cases r1;exact#[_,rfl,k _ e1 F1 H1 p s1 K1]
def cg(hr:Co X (aa4 op) r)(hq:Ff ob X r o)(ha:BH ob X a f)(hb:Gh ob X b g)(hm:adi op b=false):Gd ob X (.Compare a [op] [b] pos) (Bs (lT o f g)):=by obtain⟨ta,ha,ka⟩:=ha.ex;obtain⟨tb,hb,kb⟩:=hb.ex;exact AA (o:=o) #[_,lp hr ha hb hm,ii hr ha hb hm,im (SH hq) ka kb]
def bn{P:V->V->Hp->V->Prop}(h:∀(F H:Hp) (v u:V) (x y z:PV),dO F H->Vw (md ob X) F H v x->Vw (md ob X) F H u y->o x y=some z->∃w,(∀F,Rep X.K F w z)/\∀Q:VK,Q w H->r v u H Q):Ff ob X r o:=by intro Z F U H env v u x y z Q K rx ry hz k;obtain⟨w,h1,h2⟩:=h F H v u x y z K.sF rx ry hz;exact h2 Q (k w F H aj K (h1 F))
noncomputable def Jv:PV->PV->Option PV
 |.int i,.int j=>some (.bl (decide (i<j)))
 |.str s,.str t=>some (.bl (decide (B0 s t)))
 |_,_=>none
noncomputable def Ir:PV->PV->Option PV
 |.int i,.int j=>some (.bl (decide (i<=j)))
 |.str s,.str t=>some (.bl (!decide (B0 t s)))
 |_,_=>none
noncomputable def JI:PV->PV->Option PV
 |.int i,.int j=>some (.bl (decide (j<i)))
 |_,_=>none
def sP:Ff ob X (λx y H Q=>(G6 λi j=>.bl (decide (i<j))) x y H Q\/∃i j,x=.str i/\y=.str j/\Q (.bl (decide (i.cps.toList<j.cps.toList))) H) Jv:=by
 refine bn (P:=λ_ _ _ _=>True) λF H v u x y z sF rx ry hz=>?_;unfold Jv at hz;split at hz
 .cases hz;rw[rx.int,ry.int];exact#[_,λ_=>.bl _,λQ q=>.inl #[_,_,rfl,rfl,q]]
 .cases hz;rw[rx.str,ry.str];exact#[_,λ_=>.bl _,λQ q=>.inr #[_,_,rfl,rfl,q]]
 .cases hz
def j6:Ff ob X (λx y H Q=>(G6 λi j=>.bl (decide (i<=j))) x y H Q\/∃i j,x=.str i/\y=.str j/\Q (.bl (!decide (j.cps.toList<i.cps.toList))) H) Ir:=by
 refine bn (P:=λ_ _ _ _=>True) λF H v u x y z sF rx ry hz=>?_;unfold Ir at hz;split at hz
 .cases hz;rw[rx.int,ry.int];exact#[_,λ_=>.bl _,λQ q=>.inl #[_,_,rfl,rfl,q]]
 .cases hz;rw[rx.str,ry.str];exact#[_,λ_=>.bl _,λQ q=>.inr #[_,_,rfl,rfl,q]]
 .cases hz
def sR:Ff ob X (G6 λi j=>.bl (decide (j<i))) JI:=by
 refine bn (P:=λ_ _ _ _=>True) λF H v u x y z sF rx ry hz=>?_;unfold JI at hz;split at hz
 .cases hz;rw[rx.int,ry.int];exact#[_,λ_=>.bl _,λQ q=>#[_,_,rfl,rfl,q]]
 .cases hz
def wA:Co X (aa4 .Lt) (λx y H Q=>(G6 λi j=>.bl (decide (i<j))) x y H Q\/∃i j,x=.str i/\y=.str j/\Q (.bl (decide (i.cps.toList<j.cps.toList))) H):=Co.or A6 sW
def mY:Co X (aa4 .LtE) (λx y H Q=>(G6 λi j=>.bl (decide (i<=j))) x y H Q\/∃i j,x=.str i/\y=.str j/\Q (.bl (!decide (j.cps.toList<i.cps.toList))) H):=Co.or A7 sX
noncomputable def J0:PV->Option Bool
 |.Bw=>some false
 |.bl b=>some b
 |.int i=>some (i != 0)
 |.str s=>if s.length<=100000 then some ((s.length:Int) != 0)else none
 |.tup xs=>some (!xs.isEmpty)
 |.lst xs=>some (!xs.isEmpty)
 |.Cd xs=>some (!xs.isEmpty)
 |_=>none
def CV(a:WE):WT:=λenv P=>a env λx e=>opt (J0 x) λb=>P b e
theorem Ay(he:Gh ob X e f)(h:autoParam (∀whole,isTrue e X.env whole=(do let v <- whole;aff e.pos;adp [v] (truthy v))) At):Gd ob X e (CV f):=by
 obtain⟨t,ht,k0⟩:=he.ex;refine#[_,uV ht h,λZ F U H env P Q K hf k=>k0 Z F U H env _ _ K hf λx e1 v F1 H1 p s1 K1 r1=>?_];obtain⟨z,hz,p⟩:=p;refine#[z,?_,k _ e1 F1 H1 p s1 K1];have Vv:∀{α w:Type} {l:List α} {m:List w},l.length=m.length->l.isEmpty=m.isEmpty:=λ{α w l m} h=>by cases l<;>cases m<;>simp at h⊢
 cases x<;>simp only[J0]at hz
 .cases hz;rw[r1.Bw];rfl
 .cases hz;rw[r1.bl];rfl
 .cases hz;rw[r1.int];rfl
 .split at hz
  .cases hz;rw[r1.str];exact#[by rw[aaJ];omega,rfl]
  .cases hz
 .cases hz;obtain⟨p,vs,rfl,h1,h2⟩:=r1.tup K1.sF;exact .inr (.inl #[vs,h1,by rw[Vv h2.len]])
 .cases hz;obtain⟨p,vs,rfl,h1,h2⟩:=r1.lst K1.sF;exact .inl #[vs,.inl (.inl h1),by rw[Vv h2.len]]
 .cases hz;obtain⟨p,vs,rfl,h1,h2⟩:=r1.Cd K1.sF;exact .inr (.inr #[vs,h1,by rw[Vv h2.len]])
 .cases hz
 .cases hz
variable{t u:WT}{rest:Aak}
def AC(h:OP ob X e t):Gd ob X e t:=by obtain⟨w,hw,k⟩:=h.ex;exact#[w,hw.pt,k]
def yp(h:Gd ob X a t):OP ob X (.BoolOp .And [a] pos) t:=by obtain⟨w,hw,k⟩:=h.ex;exact#[w,pw_and1 hw,k]
def AD(h:Gd ob X a t):OP ob X (.BoolOp .Or [a] pos) t:=by obtain⟨w,hw,k⟩:=h.ex;exact#[w,pw_or1 hw,k]
def ug(h:Gd ob X a t)(h2:OP ob X (.BoolOp .And (b::rest) pos) u):OP ob X (.BoolOp .And (a::b::rest) pos) (Gm t u):=by
 obtain⟨w,hw,k⟩:=h.ex;obtain⟨w2,UB,k2⟩:=h2.ex;refine#[_,pw_and hw UB,λZ F U H env P Q K hf kk=>k Z F U H env _ _ K hf λx e1 F1 H1 p s1 K1=>?_];cases x with
 |true=>exact Gv (k2 Z F1 U H1 e1 P Q K1 p λx e2 F2 H2 p2 s2 K2=>kk x e2 F2 H2 p2 (ag s1 s2) K2)
 |false=>exact FP (kk _ e1 F1 H1 p s1 K1)
def wF(h:Gd ob X a t)(h2:OP ob X (.BoolOp .Or (b::rest) pos) u):OP ob X (.BoolOp .Or (a::b::rest) pos) (IY t u):=by
 obtain⟨w,hw,k⟩:=h.ex;obtain⟨w2,UB,k2⟩:=h2.ex;refine#[_,pw_or hw UB,λZ F U H env P Q K hf kk=>k Z F U H env _ _ K hf λx e1 F1 H1 p s1 K1=>?_];cases x with
 |true=>exact Gv (kk _ e1 F1 H1 p s1 K1)
 |false=>exact FP (k2 Z F1 U H1 e1 P Q K1 p λx e2 F2 H2 p2 s2 K2=>kk x e2 F2 H2 p2 (ag s1 s2) K2)
def Az(h:Gd ob X a t):Gd ob X (.UnaryOp .Not a pos) (Dr t):=by obtain⟨w,hw,k⟩:=h.ex;exact#[_,yZ hw,λZ F U H env P Q K hf kk=>k Z F U H env _ _ K hf λx e1 F1 H1 p s1 K1=>kk _ e1 F1 H1 p s1 K1]
def Au(hc:Gd ob X c t)(ha:BH ob X a f)(hb:BH ob X b g):BH ob X (.IfExp c a b pos) (OF t f g):=by
 obtain⟨w,hw,k⟩:=hc.ex;obtain⟨ta,ha,ka⟩:=ha.ex;obtain⟨tb,hb,kb⟩:=hb.ex;refine#[_,u6 hw ha hb,λZ F U H env P Q K hf kk=>k Z F U H env _ _ K hf λx e1 F1 H1 p s1 K1=>?_];cases x with
 |true=>exact Gv (ka Z F1 U H1 e1 P Q K1 p λx e2 v F2 H2 p2 s2 K2 r2=>kk x e2 v F2 H2 p2 (ag s1 s2) K2 r2)
 |false=>exact FP (kb Z F1 U H1 e1 P Q K1 p λx e2 v F2 H2 p2 s2 K2 r2=>kk x e2 v F2 H2 p2 (ag s1 s2) K2 r2)
noncomputable def GB:PV->Option Bool
 |.bl b=>some b
 |_=>none
def KU(a b:WE):WE:=λenv P=>a env λx e=>opt (GB x) λk=>if k=true then b e P else P (.bl false) e
def ZL(a b:WE):WE:=λenv P=>a env λx e=>opt (GB x) λk=>if k=true then P (.bl true) e else b e P
def Vy(a:WE):WE:=λenv P=>a env λx e=>opt (GB x) λk=>P (.bl (!k)) e
def Aj{op}(h:BH ob X a f):BH ob X (.BoolOp op [a] pos) f:=by obtain⟨t,ht,k⟩:=h.ex;exact#[t,zd ht,k]
def qB{k:Bool}(r:Rep K F v x)(h:GB x=some k):v=.bl k/\x=.bl k:=by cases x<;>cases h;cases r;exact#[rfl,rfl]
def Aw(ha:BH ob X a f)(hb:BH ob X (.BoolOp .And (b::rest) pos) g):BH ob X (.BoolOp .And (a::b::rest) pos) (KU f g):=by
 obtain⟨ta,ha,ka⟩:=ha.ex;obtain⟨tb,hb,kb⟩:=hb.ex;refine#[_,zg ha hb,λZ F U H env P Q K hf kk=>ka Z F U H env _ _ K hf λx e1 v F1 H1 p s1 K1 r1=>?_];obtain⟨z,hz,p⟩:=p;obtain⟨rfl,rfl⟩:=qB r1 hz;refine#[z,rfl,?_];cases z with
 |true=>exact Gv (kb Z F1 U H1 e1 P Q K1 p λx e2 v F2 H2 p2 s2 K2 r2=>kk x e2 v F2 H2 p2 (ag s1 s2) K2 r2)
 |false=>exact FP (kk _ e1 _ F1 H1 p s1 K1 (.bl _))
noncomputable def Cc:Nat->PV->PV->Option Bool
 |0,_,_=>none
 |d+1,x,y=>match x,y with
  |.Bw,.Bw=>some true
  |.Bw,.bl _=>some false
  |.Bw,.int _=>some false
  |.Bw,.str _=>some false
  |.bl _,.Bw=>some false
  |.bl a,.bl b=>some (a==b)
  |.bl a,.int b=>some ((if a then 1 else 0)==b)
  |.bl _,.str _=>some false
  |.int _,.Bw=>some false
  |.int a,.bl b=>some (a==(if b then 1 else 0))
  |.int a,.int b=>some (a==b)
  |.int _,.str _=>some false
  |.str _,.Bw=>some false
  |.str _,.bl _=>some false
  |.str _,.int _=>some false
  |.str a,.str b=>some (a==b)
  |.tup xs,.tup ys=>((xs.zip ys).mapM λp=>Cc d p.1 p.2).map λbs=>bs.all id && xs.length==ys.length
  |.lst xs,.lst ys=>if xs.length=ys.length then ((xs.zip ys).mapM λp=>Cc d p.1 p.2).map λbs=>bs.all id else some false
  |.tup _,.lst _=>some false
  |.lst _,.tup _=>some false
  |.tup _,.Bw=>some false
  |.tup _,.bl _=>some false
  |.tup _,.int _=>some false
  |.tup _,.str _=>some false
  |.Bw,.tup _=>some false
  |.bl _,.tup _=>some false
  |.int _,.tup _=>some false
  |.str _,.tup _=>some false
  |.lst _,.Bw=>some false
  |.lst _,.bl _=>some false
  |.lst _,.int _=>some false
  |.lst _,.str _=>some false
  |.Bw,.lst _=>some false
  |.bl _,.lst _=>some false
  |.int _,.lst _=>some false
  |.str _,.lst _=>some false
  |_,_=>none
variable{α:Type}
def be{w:Type}{f:α->Option w}:∀{l:List α} {m:List w},l.mapM f=some m->m.length=l.length/\∀(i:Nat) (a:α),l[i]?=some a->∃b,m[i]?=some b/\f a=some b
 |[],m,h=>by simp_all
 |a::l,m,h=>by
  rw[abB]at h;cases ea:f a with
  |none=>rw[ea]at h;cases h
  |some b=>
   rw[ea]at h;cases el:l.mapM f with
   |none=>rw[el]at h;cases h
   |some m'=>
    rw[el]at h;cases h;obtain⟨h1,h2⟩:=be el;refine#[#[1],λi c e=>?_];cases i with
    |zero=>simp at e;subst e;exact#[b,rfl,ea]
    |succ i=>exact h2 i c e
def AS.KG:∀{xs:Aai} {us:Aae} {i:Nat} {u:Value},AS xs us->us[i]?=some u->∃x,xs[i]?=some x/\RelV x u
 |_,_,_,_,.nil,e=>by simp_all
 |_,_,0,_,.cons r _,e=>by simp_all
 |_,_,i+1,x,.cons _ t,e=>by obtain⟨u,h1,h2⟩:=AS.KG t (by simpa using e);exact#[u,#[1],h2]
variable{pins:Aac}{U:L2.St}{s:Shared}
variable{ws:Aai}
def cb(I:Inv X pins U H s){a:Addr}{vs:Aai}(h1:CN X.K H a vs)(h2:C3 X.K H a ws):False:=by obtain⟨_,_,⟨o,n,e,c,_⟩,_⟩:=I.list h1;obtain⟨_,_,⟨o',e',c',_⟩,_⟩:=I.tuple h2;rw[e]at e';cases e';rw[c]at c';exact absurd c' #[2]
def dH{e:Nat->Bool}{bs:List Bool}(h:∀j,j<bs.length->bs[j]?=some (e j)):(abd bs.length).all e=bs.all id:=by
 rw[aa0,ad2,ad2];constructor
 .intro q b hb;obtain⟨j,hj,rfl⟩:=List.mem_iff_getElem.mp hb;have:=h j hj;rw[aab hj]at this;have q2:=q j (List.mem_range.mpr hj);rw[<- aar this]at q2;exact q2
 .intro q j hj;have hj:=List.mem_range.mp hj;have:=h j hj;rw[aab hj]at this;rw[<- aar this];exact q _ (abQ hj)
def mz(I:Inv X pins U H s)(sF:dO F H):∀{d:Nat} {v:V} {x y:PV} {k:Bool},Rep X.K F v x->Rep X.K F v y->Cc d x y=some k->k=true:=by
 intro d;induction d with
 |zero=>intro v x y k _ _ h;cases h
 |succ d ih=>
  intro v x y k rx ry h;have lists:∀{vs:Aai} {xs ys:Aad} {bs:List Bool},rW X.K F vs xs->rW X.K F vs ys->(xs.zip ys).mapM (λp=>Cc d p.1 p.2)=some bs->bs.all id=true:=λ{vs xs ys bs} r1 r2 hm=>by
   obtain⟨h1,h2⟩:=be hm;rw[ad2];intro b hb;obtain⟨j,hj,rfl⟩:=List.mem_iff_getElem.mp hb;have U4:j<(xs.zip ys).length:=by rw[<- h1];exact hj
   obtain⟨b',e1,e2⟩:=h2 j _ (aab U4);rw[aab hj]at e1;cases aar e1;have hx:xs[j]?=some (xs.zip ys)[j].1:=by have:=aab U4;rw[aa5]at this;exact this.1
   have hy:ys[j]?=some (xs.zip ys)[j].2:=by have:=aab U4;rw[aa5]at this;exact this.2
   obtain⟨v1,q1,q2⟩:=r1.get hx;obtain⟨v2,q3,q4⟩:=r2.get hy;rw[q1]at q3;cases q3;exact ih q2 q4 e2
  cases rx with
  |Bw=>cases ry;cases h;rfl
  |bl b=>cases ry;cases h;simp
  |int b=>cases ry;cases h;simp
  |str b=>cases ry;cases h;simp
  |tup h1 r1=>
   cases ry with
   |tup h2 r2=>have:=I.D0 (au sF h1) (au sF h2);subst this;replace h:Option.map (λbs:List Bool=>bs.all id && ac8 _==ac8 _) (List.mapM (λp:PV×PV=>Cc d p.1 p.2) (List.zip _ _))=some k:=h;rw[aax]at h;obtain⟨bs,hb,e⟩:=h;rw[<- e,lists r1 r2 hb,<- r1.len,<- r2.len];simp
   |lst h2 r2=>exact(cb I (.inl (.inl (sF _ _ h2))) (au sF h1)).elim
   |Cd h2 r2=>cases h
   |D5 h2=>cases h
  |lst h1 r1=>
   cases ry with
   |tup h2 r2=>exact(cb I (.inl (.inl (sF _ _ h1))) (au sF h2)).elim
   |lst h2 r2=>rw[h1]at h2;cases h2;replace h:(if ac8 _=ac8 _ then Option.map (λbs:List Bool=>bs.all id) (List.mapM (λp:PV×PV=>Cc d p.1 p.2) (List.zip _ _))else some false)=some k:=h;rw[if_pos (by rw[<- r1.len,<- r2.len])]at h;rw[aax]at h;obtain⟨bs,hb,e⟩:=h;rw[<- e,lists r1 r2 hb]
   |Cd h2 r2=>cases h
   |D5 h2=>cases h
  |Cd h1 r1=>cases y<;>cases h
  |D5 h1=>cases y<;>cases h
theorem OA(I:Inv X pins U H s)(sF:dO F H):∀{d:Nat} {A:Around} {v u:V} {x y:PV} {a b:Value} {k:Bool},A.units+d<cLine->Rep X.K F v x->Rep X.K F u y->RelV v a->RelV u b->Cc d x y=some k->SeqAt.RcAt A s a b k/\SeqAt.EqAt A s a b k:=by
 intro d;induction d with
 |zero=>intro A v u x y a b k _ _ _ _ _ h;cases h
 |succ d ih=>
  intro A v u x y a b k hu rx ry ra rb h;have Dj:A.units<cLine:=by omega
  cases rx with
  |Bw=>
   cases ra;cases ry with
   |Bw=>cases rb;cases h;exact#[SeqAt.RcAt.none_none,afo _]
   |bl b=>cases rb;cases h;exact#[SeqAt.RcAt.none_bool b,SeqAt.EqAt.none_bool b]
   |int b=>obtain⟨t,rfl⟩:=rb;cases h;exact#[SeqAt.RcAt.none_int b t,SeqAt.EqAt.none_int b t]
   |str b=>obtain⟨t,rfl⟩:=rb;cases h;exact#[SeqAt.RcAt.none_str b t,SeqAt.EqAt.none_str b t]
   |tup h1 r1=>cases rb;cases h;obtain⟨gE,_,p,_⟩:=I.tuple (au sF h1);exact#[SeqAt.RcAt.none_tuple p Dj,SeqAt.EqAt.none_tuple p Dj]
   |lst h1 r1=>cases rb;cases h;obtain⟨gE,_,p,_⟩:=I.list (.inl (.inl (sF _ _ h1)));exact#[SeqAt.RcAt.none_list p.isList Dj,SeqAt.EqAt.none_list p.isList Dj]
   |Cd=>cases h
   |D5=>cases h
  |bl a=>
   cases ra;cases ry with
   |Bw=>cases rb;cases h;exact#[SeqAt.RcAt.bool_none a,SeqAt.EqAt.bool_none a]
   |bl b=>cases rb;cases h;exact#[SeqAt.RcAt.bool_bool a b,SeqAt.EqAt.bool_bool a b]
   |int b=>obtain⟨t,rfl⟩:=rb;cases h;exact#[SeqAt.RcAt.bool_int a b t,SeqAt.EqAt.bool_int a b t]
   |str b=>obtain⟨t,rfl⟩:=rb;cases h;exact#[SeqAt.RcAt.bool_str a b t,SeqAt.EqAt.bool_str a b t]
   |tup h1 r1=>cases rb;cases h;obtain⟨gE,_,p,_⟩:=I.tuple (au sF h1);exact#[SeqAt.RcAt.bool_tuple a p Dj,SeqAt.EqAt.bool_tuple a p Dj]
   |lst h1 r1=>cases rb;cases h;obtain⟨gE,_,p,_⟩:=I.list (.inl (.inl (sF _ _ h1)));exact#[SeqAt.RcAt.bool_list a p.isList Dj,SeqAt.EqAt.bool_list a p.isList Dj]
   |Cd=>cases h
   |D5=>cases h
  |int a=>
   obtain⟨t',rfl⟩:=ra;cases ry with
   |Bw=>cases rb;cases h;exact#[SeqAt.RcAt.int_none a t',SeqAt.EqAt.int_none a t']
   |bl b=>cases rb;cases h;exact#[SeqAt.RcAt.int_bool a t' b,SeqAt.EqAt.int_bool a t' b]
   |int b=>obtain⟨t,rfl⟩:=rb;cases h;exact#[SeqAt.RcAt.int_int a t' b t,adC a t' b t]
   |str b=>obtain⟨t,rfl⟩:=rb;cases h;exact#[SeqAt.RcAt.int_str a t' b t,SeqAt.EqAt.int_str a t' b t]
   |tup h1 r1=>cases rb;cases h;obtain⟨gE,_,p,_⟩:=I.tuple (au sF h1);exact#[SeqAt.RcAt.int_tuple a t' p Dj,SeqAt.EqAt.int_tuple a t' p Dj]
   |lst h1 r1=>cases rb;cases h;obtain⟨gE,_,p,_⟩:=I.list (.inl (.inl (sF _ _ h1)));exact#[SeqAt.RcAt.int_list a t' p.isList Dj,SeqAt.EqAt.int_list a t' p.isList Dj]
   |Cd=>cases h
   |D5=>cases h
  |str a=>
   obtain⟨t',rfl⟩:=ra;cases ry with
   |Bw=>cases rb;cases h;exact#[SeqAt.RcAt.str_none a t',SeqAt.EqAt.str_none a t']
   |bl b=>cases rb;cases h;exact#[SeqAt.RcAt.str_bool a t' b,SeqAt.EqAt.str_bool a t' b]
   |int b=>obtain⟨t,rfl⟩:=rb;cases h;exact#[SeqAt.RcAt.str_int a t' b t,SeqAt.EqAt.str_int a t' b t]
   |str b=>obtain⟨t,rfl⟩:=rb;cases h;exact#[SeqAt.RcAt.str_str a t' b t,aey a t' b t]
   |tup h1 r1=>cases rb;cases h;obtain⟨gE,_,p,_⟩:=I.tuple (au sF h1);exact#[SeqAt.RcAt.str_tuple a t' p Dj,SeqAt.EqAt.str_tuple a t' p Dj]
   |lst h1 r1=>cases rb;cases h;obtain⟨gE,_,p,_⟩:=I.list (.inl (.inl (sF _ _ h1)));exact#[SeqAt.RcAt.str_list a t' p.isList Dj,SeqAt.EqAt.str_list a t' p.isList Dj]
   |Cd=>cases h
   |D5=>cases h
  |@tup pa vs xs h1 r1=>
   cases ra;obtain⟨gE,rv,p,_⟩:=I.tuple (au sF h1);cases ry with
   |Bw=>cases rb;cases h;exact#[SeqAt.RcAt.tuple_none p Dj,SeqAt.EqAt.tuple_none p Dj]
   |bl b=>cases rb;cases h;exact#[SeqAt.RcAt.tuple_bool b p Dj,SeqAt.EqAt.tuple_bool b p Dj]
   |int b=>obtain⟨t,rfl⟩:=rb;cases h;exact#[SeqAt.RcAt.tuple_int b t p Dj,SeqAt.EqAt.tuple_int b t p Dj]
   |str b=>obtain⟨t,rfl⟩:=rb;cases h;exact#[SeqAt.RcAt.tuple_str b t p Dj,SeqAt.EqAt.tuple_str b t p Dj]
   |@tup pb ws ys h2 r2=>
    cases rb;have h0:=h;obtain⟨CQ,Fq,p2,_⟩:=I.tuple (au sF h2);replace h:Option.map (λbs:List Bool=>bs.all id && xs.length==ys.length) (List.mapM (λp:PV×PV=>Cc d p.1 p.2) (xs.zip ys))=some k:=h;rw[aax]at h;obtain⟨bs,hb,e⟩:=h;obtain⟨HZ,Lw⟩:=be hb;have l1:gE.length=xs.length:=by rw[<- rv.length,r1.len]
    have l2:CQ.length=ys.length:=by rw[<- Fq.length,r2.len]
    have rc:SeqAt.RcAt A s (.ref pa) (.ref pb) k:=by
     have:=SeqAt.RcAt.tuples (e:=λj=>bs.getD j false) p p2 Dj (λj j1 j2=>by
      simp only[aap]at j1 j2;have jx:j<xs.length:=by omega
      have jy:j<ys.length:=by omega
      have hz:(xs.zip ys)[j]?=some (xs[j],ys[j]):=by rw[aa5];exact#[by simp[jx],by simp[jy]]
      obtain⟨b,e1,e2⟩:=Lw j _ hz;obtain⟨v1,q1,q2⟩:=r1.get (aab jx);obtain⟨v2,q3,q4⟩:=r2.get (aab jy);obtain⟨u1,q5,q6⟩:=rv.get q1;obtain⟨u2,q7,q8⟩:=Fq.get q3;have g1:gE.toArray[j]=u1:=by simpa[aab j1]using q5
      have g2:CQ.toArray[j]=u2:=by simpa[aab j2]using q7
      rw[g1,g2];have Lx:bs.getD j false=b:=by simp[aeB,e1]
      rw[Lx];exact(ih (A:=A.in1) (by show A.units+1+d<cLine;omega) q2 q4 q6 q8 e2).2)
     have e3:((abd (min gE.toArray.size CQ.toArray.size)).all (λj=>bs.getD j false) && gE.toArray.size==CQ.toArray.size)=k:=by
      have e4:min gE.toArray.size CQ.toArray.size=bs.length:=by rw[HZ,aeb,aap,aap,l1,l2]
      rw[e4,dH (λj hj=>by simp[aeB,aab hj]),aap,aap,l1,l2];exact e
     rw[e3]at this;exact this
    refine#[rc,?_];by_cases q:pa=pb
    .subst q;have:k=true:=mz I sF (.tup h1 r1) (.tup h2 r2) h0;subst this;exact afo _
    .exact SeqAt.EqAt.of_refs q rc
   |lst h2 r2=>cases rb;cases h;obtain⟨CQ,_,p2,_⟩:=I.list (.inl (.inl (sF _ _ h2)));exact#[SeqAt.RcAt.tuple_list p p2.isList Dj,SeqAt.EqAt.tuple_list p p2.isList Dj]
   |Cd=>cases h
   |D5=>cases h
  |@lst pa vs xs h1 r1=>
   cases ra;obtain⟨gE,rv,p,_⟩:=I.list (.inl (.inl (sF _ _ h1)));cases ry with
   |Bw=>cases rb;cases h;exact#[SeqAt.RcAt.list_none p.isList Dj,SeqAt.EqAt.list_none p.isList Dj]
   |bl b=>cases rb;cases h;exact#[SeqAt.RcAt.list_bool b p.isList Dj,SeqAt.EqAt.list_bool b p.isList Dj]
   |int b=>obtain⟨t,rfl⟩:=rb;cases h;exact#[SeqAt.RcAt.list_int b t p.isList Dj,SeqAt.EqAt.list_int b t p.isList Dj]
   |str b=>obtain⟨t,rfl⟩:=rb;cases h;exact#[SeqAt.RcAt.list_str b t p.isList Dj,SeqAt.EqAt.list_str b t p.isList Dj]
   |tup h2 r2=>cases rb;cases h;obtain⟨CQ,_,p2,_⟩:=I.tuple (au sF h2);exact#[SeqAt.RcAt.list_tuple p.isList p2 Dj,SeqAt.EqAt.list_tuple p.isList p2 Dj]
   |@lst pb ws ys h2 r2=>
    cases rb;have h0:=h;obtain⟨CQ,Fq,p2,_⟩:=I.list (.inl (.inl (sF _ _ h2)));have l1:gE.length=xs.length:=by rw[<- rv.length,r1.len]
    have l2:CQ.length=ys.length:=by rw[<- Fq.length,r2.len]
    have rc:SeqAt.RcAt A s (.ref pa) (.ref pb) k:=by
     replace h:(if xs.length=ys.length then Option.map (λbs:List Bool=>bs.all id) (List.mapM (λp:PV×PV=>Cc d p.1 p.2) (xs.zip ys))else some false)=some k:=h;split at h
     .rename_i hl;rw[aax]at h;obtain⟨bs,hb,e⟩:=h;obtain⟨HZ,Lw⟩:=be hb;have:=SeqAt.RcAt.lists (e:=λj=>bs.getD j false) p.isList p2.isList (by rw[aap,aap];omega) Dj (λj j1 j2=>by
       simp only[aap]at j1 j2;have jx:j<xs.length:=by omega
       have jy:j<ys.length:=by omega
       have hz:(xs.zip ys)[j]?=some (xs[j],ys[j]):=by rw[aa5];exact#[by simp[jx],by simp[jy]]
       obtain⟨b,e1,e2⟩:=Lw j _ hz;obtain⟨v1,q1,q2⟩:=r1.get (aab jx);obtain⟨v2,q3,q4⟩:=r2.get (aab jy);obtain⟨u1,q5,q6⟩:=rv.get q1;obtain⟨u2,q7,q8⟩:=Fq.get q3;have g1:gE.toArray[j]=u1:=by simpa[aab j1]using q5
       have g2:CQ.toArray[j]=u2:=by simpa[aab j2]using q7
       rw[g1,g2];have Lx:bs.getD j false=b:=by simp[aeB,e1]
       rw[Lx];exact(ih (A:=A.in1) (by show A.units+1+d<cLine;omega) q2 q4 q6 q8 e2).2)
      have e3:((abd gE.toArray.size).all (λj=>bs.getD j false))=k:=by
       have e4:gE.toArray.size=bs.length:=by rw[HZ,aeb,aap,l1];omega
       rw[e4,dH (λj hj=>by simp[aeB,aab hj])];exact e
      rw[e3]at this;exact this
     .rename_i hl;cases h;exact SeqAt.RcAt.lists_lengths p.isList p2.isList (by simp only[aap];simpa[l1,l2]using hl) Dj
    refine#[rc,?_];by_cases q:pa=pb
    .subst q;have:k=true:=mz I sF (.lst h1 r1) (.lst h2 r2) h0;subst this;exact afo _
    .exact SeqAt.EqAt.of_refs q rc
   |Cd=>cases h
   |D5=>cases h
  |Cd h1 r1=>cases y<;>cases h
  |D5 h1=>cases y<;>cases h
noncomputable def B4(x y:PV):Aaw:=(Cc 60 x y).map .bl
def Vw.D1(h:Vw M F H v x)(s:dO F H)(hx:∀xs,x≠.set xs):∃F',dO F F'/\dO F' H/\Rep M.K F' v x:=by
 rcases h with h|⟨a,rfl,h⟩
 .exact#[F,aj,s,h]
 .cases x<;>try exact h.elim
  .obtain⟨vs,h1,h2⟩:=h;cases e:F a with
   |none=>
    refine#[_,aq e,λb o q=>?_,.lst ah (h2.mono (aq e))];by_cases z:b=a
    .subst z;rw[ah]at q;cases q;exact h1
    .rw[af z]at q;exact s b o q
   |some o=>have:=s a o e;rw[h1]at this;cases this;exact#[F,aj,s,.lst e h2]
  .obtain⟨vs,h1,h2⟩:=h;cases e:F a with
   |none=>
    refine#[_,aq e,λb o q=>?_,.Cd ah (h2.mono (aq e))];by_cases z:b=a
    .subst z;rw[ah]at q;cases q;exact h1
    .rw[af z]at q;exact s b o q
   |some o=>have:=s a o e;rw[h1]at this;cases this;exact#[F,aj,s,.Cd e h2]
  .exact absurd rfl (hx _)
def QN(K:aaf):R2:=λv u H Q=>∃F x y k,dO F H/\Rep K F v x/\Rep K F u y/\Cc 60 x y=some k/\Q (.bl k) H
def tf(hu:X.A.units+60<cLine):Co X (aa4 .Eq) (QN X.K):=by intro pins s U H x y v u Q I rx ry h;obtain⟨F,p,q,k,sF,r1,r2,e,hq⟩:=h;exact(OA I sF hu r1 r2 rx ry e).1 X.prog X.w X.xe _ #[.bl k,H,I,rfl,hq]
def sT:Ff ob X (QN X.K) B4:=by
 refine bn (P:=λ_ _ _ _=>True) λF H v u x y z sF rx ry hz=>?_;unfold B4 at hz;rw[aax]at hz;obtain⟨k,hk,rfl⟩:=hz;have nx:∀xs,x≠.set xs:=λxs e=>by subst e;cases y<;>cases hk
 have ny:∀xs,y≠.set xs:=λxs e=>by subst e;cases x<;>cases hk
 obtain⟨F1,s1,s2,r1⟩:=rx.D1 sF nx;have X1:Vw (md ob X) F1 H u y:=by
  rcases ry with r|⟨a,e,r⟩
  .exact .inl (r.mono s1)
  .exact .inr #[a,e,r.mono s1 rfl]
 obtain⟨F2,s3,s4,r2⟩:=X1.D1 s2 ny;exact#[_,λ_=>.bl _,λQ q=>#[F2,x,y,k,s4,r1.mono s3,r2,hk,q]]
noncomputable def toV:PV->Option V
 |.Bw=>some .Bw
 |.bl b=>some (.bl b)
 |.int i=>some (.int i)
 |.str s=>some (.str s)
 |_=>none
def sg{w:V}(h:Vw M F H v x)(e:toV x=some w):v=w:=by
 cases x<;>cases e
 .exact h.Bw
 .exact h.bl
 .exact h.int
 .exact h.str
noncomputable def ER:PV->PV->Option PV
 |.lst xs,.lst []=>some (.bl (!xs.isEmpty))
 |x,y=>(toV x).bind λv=>(toV y).bind λu=>if LG v u=true then some (.bl (!decide (v=u)))else none
def zh:Ff ob X (λx y H Q=>Ua x y H Q\/Io X.K x y H Q) ER:=by
 refine bn (P:=λ_ _ _ _=>True) λF H v u x y z sF rx ry hz=>?_;unfold ER at hz;split at hz
 .cases hz;rename_i xs;obtain⟨p,vs,rfl,h1,h2⟩:=rx.lst sF;obtain⟨q,ws,rfl,g1,g2⟩:=ry.lst sF;cases g2;refine#[_,λ_=>.bl _,λQ hq=>.inr #[p,q,vs,rfl,rfl,.inl (.inl h1),.inl (.inl g1),?_]];have:vs.isEmpty=xs.isEmpty:=by have:=h2.len;cases vs<;>cases xs<;>simp at this ⊢
  rw[this];exact hq
 .cases e1:toV x with
  |none=>rw[e1]at hz;cases hz
  |some v'=>
   cases e2:toV y with
   |none=>rw[e1,e2]at hz;cases hz
   |some u'=>
    rw[e1,e2]at hz;have hz:(if LG v' u'=true then some (PV.bl (!decide (v'=u')))else none)=some z:=hz;split at hz
    .rename_i hs;cases hz;rw[sg rx e1,sg ry e2];exact#[_,λ_=>.bl _,λQ q=>.inl #[hs,q]]
    .cases hz
def A3(hu:X.A.units<cLine):Co X (aa4 .NotEq) (λx y H Q=>Ua x y H Q\/Io X.K x y H Q):=Co.or A4 (nZ hu)
def Inv.SQ(I:Inv X pins U H s){a:Addr}{o:Obj}(h:X.K.lookup a=some o):H a=none:=(I.bs a o (I.mod.kin a o h)).2
def oI(I:Inv X pins U H s){a:Addr}{eQ:List (Key×V)}{vs:Aai}(h1:H a=some (.dK eQ))(h2:C3 X.K H a vs):False:=by obtain⟨_,_,_,_,o,_,_,e,ex,_⟩:=I.Bv a _ h1;obtain⟨_,_,⟨o',e',c',_⟩,_⟩:=I.tuple h2;rw[e]at e';cases e';rw[ex.1]at c';exact absurd c' #[2]
def i8:∀{ns ms:Aas},ns.map V.int=ms.map V.int->ns=ms
 |[],[],_=>rfl
 |n::ns,m::ms,h=>by injection h with h1 h2;injection h1 with h1;rw[h1,i8 h2]
 |[],_::_,h=>by simp_all
 |_::_,[],h=>#[1]
variable{y:PV}
def Rep.inj(I:Inv X pins U H s)(sF:dO F H)(h:Rep X.K F v x)(h':Rep X.K F v y):x=y:=by
 refine Rep.rec (motive_2:=λvs xs _=>∀ys,rW X.K F vs ys->xs=ys) (motive_3:=λvs xs _=>∀ys,Bo X.K F vs ys->xs=ys)
  ?_ ?_ ?_ ?_ ?_ ?_ ?_ ?_ ?_ ?_ ?_ ?_ h y h'
 .intro y h;cases h;rfl
 .intro b y h;cases h;rfl
 .intro b y h;cases h;rfl
 .intro b y h;cases h;rfl
 .intro a vs xs h1 _ ih y h;cases h with
  |tup h2 r2=>have:=I.D0 (au sF h1) (au sF h2);subst this;rw[ih _ r2]
  |lst h2 r2=>exact(cb I (.inl (.inl (sF _ _ h2))) (au sF h1)).elim
  |Cd h2 r2=>exact(oI I (sF _ _ h2) (au sF h1)).elim
  |D5 h2=>exact(cb I (aZ sF h2.sq) (au sF h1)).elim
 .intro a vs xs h1 _ ih y h;cases h with
  |tup h2 r2=>exact(cb I (.inl (.inl (sF _ _ h1))) (au sF h2)).elim
  |lst h2 r2=>rw[h1]at h2;cases h2;rw[ih _ r2]
  |Cd h2 r2=>rw[h1]at h2;cases h2
  |D5 h2=>
   rcases h2 with ⟨o,h2⟩|⟨o,_,_,h2,_⟩
   .rw[h1]at h2;cases h2
   .have:=sF _ _ h1;rw[Inv.SQ I h2]at this;cases this
 .intro a vs xs h1 _ ih y h;cases h with
  |tup h2 r2=>exact(oI I (sF _ _ h1) (au sF h2)).elim
  |lst h2 r2=>rw[h1]at h2;cases h2
  |Cd h2 r2=>rw[h1]at h2;cases h2;rw[ih _ r2]
  |D5 h2=>
   rcases h2 with ⟨o,h2⟩|⟨o,_,_,h2,_⟩
   .rw[h1]at h2;cases h2
   .have:=sF _ _ h1;rw[Inv.SQ I h2]at this;cases this
 .intro a ns h1 y h;cases h with
  |tup h2 r2=>exact(cb I (aZ sF h1.sq) (au sF h2)).elim
  |lst h2 r2=>
   rcases h1 with ⟨o,h1⟩|⟨o,_,_,h1,_⟩
   .rw[h1]at h2;cases h2
   .have:=sF _ _ h2;rw[Inv.SQ I h1]at this;cases this
  |Cd h2 r2=>
   rcases h1 with ⟨o,h1⟩|⟨o,_,_,h1,_⟩
   .rw[h1]at h2;cases h2
   .have:=sF _ _ h2;rw[Inv.SQ I h1]at this;cases this
  |D5 h2=>rw[i8 (I.EA (aZ sF h1.sq) (aZ sF h2.sq))]
 .intro ys h;cases h;rfl
 .intro v x vs xs _ _ Rn Rm ys h;cases h with
  |cons h r=>rw[Rn _ h,Rm _ r]
 .intro ys h;cases h;rfl
 .intro k v x vs xs _ _ Rn Rm ys h;cases h with
  |cons h r=>rw[Rn _ h,Rm _ r]
variable{A:Around}
theorem ip(I:Inv X pins U H s)(sF:dO F H){d:Nat}{vs:Aai}{us:Aae}{xs:Aad}{u:Value}{ks:List Bool}(hu:A.units+d<cLine)(rv:AS vs us)(r:rW X.K F vs xs)(rx:Rep X.K F v x)(ru:RelV v u)
  (hk:xs.mapM (λy=>Cc d y x)=some ks):∃e:Value->Bool,(∀y,y∈us->SeqAt.EqAt A s y u (e y))/\us.any e=ks.any id/\us.countP e=ks.countP id/\(∀(i:Nat) (w:Value),us[i]?=some w->ks[i]?=some (e w)):=by
 obtain⟨hl,hb⟩:=be hk;have l1:=rv.length;have l2:=r.len;have key:∀(i:Nat) (w:Value),us[i]?=some w->∃b y z,xs[i]?=some y/\vs[i]?=some z/\RelV z w/\Rep X.K F z y/\Cc d y x=some b/\ks[i]?=some b:=λi w hw=>by obtain⟨z,e1,e2⟩:=AS.KG rv hw;obtain⟨y,e3,e4⟩:=r.KG e1;obtain⟨b,e5,e6⟩:=hb i y e3;exact#[b,y,z,e3,e1,e2,e4,e6,e5]
 let e  := λw=>(us.zip ks).any λp=>p.1==w && p.2;have four:∀(i:Nat) (w:Value),us[i]?=some w->ks[i]?=some (e w):=by
  intro i w hw;obtain⟨b,y,z,e1,e2,e3,e4,e5,e6⟩:=key i w hw;rw[e6];congr 1;rw[aa0,List.any_eq_true];constructor
  .intro Lx;refine#[(w,b),aaB (by rw[aa5];exact#[hw,e6]),#[1]]
  .rintro⟨⟨w',b'⟩,hm,hp⟩;simp only[aaS]at hp;obtain⟨j,hj,ej⟩:=List.mem_iff_getElem.mp hm;have hz:=aab hj;rw[ej,aa5]at hz;obtain⟨WH,Yt⟩:=hz;have Yx  := eq_of_beq hp.1;rw[Yx]at WH;obtain⟨b2,y2,z2,f1,f2,f3,f4,f5,f6⟩:=key j w WH;have  := e3.inj f3;subst this;have:=Rep.inj I sF e4 f4;subst this;rw[e5]at f5;cases f5;rw[Yt]at f6;cases f6;exact hp.2
 have RA:ks=us.map e:=by
  refine ab2 λi=>?_;rw[aal];cases q:us[i]? with
  |none=>have  := List.getElem?_eq_none_iff.mp q;rw[aao #[]];rfl
  |some w=>rw[four i w q];rfl
 refine#[e,λy hy=>?_,?_,?_,four]
 .obtain⟨i,hi,rfl⟩:=List.mem_iff_getElem.mp hy;have hw:=aab hi;obtain⟨b,y,z,e1,e2,e3,e4,e5,e6⟩:=key i _ hw;have:=four i _ hw;rw[e6]at this;rw[<- aar this];exact(OA I sF hu e4 rx e3 ru e5).2
 .rw[RA,List.any_map];rfl
 .rw[RA,List.countP_map];rfl
noncomputable def JS(x:PV):PV->Option Bool
 |.tup ys=>(ys.mapM λy=>Cc 60 y x).map λks=>ks.any id
 |.lst ys=>(ys.mapM λy=>Cc 60 y x).map λks=>ks.any id
 |.Cd eQ=>(FN x).map λk=>(Dc eQ k).isSome
 |.str s=>match x with
  |.str t=>some (!(ac3 s t 0 s.length 1).isEmpty)
  |_=>none
 |.set S=>match x with
  |.str t=>some (decide (t∈S))
  |_=>none
 |_=>none
noncomputable def Kl:PV->Bool
 |.set _=>false
 |_=>true
def n5(h:Kl x=true):∀xs,x≠.set xs:=λxs e=>by subst e;cases h
noncomputable def CK(x y:PV):Aaw:=if Kl x=true then (JS x y).map .bl else none
noncomputable def CL(x y:PV):Aaw:=if Kl x=true then (JS x y).map λb=>.bl (!b)else none
def Jt(P:aaD)(w:World)(K:aaf)(neg:Bool):R2:=λv u H Q=>∃(F:Hp) (x:PV) (b:Bool),dO F H/\Q (.bl (if neg then !b else b)) H /\
 ((∃p vs ys ks,u=.ref p/\(CN K H p vs\/C3 K H p vs)/\rW K F vs ys/\Rep K F v x/\ys.mapM (λy=>Cc 60 y x)=some ks/\b=ks.any id) \/
  (∃p o,u=.ref p/\Hm H p v o/\b=o.isSome)\/(∃i j,v=.str i/\u=.str j/\b=!(ac3 j i 0 j.length 1).isEmpty) \/
  (∃z a S n,v=.str z/\u=.ref a/\H a=some (Gp P w a S n)/\b=S z))
theorem sZ(hu:X.A.units+62<cLine):Co X (aa4 .In) (Jt X.prog X.w X.K false):=by
 intro pins s U H v u v' u' Q I rv ru h;obtain⟨F,x,b,sF,q,h⟩:=h;rcases h with ⟨p,vs,ys,ks,rfl,hs,hr,hx,hk,rfl⟩|⟨p,o,rfl,hd,rfl⟩|⟨i,j,rfl,rfl,rfl⟩|⟨z,a,S,n,rfl,rfl,ha,rfl⟩
 .cases ru;rcases hs with hs|hs
  .obtain⟨gE,r,pl,_⟩:=I.list hs;obtain⟨e,e1,e2,_⟩:=ip I sF (A:=X.A.in1) (by show X.A.units+1+60<cLine;omega) r hr hx rv hk;refine SeqAt.in_listAt e pl.isList (λy hy=>e1 y #[1]) #[.bl _,H,I,rfl,?_];rw[show gE.toArray.any e=gE.any e by simp,e2];exact q
  .obtain⟨gE,r,pl,_⟩:=I.tuple hs;obtain⟨e,e1,e2,_⟩:=ip I sF (A:=X.A.in1) (by show X.A.units+1+60<cLine;omega) r hr hx rv hk;refine SeqAt.in_tupleAt e pl (λy hy=>e1 y #[1]) #[.bl _,H,I,rfl,?_];rw[show gE.toArray.any e=gE.any e by simp,e2];exact q
 .cases ru;exact Bn #[] I hd rv λs3 I3=>#[.bl _,H,I3,rfl,q]
 .exact sY pins s U H _ _ _ _ Q I rv ru #[i,j,rfl,rfl,q]
 .cases ru;obtain⟨t,rfl⟩:=rv;obtain⟨x,_,_⟩:=I.Bv a _ ha;exact wpAny_inSet_of (aef _ _ _ _) rfl x #[.bl (S z),H,I.tok _,rfl,q]
theorem xw(hu:X.A.units+62<cLine):Co X (aa4 .NotIn) (Jt X.prog X.w X.K true):=by
 intro pins s U H v u v' u' Q I rv ru h;obtain⟨F,x,b,sF,q,h⟩:=h;rcases h with ⟨p,vs,ys,ks,rfl,hs,hr,hx,hk,rfl⟩|⟨p,o,rfl,hd,rfl⟩|⟨i,j,rfl,rfl,rfl⟩|⟨z,a,S,n,rfl,rfl,ha,rfl⟩
 .cases ru;rcases hs with hs|hs
  .obtain⟨gE,r,pl,_⟩:=I.list hs;obtain⟨e,e1,e2,_⟩:=ip I sF (A:=X.A.in1) (by show X.A.units+1+60<cLine;omega) r hr hx rv hk;refine SeqAt.notIn_listAt e pl.isList (λy hy=>e1 y #[1]) #[.bl _,H,I,rfl,?_];rw[show gE.toArray.any e=gE.any e by simp,e2];exact q
  .obtain⟨gE,r,pl,_⟩:=I.tuple hs;obtain⟨e,e1,e2,_⟩:=ip I sF (A:=X.A.in1) (by show X.A.units+1+60<cLine;omega) r hr hx rv hk;refine SeqAt.notIn_tupleAt e pl (λy hy=>e1 y #[1]) #[.bl _,H,I,rfl,?_];rw[show gE.toArray.any e=gE.any e by simp,e2];exact q
 .cases ru;exact yD #[] I hd rv λs3 I3=>#[.bl _,H,I3,rfl,q]
 .exact nY pins s U H _ _ _ _ Q I rv ru #[i,j,rfl,rfl,q]
 .exact sV pins s U H _ _ _ _ Q I rv ru #[z,a,S,n,rfl,rfl,ha,q]
def tW{u:V}{b neg:Bool}(sF:dO F H)(nx:∀xs,x≠.set xs)(rx:Vw (md ob X) F H v x)(ry:Vw (md ob X) F H u y)(hz:JS x y=some b)(Q:VK)(q:Q (.bl (if neg then !b else b)) H):Jt X.prog X.w X.K neg v u H Q:=by
 unfold JS at hz;have seq:∀{p:Addr} {vs:Aai} {ys:Aad},u=.ref p->(CN X.K H p vs\/C3 X.K H p vs)->rW X.K F vs ys->((ys.mapM λy=>Cc 60 y x).map λks=>ks.any id)=some b->Jt X.prog X.w X.K neg v u H Q:=λ{p vs ys} hp hs hr hz=>by rw[aax]at hz;obtain⟨ks,hk,e⟩:=hz;obtain⟨F1,s1,s2,r1⟩:=rx.D1 sF nx;exact#[F1,x,b,s2,q,.inl #[p,vs,ys,ks,hp,hs,hr.mono s1,r1,hk,e.symm]]
 split at hz
 .obtain⟨p,vs,e,h1,h2⟩:=ry.tup sF;exact seq e (.inr h1) h2 hz
 .obtain⟨p,vs,e,h1,h2⟩:=ry.lst sF;exact seq e (.inl (.inl (.inl h1))) h2 hz
 .obtain⟨p,vs,e,h1,h2⟩:=ry.Cd sF;rw[aax]at hz;obtain⟨k,hk,rfl⟩:=hz;have hv:=Mn rx hk;subst hv;refine#[F,.Bw,_,sF,q,.inr (.inl #[p,Cz vs k,e,SU h1,?_])];rcases h2.val (k:=k)with ⟨e1,e2⟩|⟨w,w',e1,e2,_⟩
  .rw[e1,e2];rfl
  .rw[e1,e2];rfl
 .split at hz
  .cases hz;exact#[F,.Bw,_,sF,q,.inr (.inr (.inl #[_,_,rx.str,ry.str,rfl]))]
  .cases hz
 .split at hz
  .cases hz;rcases ry with r|⟨p,rfl,r⟩
   .cases r
   .exact#[F,.Bw,_,sF,q,.inr (.inr (.inr #[_,p,_,_,rx.str,rfl,r,rfl]))]
  .cases hz
 .cases hz
def sQ:Ff ob X (Jt X.prog X.w X.K false) CK:=by
 refine bn (P:=λ_ _ _ _=>True) λF H v u x y z sF rx ry hz=>?_;unfold CK at hz;split at hz;case isFalse=>cases hz
 rename_i nx;rw[aax]at hz;obtain⟨b,hb,rfl⟩:=hz;exact#[_,λ_=>.bl _,λQ q=>tW sF (n5 nx) rx ry hb Q q]
def xq:Ff ob X (Jt X.prog X.w X.K true) CL:=by
 refine bn (P:=λ_ _ _ _=>True) λF H v u x y z sF rx ry hz=>?_;unfold CL at hz;split at hz;case isFalse=>cases hz
 rename_i nx;rw[aax]at hz;obtain⟨b,hb,rfl⟩:=hz;exact#[_,λ_=>.bl _,λQ q=>tW sF (n5 nx) rx ry hb Q q]
inductive Na (M:Md) (F H:Hp):Aai->List PV->Prop where
 |nil:Na M F H [] []
 |cons {v:V} {x:PV} {vs:Aai} {xs:Aad}:Vw M F H v x->Na M F H vs xs->Na M F H (v::vs) (x::xs)
def Na.one{vs:Aai}(h:Na M F H vs [x]):∃v,vs=[v]/\Vw M F H v x:=by
 cases h with
 |cons a r=>cases r;exact#[_,rfl,a]
structure JN(ob:Ct)(X:Cx)(es:Aak)(f:WA):Prop where
 ex:∃t:TA,PA X es t/\∀(Z:Zn) (F:Hp) (U:L2.St) (H:Hp) (env:En) (P:Aad->En->Prop) (Q:Aai->Hp->Prop),tO (md ob X) Z F U H env->f env P ->
  (∀xs aT vs F' H',P xs aT->dO F F'->tO (md ob X) Z F' U H' aT->Na (md ob X) F' H' vs xs->Q vs H')->t U H Q
def a1(a:WE):WA:=λenv P=>a env λx e=>P [x] e
def CF(o:Aad->Option PV)(fa:WA):WE:=λenv P=>fa env λxs e=>opt (o xs) λz=>P z e
variable{es:Aak}{fa:WA}{x:Str}{MJ T:String}{r:Aai->Hp->VK->Prop}{o:Aad->Option PV}
def Bi(h:Gh ob X e f)(hs:autoParam (aai [e] X.env=(false,eval e X.env)::aai [] X.env) oR):JN ob X [e] (a1 f):=by obtain⟨t,ht,k⟩:=h.ex;exact#[_,aD ht aN hs,λZ F U H env P Q K hf kk=>k Z F U H env _ _ K hf λx e1 v F1 H1 p s1 K1 r1=>kk [x] e1 [v] F1 H1 p s1 K1 (.cons r1 .nil)]
def Fg(ob:Ct)(X:Cx)(r:Aai->Hp->VK->Prop)(o:Aad->Option PV):Prop :=
 ∀(Z:Zn) (F:Hp) (U:L2.St) (H:Hp) (env:En) (vs:Aai) (xs:Aad) (z:PV) (Q:VK),tO (md ob X) Z F U H env->Na (md ob X) F H vs xs->o xs=some z ->
  (∀v' F' H',dO F F'->tO (md ob X) Z F' U H' env->Rep X.K F' v' z->Q v' H')->r vs H Q
def su{t:TA}(hq:Fg ob X r o)(k:∀(Z:Zn) (F:Hp) (U:L2.St) (H:Hp) (env:En) (P:Aad->En->Prop) (Q:Aai->Hp->Prop),tO (md ob X) Z F U H env->fa env P->(∀xs aT vs F' H',P xs aT->dO F F'->tO (md ob X) Z F' U H' aT->Na (md ob X) F' H' vs xs->Q vs H')->t U H Q):
  ∀(Z:Zn) (F:Hp) (U:L2.St) (H:Hp) (env:En) (P:Aal) (Q:VK),tO (md ob X) Z F U H env->CF o fa env P->(∀x aT v F' H',P x aT->dO F F'->tO (md ob X) Z F' U H' aT->Rep X.K F' v x->Q v H')->SE r t U H Q:=by
 refine λZ F U H env P Q K hf kk=>k Z F U H env _ _ K hf λxs e1 vs F1 H1 p s1 K1 r1=>?_;obtain⟨z,hz,p⟩:=p;exact hq Z F1 U H1 e1 vs xs z Q K1 r1 hz λv' F' H' s2 K2 r2=>kk z e1 v' F' H' p (ag s1 s2) K2 r2
def rH(hc:BM X (.builtin MJ) r)(hq:Fg ob X r o)(hg:Gl X x)(hm:X.mg x=none)(hv:acn x=some (.builtin MJ))(ha:JN ob X (e::es) fa)(hn:autoParam (x ≠ "__name__") on)(D7:autoParam ((x==("__debug__" : Str))=false) on)
  (he:autoParam (aai (e::es) X.env=(false,eval e X.env)::aai es X.env) oR) (CM:autoParam ((backTo pos (aai es X.env)).any (·.1)=false) oR):BH ob X (.Call (.Name x p) (e::es) [] pos) (CF o fa):=by
 obtain⟨t,ht,k⟩:=ha.ex;exact#[_,bB hc hg hm hv ht hn D7 he CM,su hq k]
def wE(hc:BM X (.type T) r)(hq:Fg ob X r o)(hg:Gl X x)(hm:X.mg x=none)(hv:acn x=some (.type T))(ha:JN ob X (e::es) fa)(hn:autoParam (x ≠ "__name__") on)(D7:autoParam ((x==("__debug__" : Str))=false) on)
  (he:autoParam (aai (e::es) X.env=(false,eval e X.env)::aai es X.env) oR) (CM:autoParam ((backTo pos (aai es X.env)).any (·.1)=false) oR):BH ob X (.Call (.Name x p) (e::es) [] pos) (CF o fa):=by
 obtain⟨t,ht,k⟩:=ha.ex;exact#[_,dU hc hg hm hv ht hn D7 he CM,su hq k]
variable{ns:Aas}
def Vw.D5(h:Vw M F H v (.D5 ns))(s:dO F H):∃a,v=.ref a/\CN M.K H a (ns.map V.int):=by
 rcases h with h|⟨a,rfl,h⟩
 .cases h with
  |D5 h=>exact#[_,rfl,aZ s h.sq]
 .exact h.elim
noncomputable def B7:Aad->Option PV
 |[.lst xs]=>some (.int xs.length)
 |[.tup xs]=>some (.int xs.length)
 |[.Cd xs]=>some (.int xs.length)
 |[.str s]=>if s.length<=100000 then some (.int s.length)else none
 |[.D5 ns]=>some (.int ns.length)
 |_=>none
def QH(K:aaf):Aai->Hp->VK->Prop:=λxs H Q=>(∃p ys,xs=[.ref p]/\(CN K H p ys\/C3 K H p ys)/\Q (.int ys.length) H)\/((∃z,xs=[.str z]/\z.length<=sizeLine/\Q (.int z.length) H)\/∃a eQ,xs=[V.ref a]/\H a=some (.dK eQ)/\Q (.int eQ.length) H)
def AK:BM X (.builtin "len") (QH X.K):=BM.or hU (BM.or oP ux)
theorem AN:Fg ob X (QH X.K) B7:=by
 intro Z F U H env vs xs z Q K rv hz k;unfold B7 at hz;split at hz
 .cases hz;obtain⟨v,rfl,r⟩:=rv.one;obtain⟨p,vs,rfl,h1,h2⟩:=r.lst K.sF;exact .inl #[p,vs,rfl,.inl (.inl (.inl h1)),k _ F H aj K (by rw[h2.len];exact .int _)]
 .cases hz;obtain⟨v,rfl,r⟩:=rv.one;obtain⟨p,vs,rfl,h1,h2⟩:=r.tup K.sF;exact .inl #[p,vs,rfl,.inr h1,k _ F H aj K (by rw[h2.len];exact .int _)]
 .cases hz;obtain⟨v,rfl,r⟩:=rv.one;obtain⟨p,vs,rfl,h1,h2⟩:=r.Cd K.sF;exact .inr (.inr #[p,vs,rfl,h1,k _ F H aj K (by rw[h2.len];exact .int _)])
 .split at hz
  .cases hz;obtain⟨v,rfl,r⟩:=rv.one;rw[r.str];exact .inr (.inl #[_,rfl,by rw[aaJ];omega,k _ F H aj K (.int _)])
  .cases hz
 .cases hz;obtain⟨v,rfl,r⟩:=rv.one;obtain⟨p,rfl,h1⟩:=r.D5 K.sF;exact .inl #[p,_,rfl,.inl h1,k _ F H aj K (by rw[aac];exact .int _)]
 .cases hz
noncomputable def aF:Aad->Option PV
 |[.lst xs]=>some (.tup xs)
 |[.tup xs]=>some (.tup xs)
 |_=>none
def Kg(K:aaf):Aai->Hp->VK->Prop:=λxs H Q=>∃p ys,xs=[.ref p]/\((CN K H p ys/\∀l,H l=none->Q (.ref l) (upd H l (.tup ys)))\/(C3 K H p ys/\Q (.ref p) H))
def wb:BM X (.type "tuple") (Kg X.K):=mV
def wc:Fg ob X (Kg X.K) aF:=by
 intro Z F U H env vs xs z Q K rv hz k;unfold aF at hz;split at hz
 .cases hz;obtain⟨v,rfl,r⟩:=rv.one;obtain⟨p,vs,rfl,h1,h2⟩:=r.lst K.sF;refine#[p,vs,rfl,.inl #[.inl (.inl h1),λl hl=>?_]];have hF  := dO.none_of K.sF hl;exact k _ _ _ (aq hF) (K.lay hl) (.tup (.inl (.inl ah)) (h2.mono (aq hF)))
 .cases hz;obtain⟨v,rfl,r⟩:=rv.one;have r':=r.Ic;obtain⟨p,vs,rfl,h1,h2⟩:=r.tup K.sF;exact#[p,vs,rfl,.inr #[h1,k _ F H aj K r']]
 .cases hz
def gR:∀(ns:Aas),rW K F (ns.map V.int) (ns.map PV.int)
 |[]=>.nil
 |n::ns=>.cons (.int n) (gR ns)
noncomputable def E9:PV->Option Int
 |.int i=>some i
 |_=>none
noncomputable def Fy:PV->Option Str
 |.str i=>some i
 |_=>none
def bj{g:PV->Option α}{w:α->V}(hg:∀x a,g x=some a->∀v,Rep K F v x->v=w a):∀{xs:Aad} {as:List α} {vs:Aai},xs.mapM g=some as->rW K F vs xs->vs=as.map w
 |[],as,vs,h,r=>by simp at h;subst h;cases r;rfl
 |x::xs,as,vs,h,r=>by
  rw[abB]at h;cases ea:g x with
  |none=>rw[ea]at h;cases h
  |some a=>
   rw[ea]at h;cases el:xs.mapM g with
   |none=>rw[el]at h;cases h
   |some bs=>
    rw[el]at h;cases h;cases r with
    |cons r1 r2=>rw[aau,hg x a ea _ r1,bj hg el r2]
noncomputable def IZ:Aad->Option PV
 |[.lst xs]=>(xs.mapM E9).map λns=>.int ns.sum
 |_=>none
noncomputable def CG:Aad->Option PV
 |[.lst xs]=>(xs.mapM GB).map λbs=>.bl (bs.all id)
 |_=>none
def xU(x:PV)(a:Int)(h:E9 x=some a)(v:V)(r:Rep K F v x):v=.int a:=by cases x<;>cases h;cases r;rfl
def AR(x:PV)(a:Bool)(h:GB x=some a)(v:V)(r:Rep K F v x):v=.bl a:=by cases x<;>cases h;cases r;rfl
def cT(x:PV)(a:Str)(h:Fy x=some a)(v:V)(r:Rep K F v x):v=.str a:=by cases x<;>cases h;cases r;rfl
def AM:Fg ob X (λxs H Q=>∃(p:Addr) (ns:Aas),xs=[.ref p]/\CN X.K H p (ns.map V.int)/\Q (.int ns.sum) H) IZ:=by
 intro Z F U H env vs xs z Q K rv hz k;unfold IZ at hz;split at hz
 .rw[aax]at hz;obtain⟨ns,hn,rfl⟩:=hz;obtain⟨v,rfl,r⟩:=rv.one;obtain⟨p,vs,rfl,h1,h2⟩:=r.lst K.sF;have:=bj xU hn h2;subst this;exact#[p,ns,rfl,.inl (.inl h1),k _ F H aj K (.int _)]
 .cases hz
def AO:Fg ob X (λxs H Q=>∃(p:Addr) (bs:List Bool),xs=[.ref p]/\CN X.K H p (bs.map V.bl)/\Q (.bl (bs.all id)) H) CG:=by
 intro Z F U H env vs xs z Q K rv hz k;unfold CG at hz;split at hz
 .rw[aax]at hz;obtain⟨ns,hn,rfl⟩:=hz;obtain⟨v,rfl,r⟩:=rv.one;obtain⟨p,vs,rfl,h1,h2⟩:=r.lst K.sF;have:=bj AR hn h2;subst this;exact#[p,ns,rfl,.inl (.inl h1),k _ F H aj K (.bl _)]
 .cases hz
abbrev WO:=En->(Option Int->En->Prop)->Prop
structure Pn(ob:Ct)(X:Cx)(e:Option Expr)(f:WO):Prop where
 ex:∃t:TO,PO X e t/\∀(Z:Zn) (F:Hp) (U:L2.St) (H:Hp) (env:En) (P:Option Int->En->Prop) (Q:Option Int->Hp->Prop),tO (md ob X) Z F U H env->f env P ->
  (∀i aT F' H',P i aT->dO F F'->tO (md ob X) Z F' U H' aT->Q i H')->t U H Q
def FI:WO:=λenv P=>P none env
def FH(a:WE):WO:=λenv P=>a env λx e=>opt (E9 x) λi=>P (some i) e
def yr:Pn ob X none FI:=#[_,pY,λZ F U H env P Q K hf k=>k none env F H hf aj K]
def yq(h:Gh ob X e f):Pn ob X (some e) (FH f):=by obtain⟨t,ht,k⟩:=h.ex;refine#[_,pX ht,λZ F U H env P Q K hf kk=>k Z F U H env _ _ K hf λx e1 v F1 H1 p s1 K1 r1=>?_];obtain⟨z,hz,p⟩:=p;cases x<;>cases hz;rw[r1.int];exact#[_,rfl,kk _ e1 F1 H1 p s1 K1]
noncomputable def EC(xs:List α)(lo hi:Option Int):List α:=(xs.drop (HT.Cv xs.length 0 lo)).take (HT.Cv xs.length xs.length hi - HT.Cv xs.length 0 lo)
noncomputable def Nz:PV->Option Int->Option Int->Option PV
 |.lst xs,lo,hi=>some (.lst (EC xs lo hi))
 |.tup xs,lo,hi=>some (.tup (EC xs lo hi))
 |.D5 ns,lo,hi=>some (.lst ((EC ns lo hi).map .int))
 |_,_,_=>none
def R1(a:WE)(lo hi:WO):WE:=λenv P=>a env λx e1=>lo e1 λl e2=>hi e2 λu e3=>opt (Nz x l u) λz=>P z e3
def oJ{vs:Aai}{xs:Aad}{lo hi:Option Int}(r:rW K F vs xs):rW K F (FY vs lo hi) (EC xs lo hi):=by unfold FY EC;rw[r.len];exact(r.drop _).take _
def yF{lo hi:Option Int}:FY (ns.map V.int) lo hi=(EC ns lo hi).map V.int:=by unfold FY EC;rw[aac,List.map_take,List.map_drop]
def Bd{l u:Option Expr}{lo hi:WO}{p2:Pos}(ha:BH ob X a f)(hl:Pn ob X l lo)(hu:Pn ob X u hi):BH ob X (.Subscript a (.Slice l u none p2) pos) (R1 f lo hi):=by
 obtain⟨t,ht,k⟩:=ha.ex;obtain⟨t1,Kv,k1⟩:=hl.ex;obtain⟨t2,LR,k2⟩:=hu.ex;refine#[_,jt (LD.or pO wU) ht Kv LR,λZ F U H env P Q K hf kk=>k Z F U H env _ _ K hf λx e1 v F1 H1 p s1 K1 r1=>?_];refine k1 Z F1 U H1 e1 _ _ K1 p λi e2 F2 H2 p2 s2 K2=>k2 Z F2 U H2 e2 _ _ K2 p2 λj e3 F3 H3 p3 s3 K3=>?_;obtain⟨z,hz,p3⟩:=p3;have r3:=(r1.mono s2).mono s3;have s4:=ag s1 (ag s2 s3);have Ub:Vw (md ob X) F3 H3 v x:=.inl r3;cases x<;>simp only[Nz]at hz<;>cases hz
 .obtain⟨q,vs,rfl,h1,h2⟩:=Ub.tup K3.sF;refine .inr #[q,vs,rfl,h1,λhw=>kk _ e3 _ F3 H3 p3 s4 K3 ?_,λl hl=>?_]
  .have:EC ‹_› i j=‹List PV›:=by unfold EC;rw[<- h2.len,hw.1,hw.2];simp[h2.len]
   rw[this];exact r3
  .have hF  := dO.none_of K3.sF hl;exact kk _ e3 _ _ _ p3 (ag s4 (aq hF)) (K3.lay hl) (.tup (.inl (.inl ah)) ((oJ h2).mono (aq hF)))
 .obtain⟨q,vs,rfl,h1,h2⟩:=Ub.lst K3.sF;refine .inl #[q,vs,rfl,.inl (.inl h1),λl hl=>?_];have hF  := dO.none_of K3.sF hl;exact kk _ e3 _ _ _ p3 (ag s4 (aq hF)) (K3.lay hl) (.lst ah ((oJ h2).mono (aq hF)))
 .obtain⟨q,rfl,h1⟩:=Ub.D5 K3.sF;refine .inl #[q,_,rfl,h1,λl hl=>?_];have hF  := dO.none_of K3.sF hl;exact kk _ e3 _ _ _ p3 (ag s4 (aq hF)) (K3.lay hl) (.lst (by rw[ah,yF]) (gR _))
structure Sn(M:Md)(Z:Zn)(F:Hp)(P:Wd)(D:Ends):Prop where
 nx:∀env U F' H,P.nx env->dO F F'->tO M Z F' U H env->D.nx U H
 rt:∀x env v U F' H,P.rt x env->dO F F'->tO M Z F' U H env->Rep M.K F' v x->D.rt v H
 bk:∀env U F' H,P.bk env->dO F F'->tO M Z F' U H env->D.bk U H
 ct:∀env U F' H,P.ct env->dO F F'->tO M Z F' U H env->D.ct U H
 rf:∀x env v U F' H,P.rf x env->dO F F'->(∀xs,x≠.set xs)->tO M Z F' (U++[some v]) H (env++[some #[1,x]])->D.rt v H
 ro:∀x i env v U F' H,P.ro x i env->dO F F'->tO M Z F' U H env->env[i]?=some (some #[4,x])->U[i]?=some (some v)->D.rt v H
variable{Z:Zn}{F1:Hp}{P:Wd}
def Sn.mono{D:Ends}(h:Sn M Z F P D)(s:dO F F1):Sn M Z F1 P D :=
 #[λe U F' H p q=>h.nx e U F' H p (ag s q),λx e v U F' H p q=>h.rt x e v U F' H p (ag s q),λe U F' H p q=>h.bk e U F' H p (ag s q),λe U F' H p q=>h.ct e U F' H p (ag s q),λx e v U F' H p q=>h.rf x e v U F' H p (ag s q),λx i e v U F' H p q=>h.ro x i e v U F' H p (ag s q)]
structure E6(ob:Ct)(X:Cx)(st:Stmt)(f:WS):Prop where
 ex:∃t:TS,PS X st t/\∀(Z:Zn) (F:Hp) (U:L2.St) (H:Hp) (env:En) (P:Wd) (D:Ends),tO (md ob X) Z F U H env->f P env->Sn (md ob X) Z F P D->t D U H
structure EG(ob:Ct)(X:Cx)(st:List Stmt)(f:WS):Prop where
 ex:∃t:TS,IT X st t/\∀(Z:Zn) (F:Hp) (U:L2.St) (H:Hp) (env:En) (P:Wd) (D:Ends),tO (md ob X) Z F U H env->f P env->Sn (md ob X) Z F P D->t D U H
abbrev WG:=PV->En->(En->Prop)->Prop
structure Sw(ob:Ct)(X:Cx)(tg:Expr)(f:WG):Prop where
 ex:∃t:TG,PG X tg t/\∀(Z:Zn) (F:Hp) (U:L2.St) (H:Hp) (env:En) (v:V) (x:PV) (P:En->Prop) (Q:L2.St->Hp->Prop),tO (md ob X) Z F U H env->Rep X.K F v x->f x env P ->
  (∀aT sa F' H',P aT->dO F F'->tO (md ob X) Z F' sa H' aT->Q sa H')->t v U H Q
abbrev M9:=List PV->En->(En->Prop)->Prop
structure Mj(ob:Ct)(X:Cx)(XS:Aak)(f:M9):Prop where
 ex:∃t:JU,Sh X XS t/\∀(Z:Zn) (F:Hp) (U:L2.St) (H:Hp) (env:En) (vs:Aai) (xs:Aad) (P:En->Prop) (Q:L2.St->Hp->Prop),tO (md ob X) Z F U H env->rW X.K F vs xs->f xs env P ->
  (∀aT sa F' H',P aT->dO F F'->tO (md ob X) Z F' sa H' aT->Q sa H')->t vs U H Q
def nE(a b:WS):WS:=λP env=>a {P with nx:=b P} env
def Cr:WS:=λP env=>P.nx env
def BB(a:WE):WS:=λP env=>a env P.rt
def De(a:WE):WS:=λP env=>a env λ_ e=>P.nx e
def DK(c:WT)(a b:WS):WS:=λP env=>c env λk e=>if k=true then a P e else b P e
def By(i:Nat)(a:WE):WS:=λP env=>a env λx e=>P.nx (e.set i (some #[0,x]))
def CA(i:Nat)(a:WE):WS:=λP env=>a env λx e=>P.nx (e.set i (some #[1,x]))
def gN(i:Nat):WG:=λx env P=>P (env.set i (some #[0,x]))
def Ee:M9:=λxs env P=>xs=[]/\P env
noncomputable def BU(g:WG)(r:M9):M9:=λxs env P=>match xs with
 |[]=>False
 |x::xs=>g x env λe=>r xs e P
noncomputable def gT(r:M9):WG:=λx env P=>match x with
 |.tup xs=>r xs env P
 |_=>False
def Jq(a:WE)(g:WG):WS:=λP env=>a env λx e=>g x e P.nx
noncomputable def NG(i j:Nat)(a:WA):WS:=λP env=>a env λxs e=>match xs with
 |[x,y]=>P.nx ((e.set i (some #[0,x])).set j (some #[0,y]))
 |_=>False
variable{tg:Expr}{st:Stmt}{OV:List Stmt}{u v:WS}
def yd:EG ob X [] Cr:=#[_,lf,λZ F U H env P D K hf L=>L.nx env U F H hf aj K]
def vN(h1:E6 ob X st u)(h2:EG ob X OV v):EG ob X (st::OV) (nE u v):=by obtain⟨t1,Kv,k1⟩:=h1.ex;obtain⟨t2,LR,k2⟩:=h2.ex;refine#[_,aL Kv LR,λZ F U H env P D K hf L=>k1 Z F U H env _ _ K hf #[λe sa F' H' p s K'=>?_,L.rt,L.bk,L.ct,L.rf,L.ro]];exact k2 Z F' sa H' e P D K' p (L.mono s)
def yc(h1:E6 ob X st u):EG ob X [st] u:=by obtain⟨t1,Kv,k1⟩:=h1.ex;exact#[t1,cV Kv,k1]
def zX(h:BH ob X e f):E6 ob X (.Return (some e) pos) (BB f):=by obtain⟨t,ht,k⟩:=h.ex;exact#[_,fq ht,λZ F U H env P D K hf L=>k Z F U H env _ _ K hf λx e1 v F1 H1 p s1 K1 r1=>L.rt x e1 v U F1 H1 p s1 K1 r1]
def yg(h:Gh ob X e f)(hs:autoParam (abU e none pos.line X.env=pure false) oR):E6 ob X (.Expr e pos) (De f):=by obtain⟨t,ht,k⟩:=h.ex;exact#[_,lg ht hs,λZ F U H env P D K hf L=>k Z F U H env _ _ K hf λx e1 v F1 H1 p s1 K1 r1=>L.nx e1 U F1 H1 p s1 K1]
def Bb{s1 s2:List Stmt}(hc:Gd ob X c t)(ha:EG ob X s1 u)(hb:EG ob X s2 v):E6 ob X (.If c s1 s2 pos) (DK t u v):=by
 obtain⟨w,hw,k⟩:=hc.ex;obtain⟨ta,ha,ka⟩:=ha.ex;obtain⟨tb,hb,kb⟩:=hb.ex;refine#[_,qQ hw ha hb,λZ F U H env P D K hf L=>k Z F U H env _ _ K hf λx e1 F1 H1 p s1 K1=>?_];cases x with
 |true=>exact Gv (ka Z F1 U H1 e1 P D K1 p (L.mono s1))
 |false=>exact FP (kb Z F1 U H1 e1 P D K1 p (L.mono s1))
def zW(i:Nat){pos':Pos}(hN:X.N.Nodup)(hi:X.N[i]?=some x)(hx:Loc X.env.scope x)(he:BH ob X e f)(hs:autoParam (abU e (some (.Name x pos')) pos.line X.env=pure false) oR)(hf:autoParam (X.fn x=true\/X.env.scope.names.lookup x=some .local) ge):
  E6 ob X (.Assign [.Name x pos'] e pos) (By i f):=by
 obtain⟨t,ht,k⟩:=he.ex;exact#[_,bu hN hi hx ht hs hf,λZ F U H env P D K hf L=>k Z F U H env _ _ K hf λx e1 v F1 H1 p s1 K1 r1=>L.nx _ _ F1 H1 p s1 (K1.put r1)]
def ye(i:Nat){pos':Pos}(hN:X.N.Nodup)(hi:X.N[i]?=some x)(hx:Loc X.env.scope x)(he:GD ob X e f)(hs:autoParam (abU e (some (.Name x pos')) pos.line X.env=pure false) oR)(hf:autoParam (X.fn x=true\/X.env.scope.names.lookup x=some .local) ge):
  E6 ob X (.Assign [.Name x pos'] e pos) (CA i f):=by
 obtain⟨t,ht,k⟩:=he.ex;exact#[_,bu hN hi hx ht hs hf,λZ F U H env P D K hf L=>k Z F U H env _ _ K hf λx e1 v F1 H1 p s1 _ K1=>L.nx _ _ F1 H1 p s1 K1.take]
def yz(i:Nat)(hN:X.N.Nodup)(hi:X.N[i]?=some x)(hx:Loc X.env.scope x)(hf:autoParam (X.fn x=true\/X.env.scope.names.lookup x=some .local) ge):Sw ob X (.Name x pos) (gN i) :=
 #[_,lm hN hi hx hf,λZ F U H env v x P Q K r hf k=>k _ _ F H hf aj (K.put r)]
def yy:Mj ob X [] Ee:=#[_,pZ,λZ F U H env vs xs P Q K r hf k=>by obtain⟨rfl,hf⟩:=hf;cases r;exact#[rfl,k env U F H hf aj K]]
def vZ{g:WG}{r:M9}(h1:Sw ob X e g)(h2:Mj ob X es r)(hs:autoParam ((act (e::es) X.env).map (·.2)=assign e X.env::(act es X.env).map (·.2)) oR):Mj ob X (e::es) (BU g r):=by
 obtain⟨t1,Kv,k1⟩:=h1.ex;obtain⟨t2,LR,k2⟩:=h2.ex;refine#[_,nT Kv LR hs,λZ F U H env vs xs P Q K r hf k=>?_];cases r with
 |nil=>exact hf.elim
 |cons r1 r2=>refine#[_,_,rfl,k1 Z F U H env _ _ _ _ K r1 hf λe1 ss F1 H1 p s1 K1=>?_];exact k2 Z F1 ss H1 e1 _ _ P Q K1 (r2.mono s1) p λe2 sl F2 H2 p2 s2 K2=>k e2 sl F2 H2 p2 (ag s1 s2) K2
variable{n:Nat}
def AG{r:M9}{k:Nat}(hc:X.calm=true)(h:Mj ob X es r)(hl:∀xs env P,r xs env P->xs.length=n)(hn:autoParam ((act es X.env).length=n) oR)(GN:autoParam ((act es X.env).findIdx? (·.1)=none) oR):Sw ob X (.Tuple es k pos) (gT r):=by
 obtain⟨t,ht,kk⟩:=h.ex;refine#[_,sD hc ht hn GN,λZ F U H env v x P Q K r hf k=>?_];unfold gT at hf;split at hf
 .have hl:=hl _ _ _ hf;cases r with
  |tup h1 h2=>exact#[_,_,rfl,au K.sF h1,by rw[h2.len];exact hl,kk Z F U H env _ _ P Q K h2 hf k]
 .exact hf.elim
def zT:∀xs env P,Ee xs env P->xs.length=0:=λxs env P h=>by obtain⟨rfl,_⟩:=h;rfl
def x3{i:Nat}{r:M9}(h:∀xs env P,r xs env P->xs.length=n):∀xs env P,BU (gN i) r xs env P->xs.length=n+1:=λxs env P q=>by
 cases xs with
 |nil=>exact q.elim
 |cons x xs=>exact congrArg _ (h _ _ _ q)
def Ac{g:WG}(he:BH ob X e f)(hg:Sw ob X tg g)(hs:autoParam (adR [tg] e pos.line X.env=pure false) oR)(hw:autoParam (adS [tg] e X.env=pure none) oR)
  (h1:autoParam ((act [tg] X.env).map (·.2)=[assign tg X.env]) oR):E6 ob X (.Assign [tg] e pos) (Jq f g):=by
 obtain⟨t,ht,k⟩:=he.ex;obtain⟨t1,Kv,k1⟩:=hg.ex;refine#[_,gW ht Kv hs hw h1,λZ F U H env P D K hf L=>k Z F U H env _ _ K hf λx e1 v F1 H1 p s1 K1 r1=>?_];exact k1 Z F1 U H1 e1 v x _ _ K1 r1 p λe2 sl F2 H2 p2 s2 K2=>L.nx e2 sl F2 H2 p2 (ag s1 s2) K2
variable{px py:Pos}
def zZ(i j:Nat){y:Str}{pt:Pos}{kt k2 pt2}(hc:X.calm=true)(hN:X.N.Nodup)(hi:X.N[i]?=some x)(hj:X.N[j]?=some y)(Ew:i≠j)
  (hx:X.env.scope.names.lookup x=some .local) (hy:X.env.scope.names.lookup y=some .local) (ha:GG ob X [a,b] fa)
  (hw:adS [.Tuple [.Name x px,.Name y py] kt pt] (.Tuple [a,b] k2 pt2) X.env=pure (some [x,y]))
  (hs:autoParam (adR [.Tuple [.Name x px,.Name y py] kt pt] (.Tuple [a,b] k2 pt2) pos.line X.env=pure false) oR) :
  E6 ob X (.Assign [.Tuple [.Name x px,.Name y py] kt pt] (.Tuple [a,b] k2 pt2) pos) (NG i j fa):=by
 obtain⟨t,ht,k⟩:=ha.ex;refine#[_,y0 hc hN hi hj Ew hx hy ht hw hs,λZ F U H env P D K hf L=>k Z F U H env _ _ K hf λxs e1 vs F1 H1 p hl s1 K1 r1=>?_];cases r1 with
 |nil=>cases hl
 |cons r1 r2=>cases r2 with
  |nil=>cases hl
  |cons r2 r3=>cases r3 with
   |nil=>exact#[_,_,rfl,L.nx _ _ F1 H1 p s1 ((K1.put r1).put r2)]
   |cons=>simp at hl
def JV(c:WT)(b:WS)(P:Wd):Nat->En->Prop
 |0,_=>False
 |n+1,env=>c env λk e=>if k=true then b {P with nx:=JV c b P n,ct:=JV c b P n,bk:=P.nx} e else P.nx e
def DJ(c:WT)(b:WS):WS:=λP env=>∃n,JV c b P n env
def vO(hp:PassesOwn (model X.prog X.w) X.A X.env X.xe)(hc:Gd ob X c t)(hb:EG ob X OV u):E6 ob X (.While c OV [] pos) (DJ t u):=by
 obtain⟨w,hw,k⟩:=hc.ex;obtain⟨tb,hb,kb⟩:=hb.ex;refine#[_,uX hp hw hb,λZ F U H env P D K hf L=>?_];obtain⟨n,hf⟩:=hf;refine#[λm sa H'=>∃F' aT,dO F F'/\tO _ Z F' sa H' aT/\JV t u P m aT,#[n,F,env,aj,K,hf],?_];rintro m sa H' ⟨F',aT,s,K',hg⟩;cases m with
 |zero=>exact hg.elim
 |succ m=>
  refine k Z F' sa H' aT _ _ K' hg λx e1 F1 H1 p s1 K1=>?_;cases x with
  |true=>refine Gv #[_,λsl H2 q=>#[m,abP m,q],?_];have sF:=ag s s1;exact kb Z F1 sa H1 e1 _ _ K1 p #[λe2 sl F2 H2 q s2 K2=>#[F2,e2,ag sF s2,K2,q],(L.mono sF).rt,(L.mono sF).nx,λe2 sl F2 H2 q s2 K2=>#[F2,e2,ag sF s2,K2,q],(L.mono sF).rf,(L.mono sF).ro]
  |false=>exact FP (L.nx e1 sa F1 H1 p (ag s s1) K1)
structure Fp(M:Md)(J:It)(F:Hp)(xs:Aad):Prop where
 go:∀(Z:Zn) (i:Nat) (U:L2.St) (env:En) (F' H:Hp) (x:PV),dO F F'->tO M Z F' U H env->xs[i]?=some x->J.go i H/\∀v H',J.yld i H v H'->∃Tx,dO F' Tx/\tO M Z Tx U H' env/\Rep M.K Tx v x/\dO H H'/\∀a,Tx a≠none->F' a≠none\/H a=none
 stop:∀(Z:Zn) (i:Nat) (U:L2.St) (env:En) (F' H:Hp),dO F F'->tO M Z F' U H env->xs.length<=i->J.stop i H
structure Hl(ob:Ct)(X:Cx)(tg it:Expr)(f:WA):Prop where
 ex:∃wi:TI,PI X tg it wi/\∀(Z:Zn) (F:Hp) (U:L2.St) (H:Hp) (env:En) (P:Aad->En->Prop) (R:It->Hp->Prop),tO (md ob X) Z F U H env->f env P ->
  (∀xs aT J F' H',P xs aT->dO F F'->tO (md ob X) Z F' U H' aT->Fp (md ob X) J F' xs->R J H')->wi U H R
def zM{a:Addr}{vs:Aai}{xs:Aad}(h:F a=some (.lst vs))(r:rW M.K F vs xs):Fp M (ON M.K a) F xs:=by refine#[λZ i U env F' H x s K e=>?_,λZ i U env F' H s K hl=>#[vs,.inl (.inl (K.sF _ _ (s _ _ h))),by rw[r.len];exact hl]];obtain⟨v,hv,rv⟩:=r.get e;have hH:CN M.K H a vs:=.inl (.inl (K.sF _ _ (s _ _ h)));refine#[#[vs,v,hH,hv],λv' H' y=>?_];obtain⟨rfl,y⟩:=y;have:=y vs hH;rw[hv]at this;cases this;exact#[F',aj,K,rv.mono s,aj,λ_ h=>.inl h]
def zJ{a:Addr}{vs:Aai}{xs:Aad}(h:C3 M.K F a vs)(r:rW M.K F vs xs):Fp M (VJ M.K a) F xs:=by refine#[λZ i U env F' H x s K e=>?_,λZ i U env F' H s K hl=>#[vs,au K.sF (au s h),by rw[r.len];exact hl]];obtain⟨v,hv,rv⟩:=r.get e;have hH  := au K.sF (au s h);refine#[#[vs,v,hH,hv],λv' H' y=>?_];obtain⟨rfl,y⟩:=y;have:=y vs hH;rw[hv]at this;cases this;exact#[F',aj,K,rv.mono s,aj,λ_ h=>.inl h]
def Uy(K:aaf)(tl:TE):TI:=λU H R=>tl U H λx H1=>∃a,x=.ref a/\(((∃xs,CN K H1 a xs)/\R (ON K a) H1)\/((∃xs,C3 K H1 a xs)/\R (VJ K a) H1))
def y8{l:Expr}{tl:TE}(hl:PE X l tl):PI X tg l (Uy X.K tl):=by
 refine λpins s U H R I h=>BZ (hl pins s U H _ I h) λv s1 #[x,H1,I1,r1,q1]=>?_;obtain⟨a,e,q⟩:=q1;subst e;cases r1;rcases q with ⟨⟨xs,hq⟩,q⟩|⟨⟨xs,hq⟩,q⟩
 .obtain⟨gE,rv,p,hz⟩:=I1.list hq;refine acH p.isList (#[s1.heap.objs.size,_,_,_,H1,rfl,I1.kept λb o e=>aad _ e,lU a _,#[_,aag _ rfl,rfl,rfl],λb hb=>?_,q]);have e  :=by simpa using hb
  subst e;exact I1.HH (aaj _) (I1.Bv.fresh (aaj _))
 .obtain⟨gE,rv,p,hz⟩:=I1.tuple hq;refine aeq (p) (#[s1.heap.objs.size,_,_,_,H1,rfl,I1.kept λb o e=>aad _ e,qG a _,#[_,aag _ rfl,rfl,rfl],λb hb=>?_,q]);have e  :=by simpa using hb
  subst e;exact I1.HH (aaj _) (I1.Bv.fresh (aaj _))
noncomputable def iS(a:WE):WA:=λenv P=>a env λx e=>match x with
 |.lst xs=>P xs e
 |.tup xs=>P xs e
 |_=>False
def AF(h:BH ob X e f):Hl ob X tg e (iS f):=by
 obtain⟨t,ht,k⟩:=h.ex;refine#[_,y8 ht,λZ F U H env P R K hf kk=>k Z F U H env _ _ K hf λx e1 v F1 H1 p s1 K1 r1=>?_];cases r1 with
 |tup h1 h2=>exact#[_,rfl,.inr #[#[_,au K1.sF h1],kk _ e1 _ F1 H1 p s1 K1 (zJ h1 h2)]]
 |lst h1 h2=>exact#[_,rfl,.inl #[#[_,.inl (.inl (K1.sF _ _ h1))],kk _ e1 _ F1 H1 p s1 K1 (zM h1 h2)]]
 |_=>exact p.elim
noncomputable def Gq(lo:Int)(n:Nat):Aad:=(abd n).map λ(k:Nat)=>.int (lo+(k:Int))
def zL{lo:Int}:Fp M (Tw lo n) F (Gq lo n):=by
 refine#[λZ i U env F' H x s K e=>?_,λZ i U env F' H s K hl=>show n<=i by simpa[Gq]using hl];have hi:i<n:=by
  rcases aaQ i n with h|h
  .exact h
  .rw[aao (by simpa[Gq]using h)]at e;cases e
 have ex  :=by unfold Gq at e;rw[aal,acq hi]at e;exact(aar e).symm
 subst ex;refine#[hi,λv' H' y=>?_];obtain⟨rfl,rfl⟩:=y;exact#[F',aj,K,.int _,aj,λ_ h=>.inl h]
noncomputable def LP(a:WA):WA:=λenv P=>a env λxs e=>match xs with
 |[.int j]=> -1000000<=j/\j<=1000000/\P (Gq 0 j.toNat) e
 |_=>False
def Yq(a:WA):WA:=λenv P=>a env λxs e=>match xs with
 |[.int i,.int j]=>(-1000000<=i/\i<=1000000 /\ -1000000<=j/\j<=1000000)/\P (Gq i (j - i).toNat) e
 |_=>False
theorem uh(hg:Gl X "range")(hm:X.mg "range" = none)(ha:GG ob X [a] fa)(hs:autoParam (aai [a] X.env=[(false,eval a X.env)]) oR):Hl ob X tg (.Call (.Name "range" p) [a] [] pos) (LP fa):=by
 obtain⟨t,ht,k⟩:=ha.ex;refine#[_,sC hg hm ht hs,λZ F U H env P R K hf kk=>k Z F U H env _ _ K hf λxs e1 vs F1 H1 p _ s1 K1 r1=>?_];split at p
 .cases r1 with
  |cons r1 r2=>cases r1;cases r2;exact#[_,rfl,#[],#[],kk _ e1 _ F1 H1 p.2.2 s1 K1 zL]
 .exact p.elim
noncomputable def Fu(xs ys:Aad):Aad:=(xs.zip ys).map λp=>.tup [p.1,p.2]
noncomputable def FC(s:Str):Aad:=s.cps.toList.map λc=>.str #[#v[c]]
theorem zK{s:Str}:Fp M (Tv s) F (FC s):=by
 refine#[λZ i U env F' H x sm K e=>?_,λZ i U env F' H sm K hl=>show s.cps.size<=i by simpa[FC]using hl];unfold FC at e;rw[aal]at e;cases ez:s.cps.toList[i]? with
 |none=>rw[ez]at e;cases e
 |some c=>
  rw[ez]at e;have e  := (aar e).symm;subst e;have hi:i<s.cps.size:=by
   rcases aaQ i s.cps.size with h|h
   .exact h
   .rw[aao #[]]at ez;cases ez
  refine#[hi,λv' H' y=>?_];obtain⟨rfl,c',Ft,rfl⟩:=y;rw[<- abW,ez]at Ft;cases Ft;exact#[F',aj,K,.str _,aj,λ_ h=>.inl h]
def Kt(a:WE):WA:=λenv P=>a env λx e=>match x with
 |.str s=>P (FC s) e
 |_=>False
def AE(h:BH ob X e f):Hl ob X tg e (Kt f):=by
 obtain⟨t,ht,k⟩:=h.ex;refine#[_,y6 ht,λZ F U H env P R K hf kk=>k Z F U H env _ _ K hf λx e1 v F1 H1 p s1 K1 r1=>?_];cases r1 with
 |str s=>exact#[s,rfl,kk _ e1 _ F1 H1 p s1 K1 zK]
 |_=>exact p.elim
def GR(g:WG)(b:WS)(P:Wd):Aad->En->Prop
 |[],env=>P.nx env
 |x::xs,env=>g x env λe=>b {P with nx:=GR g b P xs,ct:=GR g b P xs,bk:=P.nx} e
def Ey(it:WA)(g:WG)(b:WS):WS:=λP env=>it env λxs e=>GR g b P xs e
theorem Ab{it:Expr}{g:WG}(hp:PassesOwn (model X.prog X.w) X.A X.env X.xe)(hc:X.calm=true)(hi:Hl ob X tg it fa)(hg:Sw ob X tg g)(hb:EG ob X OV u)
  (hs:autoParam (∀x,aaC it X.env x=pure x) At):E6 ob X (.For tg it OV [] pos) (Ey fa g u):=by
 obtain⟨wi,Iu,k⟩:=hi.ex;obtain⟨OU,YB,kg⟩:=hg.ex;obtain⟨tb,Rv,kb⟩:=hb.ex;refine#[_,sx hp hc Iu YB Rv hs,λZ F U H env P D K hf L=>k Z F U H env _ _ K hf λxs e1 J F1 H1 p s1 K1 I1=>?_];have L1:=L.mono s1;refine#[λi m sa H'=>m=xs.length - i/\∃F' aT,dO F1 F'/\tO _ Z F' sa H' aT/\GR g u P (xs.drop i) aT,#[_,rfl,F1,e1,aj,K1,p],?_];rintro i m sa H' ⟨rfl,F',aT,s,K',Lr⟩;by_cases Cn:i<xs.length
 .rw[acf Cn]at Lr;obtain⟨h1,h2⟩:=I1.go Z i sa aT F' H' xs[i] s K' #[0];refine .inr #[h1,_,λsl H2 q=>#[_,#[],rfl,q],λv H2 y=>?_];obtain⟨F2,s2,K2,r2,_,_⟩:=h2 v H2 y;refine kg Z F2 sa H2 aT v _ _ _ K2 r2 Lr λe3 sm F3 H3 p3 s3 K3=>?_;have sF:=ag s (ag s2 s3);exact kb Z F3 sm H3 e3 _ _ K3 p3 #[λe4 sb F4 H4 q s4 K4=>#[F4,e4,ag sF s4,K4,q],(L1.mono sF).rt,(L1.mono sF).nx,λe4 sb F4 H4 q s4 K4=>#[F4,e4,ag sF s4,K4,q],(L1.mono sF).rf,(L1.mono sF).ro]
 .rw[acz #[]]at Lr;exact .inl #[I1.stop Z i sa aT F' H' s K' #[],L1.nx aT sa F' H' Lr s K']
noncomputable def lend(s:Sl):Sl:=if s.k=1 then #[3,s.v]else s
noncomputable def EE(js:Aah)(env:En):En:=js.map λo=>o.bind λj=>((env[j]?).getD none).map lend
noncomputable def Eg(s s':Sl):Aat:=if s'.k=3 then (if s.k=1\/s.k=3 then some #[s.k,s'.v]else none)else if s'.k=2 then (if s.k=2 then some s' else none)else some s'
noncomputable def Ce(js:Aah)(env benv:En):En:=env.mapIdx λj o=>match js.findIdx? (λq=>q==some j)with
 |none=>o
 |some i=>match o,benv[i]? with
  |some s,some (some s')=>Eg s s'
  |_,_=>none
noncomputable def FO(js:Aah):Bool:=decide (js.filterMap id).Nodup
def jD:∀{js:Aah},(js.filterMap id).Nodup->∀(i i':Nat) (j:Nat),js[i]?=some (some j)->js[i']?=some (some j)->i=i'
 |[],_,i,i',j,h,_=>by simp at h
 |none::js,hn,i,i',j,h,h'=>by
  cases i with
  |zero=>simp at h
  |succ i=>
   cases i' with
   |zero=>simp at h'
   |succ i'=>simp at h h' hn;exact congrArg (·+1) (jD (js:=js) (by simpa using hn) i i' j h h')
 |some k::js,hn,i,i',j,h,h'=>by
  simp only[acT,id]at hn;obtain⟨hk,hn⟩:=List.nodup_cons.mp hn;have mem:∀m,js[m]?=some (some k)->False:=λm hm=>hk (List.mem_filterMap.mpr #[some k,aaB hm,rfl]);cases i with
  |zero=>
   simp at h;subst h;cases i' with
   |zero=>rfl
   |succ i'=>exact(mem i' (by simpa using h')).elim
  |succ i=>
   cases i' with
   |zero=>simp at h';subst h';exact(mem i (by simpa using h)).elim
   |succ i'=>exact congrArg (·+1) (jD hn i i' j (by simpa using h) (by simpa using h'))
variable{F' H':Hp}{env:En}
def Fn.wr{v:V}{s:Sl}{fp:Aaj}(h:Fn M Z F H v s fp):∀c∈fp,c∈Z.S\/Z.Ha c=none:=by
 rcases h with ⟨_,rfl,_⟩|⟨_,a,_,rfl,h0,_⟩|⟨_,a,_,h,_⟩|⟨_,a,_,rfl,h0,_⟩
 .intro c hc;simp at hc
 .intro c hc;simp at hc;subst hc;exact .inr h0
 .exact h
 .intro c hc;simp at hc;subst hc;exact .inl h0
noncomputable def ED(js:Aah)(env:En)(fp:Nat->List Addr)(i:Nat):Aaj:=match js[i]? with
 |some (some j)=>match env[j]? with
  |some (some _)=>fp j
  |_=>[]
 |_=>[]
noncomputable def DW(js:Aah)(env:En)(fp:Nat->List Addr)(H:Hp):Aaj:=((abd js.length).flatMap (ED js env fp)).filter λb=>(H b).isSome
variable{js:Aah}{fp:Nat->List Addr}
def tI{i:Nat}{a:Addr}(h:a∈ED js env fp i)(hH:H a≠none):a∈DW js env fp H:=by
 refine List.mem_filter.mpr #[List.mem_flatMap.mpr #[i,List.mem_range.mpr ?_,h],by obtain⟨o,ho⟩:=bK hH;rw[ho];rfl];rcases aaQ i js.length with q|q
 .exact q
 .unfold ED at h;rw[aao q]at h;simp at h
def b9{a:Addr}(h:a∈DW js env fp H):∃(i j:Nat) (s:Sl),js[i]?=some (some j)/\env[j]?=some (some s)/\a∈fp j:=by
 obtain⟨i,_,h⟩:=List.mem_flatMap.mp (List.mem_filter.mp h).1;unfold ED at h;split at h
 .rename_i j ej;split at h
  .rename_i s es;exact#[i,j,s,ej,es,h]
  .simp at h
 .simp at h
def wg{i:Nat}{s':Sl}(h:(EE js env)[i]?=some (some s')):∃j s,js[i]?=some (some j)/\env[j]?=some (some s)/\s'=lend s:=by
 unfold EE at h;rw[aal]at h;cases ej:js[i]? with
 |none=>rw[ej]at h;cases h
 |some o=>
  cases o with
  |none=>rw[ej]at h;cases h
  |some j=>
   rw[ej]at h;have h:((env[j]?).getD none).map lend=some s':=aar h;cases es:env[j]? with
   |none=>rw[es]at h;cases h
   |some o=>
    cases o with
    |none=>rw[es]at h;cases h
    |some s=>rw[es]at h;exact#[j,s,rfl,es,(aar h).symm]
variable{j:Nat}
def oN{i:Nat}{v:V}(h:js[i]?=some (some j))(hv:U[j]?=some (some v)):(BL js U)[i]?=some (some v):=by unfold BL;rw[aal,h];show some ((U[j]?).getD none)=_;rw[hv];rfl
noncomputable def Zb(js:Aah)(env:En)(fp:Nat->List Addr)(F H:Hp):Zn:={Ha:=H,Fa:=F,S:=DW js env fp H,sS:=λb hb e=>by have:=(List.mem_filter.mp hb).2;rw[e]at this;cases this}
theorem jL(hj:FO js=true)(K:tO M Z F U H env)(L:Slots M Z F U H env fp):tO M (Zb js env fp F H) F (BL js U) H (EE js env):=by
 have hn  := of_decide_eq_true hj;refine#[K.sF,λb o h _=>h,λb h=>h,aj,λa h=>.inl h,by simp[EE,BL],ED js env fp,λi s' h=>?_,λi a h=>?_,λi i' a Y2 h h'=>?_,λi a s e=>by cases e]
 .obtain⟨j,s,ej,es,rfl⟩:=wg h;obtain⟨v,hv,ok⟩:=L.at' j s es;have ef:ED js env fp i=fp j:=by unfold ED;rw[ej];dsimp only;rw[es]
  refine#[v,oN ej hv,?_];have Ll  := λc hc=>tI (by rw[ef];exact hc) (L.al j c hc).1;rw[ef];rcases ok with ⟨k,e,r⟩|⟨k,a,e,e2,h0,r⟩|⟨k,a,e,h0,r⟩|⟨k,a,e,e2,h0,r⟩
  .have:lend s=s:=by unfold lend;rw[if_neg #[1]]
   rw[this];exact .inl #[k,e,r]
  .have:lend s=#[3,s.v]:=by unfold lend;rw[if_pos k]
   rw[this];exact .inr (.inr (.inr #[rfl,a,e,e2,Ll a #[1],r]))
  .have:lend s=s:=by unfold lend;rw[if_neg #[]]
   rw[this];exact .inr (.inr (.inl #[k,a,e,λc hc=>.inl (Ll c hc),r]))
  .have:lend s=s:=by unfold lend;rw[if_neg #[1]]
   rw[this];exact .inr (.inr (.inr #[k,a,e,e2,Ll a #[1],r]))
 .unfold ED at h;split at h
  .split at h
   .exact L.al _ a h
   .simp at h
  .simp at h
 .unfold ED at h h';split at h
  .rename_i j ej;split at h'
   .rename_i j' ZK;split at h
    .split at h'
     .have:j≠j':=λe=>by subst e;exact Y2 (jD hn i i' j ej ZK)
      exact L.dj j j' a this h h'
     .simp at h'
    .simp at h
   .simp at h'
  .simp at h
noncomputable def hZ{sH:L2.St}{benv:En}(hj:FO js=true)(K:tO M Z F U H env)(L:Slots M Z F U H env fp)(Kb:tO M (Zb js env fp F H) F' sH H' benv)
  (hh:∀(k j:Nat),js[k]?=some (some j)->sH[k]?=(BL js U)[k]?) :
  ∃IE,Slots M Z F' U H' (Ce js env benv) IE/\tO M Z F' U H' (Ce js env benv)/\∀i a,a∈IE i->(∃i',a∈fp i')\/H a=none:=by
 have hn:(js.filterMap id).Nodup:=of_decide_eq_true hj;obtain⟨fb,Lb⟩:=Kb.sl;have Ll:∀c∈DW js env fp H,(c∈Z.S\/Z.Ha c=none)/\∃i',c∈fp i':=λc hc=>by obtain⟨i,j,s,e1,e2,e3⟩:=b9 hc;obtain⟨v,_,ok⟩:=L.at' j s e2;exact#[ok.wr c e3,j,e3]
 have Ow:∀j i,js.findIdx? (λq=>q==some j)=some i->js[i]?=some (some j):=λj i h=>by rw[List.findIdx?_eq_some_iff_getElem]at h;obtain⟨hi,he,_⟩:=h;rw[aab hi,eq_of_beq he]
 have R8:∀j,(Ce js env benv)[j]?=(env[j]?).map λo=>(match js.findIdx? (λq=>q==some j)with
   |none=>o
   |some i=>match o,benv[i]? with
    |some s,some (some s')=>Eg s s'
    |_,_=>none):=λj=>by
  unfold Ce;rw[List.getElem?_mapIdx]
 have Xu:∀i s',benv[i]?=some (some s')->∀c∈fb i,(c∈Z.S\/Z.Ha c=none)/\((∃i',c∈fp i')\/H c=none):=λi s' e c hc=>by
  obtain⟨v,_,ok⟩:=Lb.at' i s' e;rcases ok.wr c hc with h|h
  .exact#[(Ll c h).1,.inl (Ll c h).2]
  .exact#[.inr (K.h0 h),.inr h]
 let IE:Nat->List Addr:=λj=>match js.findIdx? (λq=>q==some j)with
  |none=>fp j
  |some i=>match env[j]?,benv[i]? with
   |some (some s),some (some s')=>if (Eg s s').isSome=true then fb i else []
   |_,_=>[]
 have keep:∀c o,H c=some o->c∉DW js env fp H->H' c=some o:=λc o h1 h2=>Kb.sG c o h1 h2;have S:Slots M Z F' U H' (Ce js env benv) IE:=by
  refine#[λj t e=>?_,λj a h=>?_,λj j2 a O5 h h2=>?_,λj a t e1 e e3=>?_];case refine_4=>
   rw[R8]at e;cases ej:env[j]? with
   |none=>rw[ej]at e;cases e
   |some o=>
    rw[ej]at e;have e:=aar e;cases ei:js.findIdx? (λq=>q==some j)with
    |none=>rw[ei]at e;dsimp only at e;subst e;exact L.oa j a t e1 ej e3
    |some i=>
     rw[ei]at e;dsimp only at e;cases o with
     |none=>cases e
     |some s=>
      cases eb:benv[i]? with
      |none=>rw[eb]at e;cases e
      |some w=>
       cases w with
       |none=>rw[eb]at e;cases e
       |some s'=>
        rw[eb]at e;dsimp only at e;unfold Eg at e;split at e
        .split at e
         .rename_i h1 h2;cases e;rcases h2 with q|q
          .rw[q]at e3;cases e3
          .rw[q]at e3;cases e3
         .cases e
        .split at e
         .split at e
          .rename_i h1;exact L.oa j a s e1 ej h1
          .cases e
         .rename_i h1;cases e;exact absurd e3 h1
  .rw[R8]at e;cases ej:env[j]? with
   |none=>rw[ej]at e;cases e
   |some o=>
    rw[ej]at e;have e:=aar e;show ∃v,U[j]?=some (some v)/\Fn M Z F' H' v t (match js.findIdx? (λq=>q==some j)with
     |none=>fp j
     |some i=>match env[j]?,benv[i]? with
      |some (some s),some (some s')=>if (Eg s s').isSome=true then fb i else []
      |_,_=>[])
    cases ei:js.findIdx? (λq=>q==some j)with
    |none=>
     rw[ei]at e;dsimp only at e;subst e;obtain⟨v,hv,ok⟩:=L.at' j t ej;refine#[v,hv,ok.mono Kb.gr λc hc=>?_];have MO:=L.al j c hc;obtain⟨o,ho⟩:=bK MO.1;rw[ho];refine keep c o ho λhS=>?_;obtain⟨i,j',s,e1,e2,e3⟩:=b9 hS;have:j≠j':=λz=>by subst z;rw[afF]at ei;have:=ei (some j) (aaB e1);simp at this
     exact L.dj j j' c this hc e3
    |some i=>
     rw[ei]at e;dsimp only at e ⊢;have Xp:=Ow j i ei;cases o with
     |none=>cases e
     |some s=>
      rw[ej];cases eb:benv[i]? with
      |none=>rw[eb]at e;cases e
      |some w=>
       cases w with
       |none=>rw[eb]at e;cases e
       |some s'=>
        rw[eb]at e;dsimp only at e ⊢;rw[e,if_pos (Option.isSome_some)];obtain⟨v0,Fs,Ue⟩:=L.at' j s ej;obtain⟨v,hv,ok⟩:=Lb.at' i s' eb;rw[hh i j Xp,oN Xp Fs]at hv;cases hv;refine#[v0,Fs,?_];unfold Eg at e;rcases ok with ⟨k,e1,r⟩|⟨k,a,e1,e2,h0,r⟩|⟨k,a,e1,h0,r⟩|⟨k,a,e1,e2,h0,r⟩
        .rw[if_neg (by rw[k];decide),if_neg (by rw[k];decide)]at e;cases e;exact .inl #[k,e1,r]
        .rw[if_neg (by rw[k];decide),if_neg (by rw[k];decide)]at e;cases e;exact .inr (.inl #[k,a,e1,e2,K.h0 h0,r])
        .rw[if_neg (by rcases k with k|k<;>(rw[k];decide))]at e;have e:s'=t:=by
          split at e
          .split at e
           .exact aar e
           .cases e
          .exact aar e
         subst e;refine .inr (.inr (.inl #[k,a,e1,λc hc=>(Xu i _ eb c hc).1,r]))
        .rw[if_pos k]at e;split at e
         .rename_i hk;cases e;rcases Ue with ⟨k0,_⟩|⟨k0,a0,f1,f2,f3,_⟩|⟨k0,_⟩|⟨k0,a0,f1,f2,f3,_⟩
          .rw[k0]at hk;rcases hk with z|z<;>cases z
          .rw[e1]at f1;cases f1;exact .inr (.inl #[k0,a,e1,e2,f3,r])
          .rcases k0 with k0|k0<;>(rw[k0]at hk;rcases hk with z|z<;>cases z)
          .rw[e1]at f1;cases f1;exact .inr (.inr (.inr #[k0,a,e1,e2,f3,r]))
         .cases e
  .have h:a∈(match js.findIdx? (λq=>q==some j)with
     |none=>fp j
     |some i=>match env[j]?,benv[i]? with
      |some (some s),some (some s')=>if (Eg s s').isSome=true then fb i else []
      |_,_=>[]):=h
   split at h
   .rename_i ei;have h0:=L.al j a h;obtain⟨o,ho⟩:=bK h0.1;constructor
    .intro z;have:=Kb.pr a (by show H a≠none;exact h0.1);exact this z
    .cases ef:F' a with
     |none=>rfl
     |some o=>
      rcases Kb.nw a (by rw[ef];simp)with q|q
      .exact absurd h0.2 q
      .exact absurd q h0.1
   .split at h
    .split at h
     .exact Lb.al _ a h
     .simp at h
    .simp at h
  .have h:a∈(match js.findIdx? (λq=>q==some j)with
     |none=>fp j
     |some i=>match env[j]?,benv[i]? with
      |some (some s),some (some s')=>if (Eg s s').isSome=true then fb i else []
      |_,_=>[]):=h
   have h2:a∈(match js.findIdx? (λq=>q==some j2)with
     |none=>fp j2
     |some i=>match env[j2]?,benv[i]? with
      |some (some s),some (some s')=>if (Eg s s').isSome=true then fb i else []
      |_,_=>[]):=h2
   have Q5:∀{j1 i:Nat} {s':Sl},js.findIdx? (λq=>q==some j1)=none->benv[i]?=some (some s')->a∈fp j1->a∈fb i->False:=λ{j1 i s'} e1 e2 m1 m2=>by
    obtain⟨v,_,ok⟩:=Lb.at' i s' e2;rcases ok.wr a m2 with q|q
    .obtain⟨i',j',s,q1,q2,q3⟩:=b9 q;have:j1≠j':=λz=>by subst z;rw[afF]at e1;have:=e1 (some j1) (aaB q1);simp at this
     exact L.dj j1 j' a this m1 q3
    .exact(L.al j1 a m1).1 q
   split at h
   .rename_i ei;split at h2
    .exact L.dj j j2 a O5 h h2
    .split at h2
     .rename_i eb;split at h2
      .exact Q5 ei eb h h2
      .simp at h2
     .simp at h2
   .rename_i i ei;split at h
    .rename_i eb;split at h
     .split at h2
      .rename_i Vx;exact Q5 Vx eb h2 h
      .rename_i i2 Vx;split at h2
       .split at h2
        .have:i≠i2:=λz=>by subst z;have q1:=Ow j i ei;have q2:=Ow j2 i Vx;rw[q1]at q2;cases q2;exact O5 rfl
         exact Lb.dj i i2 a this h h2
        .simp at h2
       .simp at h2
     .simp at h
    .simp at h
 refine#[IE,S,#[Kb.sF,λb o h1 h2=>keep b o (K.sG b o h1 h2) λhS=>?_,λb h=>Kb.pr b (K.pr b h),ag K.gr Kb.gr,λa h=>?_,by unfold Ce;rw[List.length_mapIdx];exact K.len,IE,S],λj a h=>?_]
 .rcases(Ll b hS).1 with q|q
  .exact h2 q
  .rw[q]at h1;cases h1
 .rcases Kb.nw a h with q|q
  .exact K.nw a q
  .exact .inr (K.h0 q)
 .have h:a∈(match js.findIdx? (λq=>q==some j)with
    |none=>fp j
    |some i=>match env[j]?,benv[i]? with
     |some (some s),some (some s')=>if (Eg s s').isSome=true then fb i else []
     |_,_=>[]):=h
  split at h
  .exact .inl #[j,h]
  .split at h
   .rename_i eb;split at h
    .exact(Xu _ _ eb a h).2
    .simp at h
   .simp at h
def JP(M:Md)(f:WE):TE:=λU H Q=>∃(Z:Zn) (F:Hp) (env:En) (P:Aal),tO M Z F U H env/\f env P/\∀x aT v F' H',P x aT->dO F F'->tO M Z F' U H' aT->Rep M.K F' v x->Q v H'
def NK(M:Md)(f:WT):TT:=λU H Q=>∃(Z:Zn) (F:Hp) (env:En) (P:Bool->En->Prop),tO M Z F U H env/\f env P/\∀b aT F' H',P b aT->dO F F'->tO M Z F' U H' aT->Q b H'
def BH.pe(h:BH ob X e f):PE X e (JP (md ob X) f):=by obtain⟨t,ht,k⟩:=h.ex;rintro pins s U H Q I ⟨Z,F,env,P,K,hf,kk⟩;exact ht pins s U H Q I (k Z F U H env P Q K hf kk)
structure OQ(ob:Ct)(X:Cx)(ifs:Aak)(f:WT):Prop where
 ex:PF X ifs (NK (md ob X) f)
def EM:WT:=λenv P=>P true env
def AI:OQ ob X [] EM:=#[by rintro pins s U H Q I ⟨Z,F,env,P,K,hf,kk⟩;exact sE pins s U H Q I (kk true env F H hf aj K)]
def AH(h:Gd ob X c t):OQ ob X [c] t:=#[by obtain⟨w,hw,k⟩:=h.ex;rintro pins s U H Q I ⟨Z,F,env,P,K,hf,kk⟩;exact y9 hw pins s U H Q I (k Z F U H env P Q K hf kk)]
inductive Jm where
 |nm (i:Nat)|tp (l:Aan)
def Fh:Aan->JU
 |[]=>Ou
 |i::l=>HG (B8 i) (Fh l)
noncomputable def Hn(K:aaf):Jm->TG
 |.nm i=>B8 i
 |.tp l=>Oq K l.length (Fh l)
noncomputable def Ig:Aan->List PV->En->En
 |i::l,x::xs,env=>Ig l xs (env.set i (some #[0,x]))
 |_,_,env=>env
def Hs:Jm->WG
 |.nm i=>λx env P=>P (env.set i (some #[0,x]))
 |.tp l=>λx env P=>match x with
  |.tup xs=>xs.length=l.length/\P (Ig l xs env)
  |_=>False
noncomputable def CI(js:Aah):Jm->Bool
 |.nm i=>decide (js[i]?=some none)
 |.tp l=>l.all λi=>decide (js[i]?=some none)
def tZ:∀{l:Aan},(l.all λi=>decide (js[i]?=some none))=true->Sv js (Fh l)
 |[],_=>zS
 |i::l,h=>by
  rw[List.all_cons,aaS]at h;refine xZ (lF (of_decide_eq_true h.1)) (tZ h.2) fw ?_;have mono:∀(l:Aan),∀x U H (Q Q':L2.St->Hp->Prop),(∀a b,Q a b->Q' a b)->Fh l x U H Q->Fh l x U H Q':=by
   intro l;induction l with
   |nil=>exact λx U H Q Q' h q=>#[q.1,h _ _ q.2]
   |cons i l ih=>exact iq fw ih
  exact mono l
def bC{T:Jm}(h:CI js T=true):DC js (Hn K T):=by
 cases T with
 |nm i=>exact lF (of_decide_eq_true h)
 |tp l=>exact zR (tZ h)
def wN{l:Aan}:∀{U:L2.St} {env:En} {vs:Aai} {xs:Aad} {Q:L2.St->Hp->Prop},tO M Z F U H env->rW M.K F vs xs->xs.length=l.length->(∀sa,tO M Z F sa H (Ig l xs env)->Q sa H)->Fh l vs U H Q:=by
 induction l with
 |nil=>
  intro U env vs xs Q K r hl k;cases r with
  |nil=>exact#[rfl,k U K]
  |cons _ _=>simp at hl
 |cons i l ih=>
  intro U env vs xs Q K r hl k;cases r with
  |nil=>simp at hl
  |cons r1 r2=>exact#[_,_,rfl,ih (K.put r1) r2 #[1] k]
def ng{T:Jm}{v:V}{x:PV}{P:En->Prop}{Q:L2.St->Hp->Prop}(K:tO M Z F U H env)(r:Rep M.K F v x)(hf:Hs T x env P)(k:∀aT sa,P aT->tO M Z F sa H aT->Q sa H):Hn M.K T v U H Q:=by
 cases T with
 |nm i=>exact k _ _ hf (K.put r)
 |tp l=>
  cases r with
  |tup h1 h2=>exact#[_,_,rfl,au K.sF h1,by rw[h2.len];exact hf.1,wN K h2 hf.1 λsa K'=>k _ sa hf.2 K']
  |_=>exact(hf).elim
noncomputable def CD(g:WG)(c:WT)(f:WE)(js:Aah)(P:Aal):Aad->En->List PV->Prop
 |[],env,acc=>P (.lst acc) env
 |x::xs,env,acc=>g x (EE js env) λb1=>c b1 λok b2=>if ok=true then f b2 λy b3=>acc.length<=100000/\CD g c f js P xs (Ce js env b3) (acc++[y])else CD g c f js P xs (Ce js env b2) acc
def D8(fi:WA)(T:Jm)(c:WT)(f:WE)(js:Aah):WE:=λenv P=>fi env λxs e=>CD (Hs T) c f js P xs e []
variable{elt iter kx vx:Expr}{ifs:Aak}{scope:Scope}{fi:WA}{T:Jm}{c:WT}{fk:WE}{N:Aaa}
variable{l:Addr}
def tO.DG{o:HO}(K:tO M Z F U H env)(L:Slots M Z F U H env fp)(hF:F l=none)(h0:Z.Ha l=none)(hl:∀i,l∉fp i):tO M Z F U (upd H l o) env/\Slots M Z F U (upd H l o) env fp:=by
 have S:Slots M Z F U (upd H l o) env fp:=by
  refine#[λi s e=>?_,λi a h=>?_,L.dj,L.oa]
  .obtain⟨v,h1,h2⟩:=L.at' i s e;exact#[v,h1,h2.mono aj λc hc=>af λz:c=l=>hl i #[1]]
  .have:=L.al i a h;refine#[?_,this.2];rw[af (λz:a=l=>hl i #[1])];exact this.1
 refine#[#[λa u e=>?_,λb u h1 h2=>?_,λb h=>?_,K.gr,K.nw,K.len,fp,S],S]
 .rw[af (ao e hF)];exact K.sF a u e
 .rw[af (ao h1 h0)];exact K.sG b u h1 h2
 .by_cases q:b=l
  .subst q;rw[ah];simp
  .rw[af q];exact K.pr b h
variable{J:It}
theorem qg{P:Aal}{Q:VK}{xs:Aad}(hj:FO js=true)(hT:CI js T=true)(K:tO (md ob X) Z F U H env)(I1:Fp (md ob X) J F xs)(hf:CD (Hs T) c f js P xs env [])
  (kk:∀x aT v F' H',P x aT->dO F F'->(∀xs,x≠.set xs)->tO (md ob X) Z F' (U++[some v]) H' (aT++[some #[1,x]])->Q v H') (l:Addr) (hl:H l=none) :
  ∃W:Nat->Nat->List V->Hp->Prop,(∃m,W 0 m [] (upd H l (.lst [])))/\∀i m ys H2,W i m ys H2 ->
  (J.stop i H2/\Q (.ref l) H2)\/(J.go i H2/\∀x H3,J.yld i H2 x H3->Hn X.K T x (BL js U) H3 λsb H4=>NK (md ob X) c sb H4 λb H5=>if b=true then JP (md ob X) f sb H5 λy H6=>H6 l=some (.lst ys)/\ys.length<sizeLine/\∃m',m'<m/\W (i+1) m' (ys++[y]) (upd H6 l (.lst (ys++[y])))else ∃m',m'<m/\W (i+1) m' ys H5):=by
 refine#[λi m ys H'=>m=xs.length - i/\H' l=some (.lst ys)/\∃F' aT Ge fp,dO F F'/\tO (md ob X) Z F' U H' aT/\Slots (md ob X) Z F' U H' aT fp/\F' l=none/\(∀i,l∉fp i)/\rW X.K F' ys Ge/\CD (Hs T) c f js P (xs.drop i) aT Ge,?_,?_]
 .obtain⟨fp,L⟩:=K.sl;have hF:F l=none:=dO.none_of K.sF hl;have hn:∀i,l∉fp i:=λi h=>(L.al i l h).1 hl;obtain⟨K1,L1⟩:=K.DG (o:=.lst []) L hF (K.h0 hl) hn;exact#[_,rfl,ah,F,env,[],fp,aj,K1,L1,hF,hn,.nil,hf]
 rintro i m ys H2 ⟨rfl,HX,F',aT,Ge,fp,s,K',L',Lz,hn,ry,hg⟩;have h0:Z.Ha l=none:=K.h0 hl;by_cases Cn:i<xs.length
 .rw[acf Cn]at hg;obtain⟨h1,h2⟩:=I1.go Z i U aT F' H2 xs[i] s K' (by simp[Cn]);refine .inr #[h1,λv H3 y=>?_];obtain⟨F2,s2,K2,r2,sH,nw⟩:=h2 v H3 y;have Nc  := L'.move s2 (λ_ c o _ e=>sH c o e) nw;have O9:F2 l=none:=by
   cases e:F2 l with
   |none=>rfl
   |some o=>
    rcases nw l (by rw[e];simp)with q|q
    .exact absurd Lz q
    .rw[HX]at q;cases q
  have JD:H3 l=some (.lst ys):=sH _ _ HX;have Kb:=jL hj K2 Nc;have OU:=bC (K:=X.K) hT v (BL js U) H3 _ (ng (M:=md ob X) (Q:=λsb H4=>H4=H3/\∃b1,tO (md ob X) (Zb js aT fp F2 H3) F2 sb H3 b1/\c b1 _) Kb r2 hg λe4 sb p4 K4=>#[rfl,e4,K4,p4]);have mono:∀(Q1 Q2:L2.St->Hp->Prop),(∀a b,Q1 a b->Q2 a b)->Hn X.K T v (BL js U) H3 Q1->Hn X.K T v (BL js U) H3 Q2:=by
   have Hy:∀(l:Aan),∀x U H (Q Q':L2.St->Hp->Prop),(∀a b,Q a b->Q' a b)->Fh l x U H Q->Fh l x U H Q':=by
    intro l;induction l with
    |nil=>exact λx U H Q Q' h q=>#[q.1,h _ _ q.2]
    |cons i l ih=>exact iq fw ih
   intro Q1 Q2 hq q;cases T with
   |nm i=>exact hq _ _ q
   |tp l=>obtain⟨a,xs,e1,e2,e3,e4⟩:=q;exact#[a,xs,e1,e2,e3,Hy l _ _ _ _ _ hq e4]
  refine mono _ _ ?_ OU;rintro sb H4 ⟨⟨rfl,b1,K4,p4⟩,hlen,BP⟩;refine#[_,F2,b1,_,K4,p4,λb b2 F5 H5 p5 s5 K5=>?_];have again:∀{F6 H6:Hp} {b3:En} {ys':Aai} {Ia:Aad},dO F2 F6->tO (md ob X) (Zb js aT fp F2 H4) F6 sb H6 b3->CD (Hs T) c f js P (xs.drop (i+1)) (Ce js aT b3) Ia->rW X.K F6 ys' Ia ->
    H6 l=some (.lst ys)/\(∃m',m'<xs.length - i/\m'=xs.length - (i+1)/\(upd H6 l (.lst ys')) l=some (.lst ys')/\∃F' aT Ge fp,dO F F'/\tO (md ob X) Z F' U (upd H6 l (.lst ys')) aT/\Slots (md ob X) Z F' U (upd H6 l (.lst ys')) aT fp/\F' l=none/\(∀i,l∉fp i)/\rW X.K F' ys' Ge/\CD (Hs T) c f js P (xs.drop (i+1)) aT Ge):=λ{F6 H6 b3 ys' Ia} s6 K6 p6 r6=>by
   obtain⟨IE,L6,Sq,G9⟩:=hZ hj K2 Nc K6 BP;have LZ:H6 l=some (.lst ys):=K6.sG l _ JD λz=>by obtain⟨_,j,_,_,_,hm⟩:=b9 z;exact hn j hm
   have Oo:F6 l=none:=by
    cases e:F6 l with
    |none=>rfl
    |some o=>
     rcases K6.nw l (by rw[e];simp)with q|q
     .exact absurd O9 q
     .exact absurd q (by show H4 l≠none;rw[JD];simp)
   have JC:∀i,l∉IE i:=λi h=>by
    rcases G9 i l h with ⟨i',q⟩|q
    .exact hn i' q
    .rw[JD]at q;cases q
   obtain⟨K7,L7⟩:=Sq.DG (o:=.lst ys') L6 Oo h0 JC;exact#[LZ,_,#[],rfl,ah,F6,_,_,IE,ag s (ag s2 s6),K7,L7,Oo,JC,r6,p6]
  cases b with
  |false=>
   refine FP ?_;obtain⟨U3,m',h1,h2,h3,F',aT,Ge,fp,q1,q2,q3,q4⟩:=again (ys':=ys) s5 K5 p5 ((ry.mono s2).mono s5);have e:upd H5 l (.lst ys)=H5:=by
    funext a;by_cases z:a=l
    .subst z;rw[ah,U3]
    .rw[af z]
   rw[e]at h3 q2 q3;exact#[m',h1,h2,h3,F',aT,Ge,fp,q1,q2,q3,q4]
  |true=>refine Gv #[_,F5,b2,_,K5,p5,λy b3 v6 F6 H6 p6 s6 K6 r6=>?_];obtain⟨LZ,q⟩:=again (ys':=ys++[v6]) (ag s5 s6) K6 p6.2 ((((ry.mono s2).mono s5).mono s6).app (.cons r6 .nil));refine#[LZ,?_,q];have:=p6.1;rw[ry.len,aaJ];omega
 .rw[acz #[]]at hg;refine .inl #[I1.stop Z i U aT F' H2 s K' #[],kk _ aT _ F' H2 hg s (λ_=>#[0]) ?_];refine K'.slots (by simp[K'.len]) (L'.push (l:=[l]) #[0] K'.len (.inr (.inl #[rfl,l,rfl,rfl,h0,ys,HX,ry])) (λa ha=>?_) λj a ha=>?_)
  .simp at ha;subst ha;exact#[by rw[HX];simp,Lz]
  .simp at ha;subst ha;exact hn j
def Be(hi:Hl ob X tg iter fi)(hg:∀C s0 Ha ex pn,PG (iN X scope N C s0 Ha ex pn) tg (Hn X.K T))(ht:∀C s0 Ha ex pn,OQ ob (iN X scope N C s0 Ha ex pn) ifs c)(he:∀C s0 Ha ex pn,BH ob (iN X scope N C s0 Ha ex pn) elt f)
  (hj:autoParam (FO js=true) oR) (hT:autoParam (CI js T=true) oR)
  (hc:autoParam (X.calm=true) oR) (hx:autoParam (X.xe=(λ_ _=>False)) oR) (Dq:autoParam (DI X.env scope=true) oR) (BP:autoParam (Cw X.N scope N js=true) oR) (BA:autoParam (scope.kind=.function) oR) (hs:autoParam (∀x,aaC iter X.env x=pure x) At) :
  GD ob X (.ListComp elt [#[tg,iter,ifs,0]] scope pos) (D8 fi T c f js):=by
 obtain⟨wi,Iu,k⟩:=hi.ex;refine#[_,AZ (tc:=NK (md ob X) c) (te:=JP (md ob X) f) Iu hg (λC s0 Ha ex pn=>(ht C s0 Ha ex pn).ex) (λC s0 Ha ex pn=>(he C s0 Ha ex pn).pe) (bC hT) hc hx Dq BP BA hs,λZ F U H env P Q K hf kk=>?_];exact k Z F U H env _ _ K hf λxs e1 J F1 H1 p s1 K1 I1 l hl=>qg hj hT K1 I1 p (λx e2 v F2 H2 p2 s2 MK K2=>kk x e2 v F2 H2 p2 (ag s1 s2) MK K2) l hl
def Gz(g:WG)(c:WT)(fk f:WE)(js:Aah)(P:Aal):Aad->En->List (Key×PV)->Prop
 |[],env,acc=>P (.Cd acc) env
 |x::xs,env,acc=>g x (EE js env) λb1=>c b1 λok b2=>if ok=true then fk b2 λkk b3=>f b3 λy b4=>acc.length<=100000/\opt (FN kk) λkey=>Gz g c fk f js P xs (Ce js env b4) (Gr acc key y)else Gz g c fk f js P xs (Ce js env b2) acc
def KS(fi:WA)(T:Jm)(c:WT)(fk f:WE)(js:Aah):WE:=λenv P=>fi env λxs e=>Gz (Hs T) c fk f js P xs e []
theorem qw{P:Aal}{Q:VK}{xs:Aad}(hj:FO js=true)(hT:CI js T=true)(K:tO (md ob X) Z F U H env)(I1:Fp (md ob X) J F xs)(hf:Gz (Hs T) c fk f js P xs env [])
  (kk:∀x aT v F' H',P x aT->dO F F'->(∀xs,x≠.set xs)->tO (md ob X) Z F' (U++[some v]) H' (aT++[some #[1,x]])->Q v H') (l:Addr) (hl:H l=none) :
  ∃W:Nat->Nat->List (Key×V)->Hp->Prop,(∃m,W 0 m [] (upd H l (.dK [])))/\∀i m ys H2,W i m ys H2 ->
  (J.stop i H2/\Q (.ref l) H2)\/(J.go i H2/\∀x H3,J.yld i H2 x H3->Hn X.K T x (BL js U) H3 λsb H4=>NK (md ob X) c sb H4 λb H5=>if b=true then JP (md ob X) fk sb H5 λkk H6=>JP (md ob X) f sb H6 λy H7=>∃key,kk=kV key/\H7 l=some (.dK ys)/\ys.length<sizeLine/\∃m',m'<m/\W (i+1) m' (putK ys key y) (upd H7 l (.dK (putK ys key y)))else ∃m',m'<m/\W (i+1) m' ys H5):=by
 refine#[λi m ys H'=>m=xs.length - i/\H' l=some (.dK ys)/\∃F' aT Ge fp,dO F F'/\tO (md ob X) Z F' U H' aT/\Slots (md ob X) Z F' U H' aT fp/\F' l=none/\(∀i,l∉fp i)/\Bo X.K F' ys Ge/\Gz (Hs T) c fk f js P (xs.drop i) aT Ge,?_,?_]
 .obtain⟨fp,L⟩:=K.sl;have hF:F l=none:=dO.none_of K.sF hl;have hn:∀i,l∉fp i:=λi h=>(L.al i l h).1 hl;obtain⟨K1,L1⟩:=K.DG (o:=.dK []) L hF (K.h0 hl) hn;exact#[_,rfl,ah,F,env,[],fp,aj,K1,L1,hF,hn,.nil,hf]
 rintro i m ys H2 ⟨rfl,HX,F',aT,Ge,fp,s,K',L',Lz,hn,ry,hg⟩;have h0:Z.Ha l=none:=K.h0 hl;by_cases Cn:i<xs.length
 .rw[acf Cn]at hg;obtain⟨h1,h2⟩:=I1.go Z i U aT F' H2 xs[i] s K' (by simp[Cn]);refine .inr #[h1,λv H3 y=>?_];obtain⟨F2,s2,K2,r2,sH,nw⟩:=h2 v H3 y;have Nc:Slots (md ob X) Z F2 U H3 aT fp:=L'.move s2 (λ_ c o _ e=>sH c o e) nw;have O9:F2 l=none:=by
   cases e:F2 l with
   |none=>rfl
   |some o=>
    rcases nw l (by rw[e];simp)with q|q
    .exact absurd Lz q
    .rw[HX]at q;cases q
  have JD:H3 l=some (.dK ys):=sH _ _ HX;have Kb:=jL hj K2 Nc;have OU:=bC (K:=X.K) hT v (BL js U) H3 _ (ng (M:=md ob X) (Q:=λsb H4=>H4=H3/\∃b1,tO (md ob X) (Zb js aT fp F2 H3) F2 sb H3 b1/\c b1 _) Kb r2 hg λe4 sb p4 K4=>#[rfl,e4,K4,p4]);have mono:∀(Q1 Q2:L2.St->Hp->Prop),(∀a b,Q1 a b->Q2 a b)->Hn X.K T v (BL js U) H3 Q1->Hn X.K T v (BL js U) H3 Q2:=by
   have Hy:∀(l:Aan),∀x U H (Q Q':L2.St->Hp->Prop),(∀a b,Q a b->Q' a b)->Fh l x U H Q->Fh l x U H Q':=by
    intro l;induction l with
    |nil=>exact λx U H Q Q' h q=>#[q.1,h _ _ q.2]
    |cons i l ih=>exact iq fw ih
   intro Q1 Q2 hq q;cases T with
   |nm i=>exact hq _ _ q
   |tp l=>obtain⟨a,xs,e1,e2,e3,e4⟩:=q;exact#[a,xs,e1,e2,e3,Hy l _ _ _ _ _ hq e4]
  refine mono _ _ ?_ OU;rintro sb H4 ⟨⟨rfl,b1,K4,p4⟩,hlen,BP⟩;refine#[_,F2,b1,_,K4,p4,λb b2 F5 H5 p5 s5 K5=>?_];have again:∀{F6 H6:Hp} {b3:En} {ys':List (Key×V)} {Ia:List (Key×PV)},dO F2 F6->tO (md ob X) (Zb js aT fp F2 H4) F6 sb H6 b3->Gz (Hs T) c fk f js P (xs.drop (i+1)) (Ce js aT b3) Ia->Bo X.K F6 ys' Ia ->
    H6 l=some (.dK ys)/\(∃m',m'<xs.length - i/\m'=xs.length - (i+1)/\(upd H6 l (.dK ys')) l=some (.dK ys')/\∃F' aT Ge fp,dO F F'/\tO (md ob X) Z F' U (upd H6 l (.dK ys')) aT/\Slots (md ob X) Z F' U (upd H6 l (.dK ys')) aT fp/\F' l=none/\(∀i,l∉fp i)/\Bo X.K F' ys' Ge/\Gz (Hs T) c fk f js P (xs.drop (i+1)) aT Ge):=λ{F6 H6 b3 ys' Ia} s6 K6 p6 r6=>by
   obtain⟨IE,L6,Sq,G9⟩:=hZ hj K2 Nc K6 BP;have LZ:H6 l=some (.dK ys):=K6.sG l _ JD λz=>by obtain⟨_,j,_,_,_,hm⟩:=b9 z;exact hn j hm
   have Oo:F6 l=none:=by
    cases e:F6 l with
    |none=>rfl
    |some o=>
     rcases K6.nw l (by rw[e];simp)with q|q
     .exact absurd O9 q
     .exact absurd q (by show H4 l≠none;rw[JD];simp)
   have JC:∀i,l∉IE i:=λi h=>by
    rcases G9 i l h with ⟨i',q⟩|q
    .exact hn i' q
    .rw[JD]at q;cases q
   obtain⟨K7,L7⟩:=Sq.DG (o:=.dK ys') L6 Oo h0 JC;exact#[LZ,_,#[],rfl,ah,F6,_,_,IE,ag s (ag s2 s6),K7,L7,Oo,JC,r6,p6]
  cases b with
  |false=>
   refine FP ?_;obtain⟨U3,m',h1,h2,h3,F',aT,Ge,fp,q1,q2,q3,q4⟩:=again (ys':=ys) s5 K5 p5 ((ry.mono s2).mono s5);have e:upd H5 l (.dK ys)=H5:=by
    funext a;by_cases z:a=l
    .subst z;rw[ah,U3]
    .rw[af z]
   rw[e]at h3 q2 q3;exact#[m',h1,h2,h3,F',aT,Ge,fp,q1,q2,q3,q4]
  |true=>refine Gv #[_,F5,b2,_,K5,p5,λkx b3 v6 F6 H6 p6 s6 K6 r6=>#[_,F6,b3,_,K6,p6,λy b4 v7 F7 H7 p7 s7 K7 r7=>?_]];obtain⟨p7,key,HD,p8⟩:=p7;have Wh:=ag s5 (ag s6 s7);obtain⟨LZ,q⟩:=again (ys':=putK ys key v7) Wh K7 p8 (((ry.mono s2).mono Wh).put r7);refine#[key,fu HD r6,LZ,?_,q];rw[ry.len,aaJ];omega
 .rw[acz #[]]at hg;refine .inl #[I1.stop Z i U aT F' H2 s K' #[],kk _ aT _ F' H2 hg s (λ_=>#[0]) ?_];refine K'.slots (by simp[K'.len]) (L'.push (l:=[l]) #[0] K'.len (.inr (.inl #[rfl,l,rfl,rfl,h0,ys,HX,ry])) (λa ha=>?_) λj a ha=>?_)
  .simp at ha;subst ha;exact#[by rw[HX];simp,Lz]
  .simp at ha;subst ha;exact hn j
def Bg(hi:Hl ob X tg iter fi)(hg:∀C s0 Ha ex pn,PG (iN X scope N C s0 Ha ex pn) tg (Hn X.K T))(ht:∀C s0 Ha ex pn,OQ ob (iN X scope N C s0 Ha ex pn) ifs c)(hk:∀C s0 Ha ex pn,BH ob (iN X scope N C s0 Ha ex pn) kx fk)(he:∀C s0 Ha ex pn,BH ob (iN X scope N C s0 Ha ex pn) vx f)
  (hj:autoParam (FO js=true) oR) (hT:autoParam (CI js T=true) oR)
  (hc:autoParam (X.calm=true) oR) (hx:autoParam (X.xe=(λ_ _=>False)) oR) (Dq:autoParam (DI X.env scope=true) oR) (BP:autoParam (Cw X.N scope N js=true) oR) (BA:autoParam (scope.kind=.function) oR) (hs:autoParam (∀x,aaC iter X.env x=pure x) At) :
  GD ob X (.DictComp kx vx [#[tg,iter,ifs,0]] scope pos) (KS fi T c fk f js):=by
 obtain⟨wi,Iu,k⟩:=hi.ex;refine#[_,A0 (tc:=NK (md ob X) c) (tk:=JP (md ob X) fk) (te:=JP (md ob X) f) Iu hg (λC s0 Ha ex pn=>(ht C s0 Ha ex pn).ex) (λC s0 Ha ex pn=>(hk C s0 Ha ex pn).pe) (λC s0 Ha ex pn=>(he C s0 Ha ex pn).pe) (bC hT) hc hx Dq BP BA hs,λZ F U H env P Q K hf kk=>?_];exact k Z F U H env _ _ K hf λxs e1 J F1 H1 p s1 K1 I1 l hl=>qw hj hT K1 I1 p (λx e2 v F2 H2 p2 s2 MK K2=>kk x e2 v F2 H2 p2 (ag s1 s2) MK K2) l hl
variable{B3:Pos}
def Bc(i:Nat){y:Str}(hN:X.N.Nodup)(hy:X.N[i]?=some y)(hl:X.env.scope.names.lookup y=some .local)(hi:Hl ob X tg iter fi)(hg:∀C s0 Ha ex pn,PG (iN X scope N C s0 Ha ex pn) tg (Hn X.K T))(ht:∀C s0 Ha ex pn,OQ ob (iN X scope N C s0 Ha ex pn) ifs c)(hk:∀C s0 Ha ex pn,BH ob (iN X scope N C s0 Ha ex pn) kx fk)(he:∀C s0 Ha ex pn,BH ob (iN X scope N C s0 Ha ex pn) vx f)
  (hj:autoParam (FO js=true) oR) (hT:autoParam (CI js T=true) oR)
  (Iw:autoParam (abU (.DictComp kx vx [#[tg,iter,ifs,0]] scope pos) (some (.Name y py)) B3.line X.env=pure true) oR)
  (hc:autoParam (X.calm=true) oR) (hx:autoParam (X.xe=(λ_ _=>False)) oR) (Dq:autoParam (DI X.env scope=true) oR) (BP:autoParam (Cw X.N scope N js=true) oR) (BA:autoParam (scope.kind=.function) oR) (hs:autoParam (∀x,aaC iter X.env x=pure x) At) :
  E6 ob X (.Assign [.Name y py] (.DictComp kx vx [#[tg,iter,ifs,0]] scope pos) B3) (CA i (KS fi T c fk f js)):=by
 obtain⟨wi,Iu,k⟩:=hi.ex;refine#[_,wz (tc:=NK (md ob X) c) (tk:=JP (md ob X) fk) (te:=JP (md ob X) f) hN hy hl Iu hg (λC s0 Ha ex pn=>(ht C s0 Ha ex pn).ex) (λC s0 Ha ex pn=>(hk C s0 Ha ex pn).pe) (λC s0 Ha ex pn=>(he C s0 Ha ex pn).pe) (bC hT) Iw hc hx Dq BP BA hs,λZ F U H env P D K hf L=>?_];refine k Z F U H env _ _ K hf λxs e1 J F1 H1 p s1 K1 I1 l hl=>?_;exact qw hj hT K1 I1 p (λx e2 v F2 H2 p2 s2 MK K2=>L.nx _ _ F2 H2 p2 (ag s1 s2) K2.take) l hl
abbrev LM:=List PV->List PV->Option (PV×Aad)
noncomputable def HJ(m:LM)(i:Nat)(fa:WA):WE:=λenv P=>(match env[i]? with|some (some #[1,.lst _])=>True|some (some #[3,.lst _])=>True|_=>False)/\fa env λxs e=>match e[i]? with
 |some (some #[1,.lst ys])=>opt (m ys xs) λr=>P r.1 (e.set i (some #[1,.lst r.2]))
 |some (some #[3,.lst ys])=>opt (m ys xs) λr=>P r.1 (e.set i (some #[3,.lst r.2]))
 |_=>False
def Pj(K:aaf)(r:V->List V->Hp->VK->Prop)(m:LM):Prop :=
 ∀(F H:Hp) (l:Addr) (ys vs:Aai) (ps xs:Aad) (z:PV) (NR:Aad) (Q:VK),dO F H->H l=some (.lst ys)->rW K F ys ps->rW K F vs xs->m ps xs=some (z,NR) ->
  (∀v ys',Rep K F v z->rW K F ys' NR->Q v (upd H l (.lst ys')))->r (.ref l) vs H Q
variable{c:Expr}{apos BQ:Pos}{name:Str}{r:V->List V->Hp->VK->Prop}{m:LM}
def tL{t:TA}{i:Nat}(hq:Pj X.K r m)(k:∀(Z:Zn) (F:Hp) (U:L2.St) (H:Hp) (env:En) (P:Aad->En->Prop) (Q:Aai->Hp->Prop),tO (md ob X) Z F U H env->fa env P->(∀xs aT vs F' H',P xs aT->xs.length=es.length->dO F F'->tO (md ob X) Z F' U H' aT->rW X.K F' vs xs->Q vs H')->t U H Q):
  ∀(Z:Zn) (F:Hp) (U:L2.St) (H:Hp) (env:En) (P:Aal) (Q:VK),tO (md ob X) Z F U H env->HJ m i fa env P->(∀x aT v F' H',P x aT->dO F F'->tO (md ob X) Z F' U H' aT->Rep X.K F' v x->Q v H')->V9 X.K "list" r (B2 i) t U H Q:=by
 intro Z F U H env P Q K hf kk;obtain⟨h0,hf⟩:=hf;obtain⟨a,hh,Qd,ha⟩:∃a,U[i]?=some (some (.ref a))/\∃vs,H a=some (.lst vs):=by
  split at h0
  .rename_i e;obtain⟨a,h1,vs,h2,_⟩:=K.ownAt (.inl rfl) e;exact#[a,h1,vs,h2]
  .rename_i e;obtain⟨a,h1,vs,h2,_⟩:=K.ownAt (.inr rfl) e;exact#[a,h1,vs,h2]
  .exact h0.elim
 refine#[_,hh,.inl #[rfl,Qd,.inl (.inl ha)],?_];refine k Z F U H env _ _ K hf λxs e1 vs F1 H1 p _ s1 K1 r1=>?_;have fin:∀(kd:Nat) (ys:Aad),kd=1\/kd=3->e1[i]?=some (some #[kd,.lst ys])->opt (m ys xs) (λr=>P r.1 (e1.set i (some #[kd,.lst r.2])))->r (.ref a) vs H1 Q:=λkd ys hk ei #[#[z,ys'],hm,p]=>by obtain⟨a',h1,ws,h2,h3⟩:=K1.ownAt hk ei;rw[hh]at h1;cases h1;refine hq F1 H1 a ws vs ys xs z ys' Q K1.sF h2 h3 r1 hm λv us rv ru=>?_;exact kk z _ v F1 _ p s1 (K1.write (o:=.lst us) hk ei hh #[us,ah,ru]) rv
 split at p
 .rename_i ei;exact fin _ _ (.inl rfl) ei p
 .rename_i ei;exact fin _ _ (.inr rfl) ei p
 .exact p.elim
def wD(i:Nat)(slot:Slot "list" name MJ)(Jz:typeOf (.builtin MJ)=pure (.type "method_descriptor"))(hm:Tu X MJ r)(hq:Pj X.K r m)(ho:PE X (.Name x p) (B2 i))(ha:GG ob X (e::es) fa)
  (Cb:autoParam (abS (.Name x p) name X.env (eval (.Name x p) X.env)=eval (.Name x p) X.env) oR)
  (FR:autoParam (((backTo BQ (aai (e::es) X.env)).all (λx=>!x.1) && (aew BQ (ado [] X.env)).all (λx=>x.1.isSome)
   && decide ((e::es).length+([]:List ade).length+(if ([]:List ade).isEmpty then 0 else 1)<30))=true) oR)
  (Ca:autoParam ((apos.endLine==BQ.line)=true) oR) (hs:autoParam (aai (e::es) X.env=(false,eval e X.env)::aai es X.env) oR) (Du:autoParam ((backTo BQ (aai es X.env)).any (·.1)=false) oR) :
  BH ob X (.Call (.Attribute (.Name x p) name apos) (e::es) [] BQ) (HJ m i fa):=by
 obtain⟨t,ht,k⟩:=ha.ex;exact#[_,qT acY slot Jz hm ho ht Cb FR Ca hs Du,tL hq k]
def Ao(i:Nat)(slot:Slot "list" name MJ)(Jz:typeOf (.builtin MJ)=pure (.type "method_descriptor"))(hm:Tu X MJ r)(hq:Pj X.K r m)(ho:PE X (.Name x p) (B2 i))
  (Cb:autoParam (abS (.Name x p) name X.env (eval (.Name x p) X.env)=eval (.Name x p) X.env) oR) (Ca:autoParam ((apos.endLine==BQ.line)=true) oR):BH ob X (.Call (.Attribute (.Name x p) name apos) [] [] BQ) (HJ m i bY):=by
 refine#[_,zf acY slot Jz hm ho Cb Ca,λZ F U H env P Q K hf kk=>?_];obtain⟨v,h1,h2,h3⟩:=tL (es:=[]) hq (λZ F U H env P Q K hf k=>k [] env [] F H hf rfl aj K .nil) Z F U H env P Q K hf kk;exact#[v,h1,h2,h3]
noncomputable def aW:LM:=λys xs=>match xs with
 |[x]=>if ys.length<=100000 then some (.Bw,ys++[x])else none
 |_=>none
theorem tD:Pj X.K pV aW:=by
 intro F H l ys vs ps xs z NR Q sF hl ry rx hm k;unfold aW at hm;split at hm
 .split at hm
  .cases hm;cases rx with
   |cons r1 r2=>cases r2;refine#[l,ys,_,rfl,rfl,hl,?_,k _ _ .Bw (ry.app (.cons r1 .nil))];rw[ry.len,aaJ];omega
  .cases hm
 .cases hm
noncomputable def LK:LM:=λys xs=>match xs with
 |[]=>(ys[ys.length - 1]?).map λy=>(y,ys.dropLast)
 |_=>none
def rW.dl{vs:Aai}{xs:Aad}(h:rW K F vs xs):rW K F vs.dropLast xs.dropLast:=by rw[List.dropLast_eq_take,List.dropLast_eq_take,h.len];exact h.take _
def zv:Pj X.K QE LK:=by
 intro F H l ys vs ps xs z NR Q sF hl ry rx hm k;unfold LK at hm;split at hm
 .rw[aax]at hm;obtain⟨y,hy,e⟩:=hm;cases e;cases rx;obtain⟨v,hv,rv⟩:=ry.get hy;exact#[l,ys,v,rfl,rfl,hl,by rw[ry.len];exact hv,k _ _ rv ry.dl]
 .cases hm
noncomputable def FK:LM:=λys xs=>match xs with
 |[.int i]=>if -1000000<=i/\i<=1000000 then (afg i ys.length).bind λk=>(ys[k]?).map λy=>(y,ys.eraseIdx k)else none
 |_=>none
theorem vm:Pj X.K Kh FK:=by
 intro F H l ys vs ps xs z NR Q sF hl ry rx hm k;unfold FK at hm;split at hm
 .split at hm
  .rw[Option.bind_eq_some_iff]at hm;obtain⟨j,hj,hm⟩:=hm;rw[aax]at hm;obtain⟨y,hy,e⟩:=hm;cases e;cases rx with
   |cons r1 r2=>cases r2;cases r1;obtain⟨v,hv,rv⟩:=ry.get hy;exact#[l,ys,_,j,v,rfl,rfl,hl,#[],#[],by rw[ry.len];exact hj,hv,k _ _ rv (ry.erase j)]
  .cases hm
 .cases hm
noncomputable def Hu:PV->PV->PV->Option PV
 |.lst xs,.int i,v=>(Kp xs.length i).map λj=>.lst (xs.set j v)
 |.Cd eQ,y,v=>if eQ.length<=100000 then (FN y).map λk=>.Cd (Gr eQ k v)else none
 |_,_,_=>none
noncomputable def NF(i:Nat)(fv fk:WE):WS:=λP env=>fv env λv e1=>(e1[i]?).join.isSome=true/\fk e1 λy e2=>match e2[i]? with
 |some (some #[1,x])=>opt (Hu x y v) λz=>P.nx (e2.set i (some #[1,z]))
 |some (some #[3,x])=>opt (Hu x y v) λz=>P.nx (e2.set i (some #[3,z]))
 |_=>False
variable{ke:Expr}
def Jc:Le:=λo i v H Q=>∃a H',o=.ref a/\Ml H a i v H'/\Q H'
def set_dict(hu:X.A.units+1<cLine):HR X Jc:=by intro pins s U H o i v ov iv u Q I ro ri rv h;obtain⟨a,H',rfl,g,q⟩:=h;cases ro;exact uk hu I g ri rv λs4 I4=>#[H',I4,q]
def HR.or{t u:Le}(h:HR X t)(h':HR X u):HR X (λo i v H Q=>t o i v H Q\/u o i v H Q):=by
 intro pins s U H o i v ov iv w Q I ro ri rv q;rcases q with q|q
 .exact h pins s U H o i v ov iv w Q I ro ri rv q
 .exact h' pins s U H o i v ov iv w Q I ro ri rv q
theorem zY(i:Nat)(hu:X.A.units+1<cLine)(hv:BH ob X e f)(ho:PE X (.Name x p) (B2 i))(hk:BH ob X ke fk)
  (hs:autoParam (adR [.Subscript (.Name x p) ke pos] e B3.line X.env=pure false) oR) (hw:autoParam (adS [.Subscript (.Name x p) ke pos] e X.env=pure none) oR)
  (h1:autoParam ((act [.Subscript (.Name x p) ke pos] X.env).map (·.2)=[assign (.Subscript (.Name x p) ke pos) X.env]) oR)
  (ha:autoParam (∀v,assign (.Subscript (.Name x p) ke pos) X.env v=(do
   let ov <- adp [v] (eval (.Name x p) X.env);let iv <- adp [v,ov] (eval ke X.env)
   aff pos
   adp [v,ov,iv] (setItem ov iv v)
   release [v,ov,iv] [])) At):E6 ob X (.Assign [.Subscript (.Name x p) ke pos] e B3) (NF i f fk):=by
 obtain⟨t,ht,k⟩:=hv.ex;obtain⟨t2,LR,k2⟩:=hk.ex;refine#[_,gW ht (j4 ho LR (HR.or uO (set_dict hu)) ha) hs hw h1,λZ F U H env P D K hf L=>k Z F U H env _ _ K hf λv e1 v' F1 H1 p s1 K1 r1=>?_];obtain⟨h0,p⟩:=p;obtain⟨w,hw⟩:∃v,U[i]?=some (some v):=by
  cases e:e1[i]? with
  |none=>rw[e]at h0;cases h0
  |some w=>
   cases w with
   |none=>rw[e]at h0;cases h0
   |some s=>obtain⟨fp,L⟩:=K1.sl;obtain⟨v,hv,_⟩:=L.at' i s e;exact#[v,hv]
 refine#[w,hw,k2 Z F1 U H1 e1 _ _ K1 p λy e2 y' F2 H2 p2 s2 K2 r2=>?_];have fin:∀(kd:Nat) (x:PV),kd=1\/kd=3->e2[i]?=some (some #[kd,x])->opt (Hu x y v) (λz=>P.nx (e2.set i (some #[kd,z])))->(Mw w y' v' H2 λH3=>D.nx U H3)\/Jc w y' v' H2 λH3=>D.nx U H3:=λkd x hk ei #[z,hz,p]=>by
  obtain⟨a,h1,hx⟩:=K2.ownAt hk ei;rw[hw]at h1;cases h1;have Wn:=r1.mono s2;unfold Hu at hz;split at hz
  .rw[aax]at hz;obtain⟨j,hj,rfl⟩:=hz;obtain⟨vs,h2,h3⟩:=hx;cases r2;exact .inl #[a,vs,_,j,rfl,rfl,h2,by rw[h3.len];exact hj,L.nx _ _ F2 _ p (ag s1 s2) (K2.write (o:=.lst (vs.set j v')) hk ei hw #[_,ah,h3.TX j Wn])]
  .split at hz
   .rw[aax]at hz;obtain⟨j,hj,rfl⟩:=hz;obtain⟨vs,h2,h3⟩:=hx;have hy:=fu hj r2;subst hy;exact .inr #[a,_,rfl,Yn h2 (by rw[h3.len,aaJ];omega),L.nx _ _ F2 _ p (ag s1 s2) (K2.write (o:=.dK (putK vs j v')) hk ei hw #[_,ah,h3.put Wn])]
   .cases hz
  .cases hz
 split at p2
 .rename_i ei;exact fin _ _ (.inl rfl) ei p2
 .rename_i ei;exact fin _ _ (.inr rfl) ei p2
 .exact p2.elim
abbrev Fd:=List PV->(PV->Prop)->Prop
def Nw(M:Md)(n:Nat)(D:Fd):Sp:=λvs H Q _=>∃(F:Hp) (xs:Aad) (P:Aap),dO F H/\rW M.K F vs xs/\xs.length=n/\D xs P /\
 ∀r v F' H',P r->dO H H'->dO F F'->dO F' H'->(∀a,F' a≠none->F a≠none\/H a=none)->Rep M.K F' v r->Q v H'
noncomputable def Cf(n:Nat)(xs:Aad):En:=xs.map (λx=>some #[0,x])++aaO (n - xs.length) none
def R0(P:Aap):Wd:={nx:=λ_=>P .Bw,rt:=λx _=>P x}
def run(n:Nat)(u:WS):Fd:=λxs P=>u (R0 P) (Cf n xs)
abbrev Eu:=PV->List PV->(PV->PV->Prop)->Prop
def Li(M:Md)(n:Nat)(D:Eu):Sp:=λvs H Q _=>∃(F:Hp) (a:Addr) (l:Aaj) (c:PV) (ws:Aai) (xs:Aad) (P:Aaq),vs=.ref a::ws/\dO F H/\rW M.K F ws xs/\xs.length+1=n /\
 M.ob.P F H a l c/\(∀b∈l,H b≠none/\F b=none)/\D c xs P /\
 ∀r c' v F' H' l',P r c'->(∀b o,H b=some o->b∉l->H' b=some o)->(∀b,H b≠none->H' b≠none)->dO F F'->dO F' H'->(∀a,F' a≠none->F a≠none\/H a=none)->M.ob.P F' H' a l' c'->(∀b∈l',H' b≠none/\F' b=none)->(∀b∈l',b∈l\/H b=none)->Rep M.K F' v r->Q v H'
noncomputable def ME(P:Aap)(e:En):Prop:=match e[(0:Nat)]? with
 |some (some #[2,c])=>P c
 |_=>False
def Ma(P:Aaq):Wd:={nx:=λe=>ME (P .Bw) e,rt:=λx e=>ME (P x) e}
def Im(n:Nat)(u:WS):Eu:=λc xs P=>u (Ma P) (some #[2,c]::Cf (n - 1) xs)
theorem gH{vs:Aai}(h:vs.length<=N.length):(start N vs).length=N.length:=by unfold L2.start;rw[aav,aac,abg];omega
theorem fM{xs:Aad}(h:xs.length<=n):(Cf n xs).length=n:=by unfold Cf;rw[aav,aac,abg];omega
def fN{xs:Aad}{i:Nat}{s:Sl}(h:(Cf n xs)[i]?=some (some s)):∃x,xs[i]?=some x/\s=#[0,x]:=by
 unfold Cf at h;rcases aaQ i xs.length with q|q
 .rw[aat #[1],aal,aab q]at h;exact#[_,#[1],(aar (aar h)).symm]
 .rw[adz #[1],List.getElem?_replicate]at h;split at h<;>cases h
def cA{vs:Aai}{i:Nat}{v:V}(h:vs[i]?=some v):(start N vs)[i]?=some (some v):=by
 unfold L2.start;have q:i<vs.length:=by
  rcases aaQ i vs.length with q|q
  .exact q
  .rw[aao q]at h;cases h
 rw[aat #[1],aal,h];rfl
def gI{vs:Aai}{xs:Aad}(sF:dO F H)(r:rW M.K F vs xs)(hl:xs.length<=N.length):tO M #[H,F,[],λ_=>none,λ_ h=>by simp at h] F (start N vs) H (Cf N.length xs):=by
 have HC:vs.length<=N.length:=by rw[r.len];exact hl
 refine#[sF,λb o h _=>h,λb h=>h,aj,λa h=>.inl h,by rw[fM hl,gH HC],λ_=>[],λi s h=>?_,λi a h=>#[1],λi j a _ h=>#[1],λi a s h=>by cases h];obtain⟨x,hx,rfl⟩:=fN h;obtain⟨v,hv,rv⟩:=r.get hx;exact#[v,cA hv,.inl #[rfl,rfl,rv]]
theorem jW{xs:Aad}{a:Addr}{l:Aaj}{c:PV}(sF:dO F H)(r:rW M.K F ws xs)(hl:xs.length+1<=N.length)(ho:M.ob.P F H a l c)(hb:∀b∈l,H b≠none/\F b=none):
  tO M #[H,F,l,λi=>if i=0 then some a else none,λb h=>(hb b h).1] F (start N (.ref a::ws)) H (some #[2,c]::Cf (N.length - 1) xs):=by
 have HC:ws.length+1<=N.length:=by rw[r.len];exact hl
 refine#[sF,λb o h _=>h,λb h=>h,aj,λa h=>.inl h,?_,λi=>if i=0 then l else [],λi s h=>?_,λi b h=>?_,λi j b Ew h z=>?_,λi b s h _ _=>?_]
 .rw[aaG,fM #[],gH #[]];omega
 .cases i with
  |zero=>
   have h  :=by simpa using h.symm
   subst h;exact#[.ref a,cA rfl,.inr (.inr (.inl #[.inl rfl,a,rfl,λc hc=>.inl hc,ho]))]
  |succ i=>obtain⟨x,hx,rfl⟩:=fN h;obtain⟨v,hv,rv⟩:=r.get hx;exact#[v,cA #[1],.inl #[rfl,rfl,rv]]
 .split at h
  .exact hb b h
  .simp at h
 .split at h
  .split at z
   .rename_i h1 h2;exact Ew (h1.trans h2.symm)
   .simp at z
  .simp at h
 .dsimp only at h;split at h
  .rename_i e;subst e;cases h;exact cA rfl
  .cases h
variable{P:aaD}{w:World}{mg:Aag}{base:Heap}
variable{qual:Str}{fd:abM}{ps:Aaa}
theorem aI{f:Addr}{k:Nat}(F:H0 K x qual st f fd)(S:ap N ps (ak st))(hn:ps.length<=N.length)
  (hb:∀(BI:Value) (A:Around) (outer:List Env) (s:Shared) (H:Hp) (E:XK),BS k (A.deeper (envOfC qual (ak st) s.heap.objs.size f BI))->EG ob (E3 Cu P w K mg base N qual (ak st) f BI A outer s H E).JQ (aP st) u) :
  BD P w K mg base Cu (k+1) f fd ps (Nw #[P,w,K,ob] ps.length (run N.length u)):=by
 refine F.ok S (λvs H Q E h=>?_) (λBI A outer s H vs Q E hr h=>?_)
 .obtain⟨F,xs,P,_,r,hl,_⟩:=h;rw[r.len];exact hl
 .obtain⟨F,xs,P',sF,r,hl,hD,kk⟩:=h;obtain⟨t,ht,kt⟩:=(hb BI A outer s H E hr).ex;refine#[t,ht,kt _ F _ H _ _ _ (gI sF r #[]) hD #[λenv U F' H' p s1 K1=>?_,λx env v U F' H' p s1 K1 rv=>?_,λ_ _ _ _ p=>p.elim,λ_ _ _ _ p=>p.elim,λ_ _ _ _ _ _ p=>p.elim,λ_ _ _ _ _ _ _ p=>p.elim]]
  .exact kk .Bw .Bw F' H' p (λb o h=>K1.sG b o h #[0]) s1 K1.sF K1.nw .Bw
  .exact kk x v F' H' p (λb o h=>K1.sG b o h #[0]) s1 K1.sF K1.nw rv
theorem g6{f:Addr}{k:Nat}(F:H0 K x qual st f fd)(S:ap N ps (ak st))(hn:ps.length<=N.length)
  (hb:∀(BI:Value) (A:Around) (outer:List Env) (s:Shared) (H:Hp) (E:XK),BS k (A.deeper (envOfC qual (ak st) s.heap.objs.size f BI))->EG ob (E3 Cu P w K mg base N qual (ak st) f BI A outer s H E).JQ (aP st) u) :
  BD P w K mg base Cu (k+1) f fd ps (Li #[P,w,K,ob] ps.length (Im N.length u)):=by
 refine F.ok S (λvs H Q E h=>?_) (λBI A outer s H vs Q E hr h=>?_)
 .obtain⟨F,a,l,c,ws,xs,P,rfl,_,r,hl,_⟩:=h;rw[aaG,r.len];exact hl
 .obtain⟨F,a,l,c,ws,xs,P',rfl,sF,r,hl,ho,HZ,hD,kk⟩:=h;obtain⟨t,ht,kt⟩:=(hb BI A outer s H E hr).ex;have fin:∀(x:PV) (env:En) (v:V) (U:L2.St) (F' H':Hp),ME (P' x) env->dO F F'->tO #[P,w,K,ob] #[H,F,l,λi=>if i=0 then some a else none,λb h=>(HZ b h).1] F' U H' env->Rep K F' v x->Q v H':=λx env v U F' H' p s1 K1 rv=>by
   unfold ME at p;split at p
   .rename_i c' e;obtain⟨fp,L⟩:=K1.sl;obtain⟨v0,Fs,ok⟩:=L.at' 0 _ e;have hh:=L.oa 0 a _ rfl e rfl;rw[hh]at Fs;cases Fs;rcases ok with ⟨k0,_⟩|⟨k0,_⟩|⟨_,a',e',h1,h2⟩|⟨k0,_⟩
    .cases k0
    .cases k0
    .cases e';exact kk x _ v F' H' (fp 0) p (λb o h1 h2=>K1.sG b o h1 h2) (λb h=>K1.pr b h) s1 K1.sF K1.nw h2 (λb hb=>L.al 0 b hb) (λb hb=>h1 b hb) rv
    .cases k0
   .exact p.elim
  refine#[t,ht,kt #[H,F,l,λi=>if i=0 then some a else none,λb h=>(HZ b h).1] F (start N (.ref a::ws)) H (some #[2,c]::Cf (N.length - 1) xs) (Ma P') _ (jW (M:=#[P,w,K,ob]) sF r #[] ho HZ) hD #[λenv U F' H' p s1 K1=>?_,λx env v U F' H' p s1 K1 rv=>?_,λ_ _ _ _ p=>p.elim,λ_ _ _ _ p=>p.elim,λ_ _ _ _ _ _ p=>p.elim,λ_ _ _ _ _ _ _ p=>p.elim]]
  .exact fin .Bw env .Bw U F' H' p s1 K1 .Bw
  .exact fin x env v U F' H' p s1 K1 rv
def Br(D:Fd)(fa:WA):WE:=λenv P=>fa env λxs e=>D xs λr=>P r e
noncomputable def Bq(D:Eu)(i:Nat)(fa:WA):WE:=λenv P=>(env[i]?).join.isSome=true/\fa env λxs e=>match e[i]? with
 |some (some #[2,c])=>D c xs λr c'=>P r (e.set i (some #[2,c']))
 |some (some #[4,c])=>D c xs λr c'=>P r (e.set i (some #[4,c']))
 |_=>False
variable{k:Nat}{C6:Addr}{D:Fd}{DO:Eu}{p1:Pos}
def yl(F:BD X.prog X.w X.K X.mg X.base Cu k C6 fd ps (Nw (md ob X) n D))(hr:BS k X.A)(hm:X.mg x=some (.ref C6))(hk:abN X.K (.ref C6)=true)(hb:Binds X.K fd ps [])(ha:GG ob X (e::es) fa)(hn:autoParam (es.length+1=n) oR)(hg:autoParam (Gl X x) oR)
  (D7:autoParam ((x==("__debug__" : Str))=false) on) (he:autoParam (aai (e::es) X.env=(false,eval e X.env)::aai es X.env) oR) (CM:autoParam ((backTo pos (aai es X.env)).any (·.1)=false) oR) :
  BH ob X (.Call (.Name x p) (e::es) [] pos) (Br D fa):=by
 obtain⟨t,ht,kt⟩:=ha.ex;refine#[_,cW F hr hg hm hk hb .nil GI ht D7 he CM,λZ F U H env P Q K hf kk=>kt Z F U H env _ _ K hf λxs e1 vs F1 H1 p hl s1 K1 r1=>?_];rw[aa9];refine#[F1,xs,_,K1.sF,r1,#[1],p,λr v F' H' pr sH sF Ka nw rv=>?_];exact kk r e1 v F' H' pr (ag s1 sF) (K1.move sF Ka sH nw) rv
def tO.Kj{i kd:Nat}{a:Addr}{c c':PV}{l':Aaj}(hk:kd=2\/kd=4)(K:tO M Z F U H env)(L:Slots M Z F U H env fp)(hi:env[i]?=some (some #[kd,c]))(hv:U[i]?=some (some (.ref a)))
  (kp:∀b o,H b=some o->b∉fp i->H' b=some o) (pr:∀b,H b≠none->H' b≠none) (sF:dO F F') (Ka:dO F' H') (nw:∀a,F' a≠none->F a≠none\/H a=none) (ho:M.ob.P F' H' a l' c') (hl:∀b∈l',H' b≠none/\F' b=none) (hn:∀b∈l',b∈fp i\/H b=none) :
  tO M Z F' U H' (env.set i (some #[kd,c']))/\Slots M Z F' U H' (env.set i (some #[kd,c'])) (λj=>if j=i then l' else fp j):=by
 obtain⟨v0,Fs,Ue⟩:=L.at' i _ hi;have wr:=Ue.wr;have XE:∀b∈l',b∈Z.S\/Z.Ha b=none:=λb hb=>by
  rcases hn b hb with q|q
  .exact wr b q
  .exact .inr (K.h0 q)
 have Cn:i<env.length:=by
  rcases aaQ i env.length with q|q
  .exact q
  .rw[aao q]at hi;cases hi
 suffices S:Slots M Z F' U H' (env.set i (some #[kd,c'])) (λj=>if j=i then l' else fp j)from #[#[Ka,λb o h1 h2=>kp b o (K.sG b o h1 h2) λz=>(wr b z).elim h2 λq=>(by rw[q]at h1;cases h1),λb h=>pr b (K.pr b h),ag K.gr sF,λa h=>(nw a h).elim (K.nw a) λq=>.inr (K.h0 q),by simp[K.len],_,S],S]
 refine#[λj s e=>?_,λj b h=>?_,λj j2 b O5 h z=>?_,λj b s e1 e2 e3=>?_]
 .by_cases q:j=i
  .subst q;rw[abt]at e;simp only[if_true,Cn]at e;cases e;exact#[_,hv,by rw[if_pos rfl];exact .inr (.inr (.inl #[hk,a,rfl,XE,ho]))]
  .rw[aaw (abE q)]at e;obtain⟨v,h1,h2⟩:=L.at' j s e;have h3:=h2.mono (H':=H') sF λc hc=>by obtain⟨o,ho⟩:=bK (L.al j c hc).1;rw[ho];exact kp c o ho (L.dj j i c q hc)
   exact#[v,h1,by rw[if_neg q];exact h3]
 .by_cases q:j=i
  .rw[if_pos q]at h;exact hl b h
  .rw[if_neg q]at h;have:=L.al j b h;refine#[pr b this.1,?_];cases e:F' b with
   |none=>rfl
   |some o=>
    rcases nw b (by rw[e];simp)with y|y
    .exact absurd this.2 y
    .exact absurd y this.1
 .have Q5:∀j,j≠i->b∈l'->b∈fp j->False:=λj hj m1 m2=>by
   rcases hn b m1 with y|y
   .exact L.dj j i b hj m2 y
   .exact(L.al j b m2).1 y
  by_cases q:j=i
  .rw[if_pos q]at h;rw[if_neg (λy=>O5 (q.trans y.symm))]at z;exact Q5 j2 (λy=>O5 (q.trans y.symm)) h z
  .rw[if_neg q]at h;by_cases q2:j2=i
   .rw[if_pos q2]at z;exact Q5 j q z h
   .rw[if_neg q2]at z;exact L.dj j j2 b O5 h z
 .by_cases q:j=i
  .subst q;rw[abt]at e2;simp only[if_true,Cn]at e2;cases e2;exact L.oa j b _ e1 hi e3
  .rw[aaw (abE q)]at e2;exact L.oa j b s e1 e2 e3
def vV(i:Nat){y:Str}(F:BD X.prog X.w X.K X.mg X.base Cu k C6 fd ps (Li (md ob X) n DO))(hr:BS k X.A)(hm:X.mg x=some (.ref C6))(hk:abN X.K (.ref C6)=true)(hb:Binds X.K fd ps [])(ho:PE X (.Name y p1) (B2 i))(ha:GG ob X es fa)(hn:autoParam (es.length+1=n) oR)(hg:autoParam (Gl X x) oR)
  (D7:autoParam ((x==("__debug__" : Str))=false) on) (he:autoParam (aai (.Name y p1::es) X.env=(false,eval (.Name y p1) X.env)::aai es X.env) oR) (CM:autoParam ((backTo pos (aai es X.env)).any (·.1)=false) oR) :
  BH ob X (.Call (.Name x p) (.Name y p1::es) [] pos) (Bq DO i fa):=by
 obtain⟨t,ht,kt⟩:=ha.ex;refine#[_,cW (E:=E0) F hr hg hm hk hb .nil GI (aD ho ht he) D7 he CM,λZ F U H env P Q K hf kk=>?_];obtain⟨h0,hf⟩:=hf;obtain⟨w,hw⟩:∃v,U[i]?=some (some v):=by
  cases e:env[i]? with
  |none=>rw[e]at h0;cases h0
  |some w=>
   cases w with
   |none=>rw[e]at h0;cases h0
   |some s=>obtain⟨fp,L⟩:=K.sl;obtain⟨v,hv,_⟩:=L.at' i s e;exact#[v,hv]
 refine#[w,hw,kt Z F U H env _ _ K hf λxs e1 vs F1 H1 p hl s1 K1 r1=>?_];show Li (md ob X) n DO ((w::vs)++[]) H1 Q E0;rw[aa9];have fin:∀(kd:Nat) (c:PV),kd=2\/kd=4->e1[i]?=some (some #[kd,c])->DO c xs (λr c'=>P r (e1.set i (some #[kd,c'])))->Li (md ob X) n DO (w::vs) H1 Q E0:=λkd c IA ei p=>by
  obtain⟨fp,L⟩:=K1.sl;obtain⟨v0,Fs,ok⟩:=L.at' i _ ei;rw[hw]at Fs;cases Fs;rcases ok with ⟨k0,_⟩|⟨k0,_⟩|⟨_,a,rfl,_,ho⟩|⟨k0,_⟩
  .rcases IA with rfl|rfl<;>cases k0
  .rcases IA with rfl|rfl<;>cases k0
  .refine#[F1,a,fp i,c,vs,xs,_,rfl,K1.sF,r1,by rw[hl];exact hn,ho,λb hb=>L.al i b hb,p,λr c' v F' H' l' pr kp pre sF Ka nw EI HC Ji rv=>?_];exact kk r _ v F' H' pr (ag s1 sF) (K1.Kj IA L ei hw kp pre sF Ka nw EI HC Ji).1 rv
  .rcases IA with rfl|rfl<;>cases k0
 split at p
 .rename_i ei;exact fin _ _ (.inl rfl) ei p
 .rename_i ei;exact fin _ _ (.inr rfl) ei p
 .exact p.elim
def az{D':Fd}(F:BD P w K mg base Cu k C6 fd ps (Nw #[P,w,K,ob] n D))(h:∀xs P,D' xs P->D xs P):BD P w K mg base Cu k C6 fd ps (Nw #[P,w,K,ob] n D') :=
 F.imp λvs H Q E #[F,xs,P,a,b,c,d,e]=>#[F,xs,P,a,b,c,h _ _ d,e]
variable{D':Eu}
def fF{D:Eu}(F:BD P w K mg base Cu k C6 fd ps (Li #[P,w,K,ob] n D))(h:∀c xs P,D' c xs P->D c xs P):BD P w K mg base Cu k C6 fd ps (Li #[P,w,K,ob] n D') :=
 F.imp λvs H Q E q=>by obtain⟨F,a,l,c,ws,xs,P,a1,a2,a3,a4,a5,a6,a7,a8⟩:=q;exact#[F,a,l,c,ws,xs,P,a1,a2,a3,a4,a5,a6,h _ _ _ a7,a8]
theorem HB(r:BS k A):A.units+1<cLine:=by have:=r.un;omega
theorem Dj(r:BS k A):A.units<cLine:=by have:=r.un;omega
theorem LQ(r:BS k A):A.units+60<cLine:=by have:=r.un;omega
theorem N4(r:BS k A):A.units+62<cLine:=by have:=r.un;omega
noncomputable def Nl:PV->Option String
 |.Bw=>some "NoneType"
 |.bl _=>some "bool"
 |.int _=>some "int"
 |.str _=>some "str"
 |.tup _=>some "tuple"
 |.lst _=>some "list"
 |.Cd _=>some "dict"
 |_=>none
noncomputable def Jy(T c:String):Bool:=T==c || (T == "bool" && c == "int")
noncomputable def Ks(c:String)(x:PV):Aaw:=(Nl x).map λT=>.bl (Jy T c)
def IP(c:String)(a:WE):WE:=Xr (Ks c) a
def zB{x:PV}{T:String}(h:Nl x=some T)(c:String)(hc:c = "str" \/ c = "tuple" \/ c = "int" \/ c = "bool" \/ c = "list" \/ c = "dict"):aek K (.type T) (.type c)=some (Jy T c):=by cases x<;>cases h<;>rcases hc with rfl|rfl|rfl|rfl|rfl|rfl<;>rfl
def My(K:aaf)(cl:String):Aai->Hp->VK->Prop:=λxs H Q=>QM K xs H Q\/∃p vs,xs=[.ref p,.ty cl]/\C3 K H p vs/\aek K (.type "tuple") (.type cl)=some (Jy "tuple" cl)/\Q (.bl (Jy "tuple" cl)) H
def AL{cl:String}:BM X (.builtin "isinstance") (My X.K cl):=by
 refine BM.or wm ?_;intro pins s U H xs us Q I r h;obtain⟨p,vs,rfl,hp,hk,q⟩:=h;cases r with
 |cons r1 r2=>
  cases r2 with
  |cons r2 r3=>cases r3;cases r2;cases r1;obtain⟨gE,_,⟨o,h1,h2,_⟩,_⟩:=I.tuple hp;exact abH PySem.W.kitx_tuple I.G8 #[o,h1,h2] hk (λz=>nomatch z) λtk=>#[.bl _,H,I.tok tk,rfl,q]
def ue(cl:String){T:Str}(hc:cl = "str" \/ cl = "tuple" \/ cl = "int" \/ cl = "bool" \/ cl = "list" \/ cl = "dict")(hm:X.mg "isinstance" = none)(hT:X.mg T=none)(hb:acn T=some (.type cl))(ha:Gh ob X a f)(hg:autoParam (Gl X "isinstance") oR)(Y5:autoParam (Gl X T) oR)(hn:autoParam (T ≠ "__name__") on)(D7:autoParam ((T==("__debug__" : Str))=false) on)
  (he:autoParam (aai [a,.Name T p1] X.env=(false,eval a X.env)::aai [.Name T p1] X.env) oR) (Va:autoParam (aai [.Name T p1] X.env=(false,eval (.Name T p1) X.env)::aai [] X.env) oR) (CM:autoParam ((backTo pos (aai [.Name T p1] X.env)).any (·.1)=false) oR) :
  BH ob X (.Call (.Name "isinstance" p) [a,.Name T p1] [] pos) (IP cl f):=by
 obtain⟨t,ht,k⟩:=ha.ex;refine#[_,bB (AL (cl:=cl)) hg hm boot_isinstance (aD ht (aD (xh (v:=.ty cl) Y5 hT hb rfl hn D7) aN Va) he) #[2] #[2] he CM,λZ F U H env P Q K hf kk=>k Z F U H env _ _ K hf λx e1 v F1 H1 p s1 K1 r1=>?_];obtain⟨z,hz,p⟩:=p;unfold Ks at hz;rw[aax]at hz;obtain⟨T',Ti,rfl⟩:=hz;have fin:∀w,Rep X.K F1 w (.bl (Jy T' cl))->Q w H1:=λw r=>kk _ e1 _ F1 H1 p s1 K1 r;have q:=fin _ (.bl _);have kt:=zB (K:=X.K) Ti cl hc;show My X.K cl [v,.ty cl] H1 Q;cases x<;>cases Ti
 .rw[r1.Bw];exact .inl #[_,_,_,_,rfl,.Bw,kt,q]
 .rw[r1.bl];exact .inl #[_,_,_,_,rfl,.bl _,kt,q]
 .rw[r1.int];exact .inl #[_,_,_,_,rfl,.int _,kt,q]
 .rw[r1.str];exact .inl #[_,_,_,_,rfl,.str _,kt,q]
 .obtain⟨q',vs,rfl,h1,h2⟩:=r1.tup K1.sF;exact .inr #[q',vs,rfl,h1,kt,q]
 .obtain⟨q',vs,rfl,h1,h2⟩:=r1.lst K1.sF;exact .inl #[_,_,_,_,rfl,.lst h1,kt,q]
 .obtain⟨q',vs,rfl,h1,h2⟩:=r1.Cd K1.sF;exact .inl #[_,_,_,_,rfl,.dK h1,kt,q]
def E2(o o':PV->PV->Option PV)(fa fb fc:WE):WE:=λenv P=>fa env λx e1=>fb e1 λy e2=>opt (o x y) λz=>opt (GB z) λk=>if k=true then fc e2 λw e3=>opt (o' y w) λz'=>P z' e3 else P (.bl false) e2
def yj(hm:∃t,X.mg x=some (.int i t))(hg:autoParam (Gl X x) oR)(hd:autoParam ((x==("__debug__" : Str))=false) on):BH ob X (.Name x pos) (eC (.int i)):=by obtain⟨t,hm⟩:=hm;exact dF (xf (v:=.int i) hg hm #[t,rfl] hd) λ_=>.int i
variable{o':PV->PV->Option PV}{tb:TE}
def mE{o:PV->PV->Option PV}{r:R2}{ta tc:TE}(hq:Ff ob X r o)(LV:Ff ob X r' o')
  (ka:∀(Z:Zn) (F:Hp) (U:L2.St) (H:Hp) (env:En) (P:Aal) (Q:VK),tO (md ob X) Z F U H env->f env P->(∀x aT v F' H',P x aT->dO F F'->tO (md ob X) Z F' U H' aT->Rep X.K F' v x->Q v H')->ta U H Q)
  (kb:∀(Z:Zn) (F:Hp) (U:L2.St) (H:Hp) (env:En) (P:Aal) (Q:VK),tO (md ob X) Z F U H env->g env P->(∀x aT v F' H',P x aT->dO F F'->tO (md ob X) Z F' U H' aT->Rep X.K F' v x->Q v H')->tb U H Q)
  (kc:∀(Z:Zn) (F:Hp) (U:L2.St) (H:Hp) (env:En) (P:Aal) (Q:VK),tO (md ob X) Z F U H env->h env P->(∀x aT v F' H',P x aT->dO F F'->tO (md ob X) Z F' U H' aT->Rep X.K F' v x->Q v H')->tc U H Q) :
  ∀(Z:Zn) (F:Hp) (U:L2.St) (H:Hp) (env:En) (P:Aal) (Q:VK),tO (md ob X) Z F U H env->E2 o o' f g h env P->(∀x aT v F' H',P x aT->dO F F'->tO (md ob X) Z F' U H' aT->Rep X.K F' v x->Q v H')->Ie r r' ta tb tc U H Q:=by
 refine λZ F U H env P Q K hf kk=>ka Z F U H env _ _ K hf λx e1 v F1 H1 p s1 K1 r1=>kb Z F1 U H1 e1 _ _ K1 p λy e2 u F2 H2 p2 s2 K2 r2=>?_;obtain⟨z,hz,k,hk,p2⟩:=p2;refine hq Z F2 U H2 e2 v u x y z _ K2 (.inl (r1.mono s2)) (.inl r2) hz λv' F3 H3 s3 K3 r3=>?_;obtain⟨rfl,rfl⟩:=qB r3 hk;refine#[k,rfl,?_];cases k with
 |true=>refine Gv (kc Z F3 U H3 e2 _ _ K3 p2 λw e4 w' F4 H4 p4 s4 K4 r4=>?_);obtain⟨z',Yu,p4⟩:=p4;exact LV Z F4 U H4 e4 u w' y w z' Q K4 (.inl ((r2.mono s3).mono s4)) (.inl r4) Yu λv5 F5 H5 s5 K5 r5=>kk z' e4 v5 F5 H5 p4 (ag s1 (ag s2 (ag s3 (ag s4 s5)))) K5 r5
 |false=>exact FP (kk _ e2 _ F3 H3 p2 (ag s1 (ag s2 s3)) K3 (.bl _))
def vT{Ip:CmpOp}{o:PV->PV->Option PV}{r:R2}(ho:Co X (aa4 op) r)(hq:Ff ob X r o)(EI:Co X (aa4 Ip) r')(LV:Ff ob X r' o')(ha:BH ob X a f)(hb:BH ob X b g)(hc:BH ob X c h)
  (hm:autoParam (lastMarks [op,Ip] [b,c]=false) AT):BH ob X (.Compare a [op,Ip] [b,c] pos) (E2 o o' f g h):=by
 obtain⟨ta,ha,ka⟩:=ha.ex;obtain⟨tb,hb,kb⟩:=hb.ex;obtain⟨tc,hc,kc⟩:=hc.ex;exact#[_,u7 ho EI ha hb hc hm,mE hq LV ka kb kc]
def vX{Ip:CmpOp}{o:PV->PV->Option PV}{r:R2}(ho:Co X (aa4 op) r)(hq:Ff ob X r o)(EI:Co X (aa4 Ip) r')(LV:Ff ob X r' o')(ha:BH ob X a f)(hb:BH ob X b g)(hc:BH ob X c h)
  (hm:autoParam (lastMarks [op,Ip] [b,c]=false) AT):Gd ob X (.Compare a [op,Ip] [b,c] pos) (Bs (E2 o o' f g h)):=by
 obtain⟨ta,ha,ka⟩:=ha.ex;obtain⟨tb,hb,kb⟩:=hb.ex;obtain⟨tc,hc,kc⟩:=hc.ex;refine#[_,uW ho EI ha hb hc hm,λZ F U H env P Q K hf k=>mE hq LV ka kb kc Z F U H env _ _ K hf λx e1 v F1 H1 p s1 K1 r1=>?_];obtain⟨z,hz,p⟩:=p;cases x<;>try (cases hz)
 cases r1;exact#[_,rfl,k _ e1 F1 H1 p s1 K1]
variable{c:WT}
def tO.Qi{v:V}{x:PV}{i:Nat}(K:tO M Z F (U++[some v]) H (env++[some #[1,x]]))(hx:∀xs,x≠.set xs):∃F',dO F F'/\tO M Z F' (U.set i (some v)) H (env.set i (some #[0,x])):=by obtain⟨F',s,K',r⟩:=K.Jj hx;exact#[F',s,K'.put r]
def Aa(i:Nat){y:Str}(hN:X.N.Nodup)(hy:X.N[i]?=some y)(hk:X.env.scope.names.lookup y=some .local)(hi:Hl ob X tg iter fi)(hg:∀C s0 Ha ex pn,PG (iN X scope N C s0 Ha ex pn) tg (Hn X.K T))(ht:∀C s0 Ha ex pn,OQ ob (iN X scope N C s0 Ha ex pn) ifs c)(he:∀C s0 Ha ex pn,BH ob (iN X scope N C s0 Ha ex pn) elt f)
  (hj:autoParam (FO js=true) oR) (hT:autoParam (CI js T=true) oR)
  (Iw:autoParam (abU (.ListComp elt [#[tg,iter,ifs,0]] scope pos) (some (.Name y py)) B3.line X.env=pure true) oR)
  (hc:autoParam (X.calm=true) oR) (hx:autoParam (X.xe=(λ_ _=>False)) oR) (Dq:autoParam (DI X.env scope=true) oR) (BP:autoParam (Cw X.N scope N js=true) oR) (BA:autoParam (scope.kind=.function) oR) (hs:autoParam (∀x,aaC iter X.env x=pure x) At) :
  E6 ob X (.Assign [.Name y py] (.ListComp elt [#[tg,iter,ifs,0]] scope pos) B3) (By i (D8 fi T c f js)):=by
 obtain⟨wi,Iu,k⟩:=hi.ex;refine#[_,AY (tc:=NK (md ob X) c) (te:=JP (md ob X) f) hN hy hk Iu hg (λC s0 Ha ex pn=>(ht C s0 Ha ex pn).ex) (λC s0 Ha ex pn=>(he C s0 Ha ex pn).pe) (bC hT) Iw hc hx Dq BP BA hs,λZ F U H env P D K hf L=>?_];refine k Z F U H env _ _ K hf λxs e1 J F1 H1 p s1 K1 I1 l hl=>qg (Q:=λv H'=>D.nx (U.set i (some v)) H') hj hT K1 I1 p (λx e2 v F2 H2 p2 s2 MK K2=>?_) l hl;obtain⟨F3,s3,K3⟩:=K2.Qi MK;exact L.nx _ _ F3 H2 p2 (ag s1 (ag s2 s3)) K3
def Hv(a:WE):WS:=λP env=>a env P.rf
variable{c:Expr}
def yf(h:GD ob X e f):E6 ob X (.Return (some e) pos) (Hv f):=by obtain⟨t,ht,k⟩:=h.ex;exact#[_,fq ht,λZ F U H env P D K hf L=>k Z F U H env _ _ K hf λx e1 v F1 H1 p s1 hx K1=>L.rf x e1 v U F1 H1 p s1 hx K1]
def Nx(M:Md)(n:Nat)(D:Fd):Sp:=λvs H Q _=>∃(F:Hp) (xs:Aad) (P:Aap),dO F H/\rW M.K F vs xs/\xs.length=n/\D xs P /\
 ∀r a F' H',P r->dO H H'->dO F F'->dO F' H'->(∀a,F' a≠none->F a≠none\/H a=none)->(∀xs,r≠.set xs)->CY M F' H' a r->F' a=none->H a=none->Q (.ref a) H'
def Vu(P:Aap):Wd:={nx:=λ_=>False,rt:=λ_ _=>False,rf:=λx _=>P x}
def LH(n:Nat)(u:WS):Fd:=λxs P=>u (Vu P) (Cf n xs)
def G2(M:Md)(n:Nat)(D:Eu):Sp:=λvs H Q _=>∃(F:Hp) (a:Addr) (l:Aaj) (c:PV) (ws:Aai) (xs:Aad) (P:Aaq),vs=.ref a::ws/\dO F H/\rW M.K F ws xs/\xs.length+1=n /\
 M.ob.P F H a l c/\(∀b∈l,H b≠none/\F b=none)/\D c xs P /\
 ∀r c' q F' H' l',P r c'->(∀b o,H b=some o->b∉l->H' b=some o)->(∀b,H b≠none->H' b≠none)->dO F F'->dO F' H'->(∀a,F' a≠none->F a≠none\/H a=none)->M.ob.P F' H' a l' c'->(∀b∈l',H' b≠none/\F' b=none)->(∀b∈l',b∈l\/H b=none) ->
  (∀xs,r≠.set xs)->CY M F' H' q r->F' q=none->H q=none->q∉l'->Q (.ref q) H'
def MT(P:Aaq):Wd:={nx:=λ_=>False,rt:=λ_ _=>False,rf:=λx e=>ME (P x) e}
def Kf(n:Nat)(u:WS):Eu:=λc xs P=>u (MT P) (some #[2,c]::Cf (n - 1) xs)
theorem oh{v:V}{x:PV}(K:tO M Z F (U++[some v]) H (env++[some #[1,x]])):∃a fp,v=.ref a/\CY M F H a x/\F a=none/\Z.Ha a=none/\Slots M Z F U H env fp/\∀i,i<env.length->a∉fp i:=by
 have hn  :=by have:=K.len;simpa using this
 obtain⟨fp,L⟩:=K.sl;rcases L.last hn with ⟨e,_⟩|⟨_,a,rfl,hf,h0,hw⟩|⟨e,_⟩|⟨e,_⟩
 .cases e
 .have ha:=L.al env.length a #[1];exact#[a,fp,rfl,hw,ha.2,h0,L.drop hn,λi hi z=>L.dj env.length i a #[] #[1] z]
 .rcases e with e|e<;>cases e
 .cases e
theorem zU{f:Addr}(F:H0 K x qual st f fd)(S:ap N ps (ak st))(hn:ps.length<=N.length)
  (hb:∀(BI:Value) (A:Around) (outer:List Env) (s:Shared) (H:Hp) (E:XK),BS k (A.deeper (envOfC qual (ak st) s.heap.objs.size f BI))->EG ob (E3 Cu P w K mg base N qual (ak st) f BI A outer s H E).JQ (aP st) u) :
  BD P w K mg base Cu (k+1) f fd ps (Nx #[P,w,K,ob] ps.length (LH N.length u)):=by
 refine F.ok S (λvs H Q E h=>?_) (λBI A outer s H vs Q E hr h=>?_)
 .obtain⟨F,xs,P,_,r,hl,_⟩:=h;rw[r.len];exact hl
 .obtain⟨F,xs,P',sF,r,hl,hD,kk⟩:=h;obtain⟨t,ht,kt⟩:=(hb BI A outer s H E hr).ex;refine#[t,ht,kt _ F _ H _ _ _ (gI sF r #[]) hD #[λ_ _ _ _ p=>p.elim,λ_ _ _ _ _ _ p=>p.elim,λ_ _ _ _ p=>p.elim,λ_ _ _ _ p=>p.elim,λx env v U F' H' p s1 hx K1=>?_,λ_ _ _ _ _ _ _ p=>p.elim]];obtain⟨a,fp,rfl,h1,h2,h3,_⟩:=oh K1;exact kk x a F' H' p (λb o h=>K1.sG b o h #[0]) s1 K1.sF K1.nw hx h1 h2 h3
theorem x9{f:Addr}(F:H0 K x qual st f fd)(S:ap N ps (ak st))(hn:ps.length<=N.length)
  (hb:∀(BI:Value) (A:Around) (outer:List Env) (s:Shared) (H:Hp) (E:XK),BS k (A.deeper (envOfC qual (ak st) s.heap.objs.size f BI))->EG ob (E3 Cu P w K mg base N qual (ak st) f BI A outer s H E).JQ (aP st) u) :
  BD P w K mg base Cu (k+1) f fd ps (G2 #[P,w,K,ob] ps.length (Kf N.length u)):=by
 refine F.ok S (λvs H Q E h=>?_) (λBI A outer s H vs Q E hr h=>?_)
 .obtain⟨F,a,l,c,ws,xs,P,rfl,_,r,hl,_⟩:=h;rw[aaG,r.len];exact hl
 .obtain⟨F,a,l,c,ws,xs,P',rfl,sF,r,hl,ho,HZ,hD,kk⟩:=h;obtain⟨t,ht,kt⟩:=(hb BI A outer s H E hr).ex;refine#[t,ht,kt #[H,F,l,λi=>if i=0 then some a else none,λb h=>(HZ b h).1] F (start N (.ref a::ws)) H (some #[2,c]::Cf (N.length - 1) xs) (MT P') _ (jW (M:=#[P,w,K,ob]) sF r #[] ho HZ) hD #[λ_ _ _ _ p=>p.elim,λ_ _ _ _ _ _ p=>p.elim,λ_ _ _ _ p=>p.elim,λ_ _ _ _ p=>p.elim,λx env v U F' H' p s1 hx K1=>?_,λ_ _ _ _ _ _ _ p=>p.elim]];obtain⟨q,fp,rfl,h1,h2,h3,L,h4⟩:=oh K1;have p:ME (P' x) env:=p;unfold ME at p;split at p
  .rename_i c' e;obtain⟨v0,Fs,ok⟩:=L.at' 0 _ e;have hh:=L.oa 0 a _ rfl e rfl;rw[hh]at Fs;cases Fs;rcases ok with ⟨k0,_⟩|⟨k0,_⟩|⟨_,a',e',g1,g2⟩|⟨k0,_⟩
   .cases k0
   .cases k0
   .cases e';have Cn:0<env.length:=by
     rcases aaQ 0 env.length with y|y
     .exact y
     .rw[aao y]at e;cases e
    exact kk x _ q F' H' (fp 0) p (λb o h1 h2=>K1.sG b o h1 h2) (λb h=>K1.pr b h) s1 K1.sF K1.nw g2 (λb hb=>L.al 0 b hb) (λb hb=>g1 b hb) hx h1 h2 h3 (h4 0 Cn)
   .cases k0
  .exact p.elim
def vW(F:BD X.prog X.w X.K X.mg X.base Cu k C6 fd ps (Nx (md ob X) n D))(hr:BS k X.A)(hm:X.mg x=some (.ref C6))(hk:abN X.K (.ref C6)=true)(hb:Binds X.K fd ps [])(ha:GG ob X (e::es) fa)(hn:autoParam (es.length+1=n) oR)(hg:autoParam (Gl X x) oR)
  (D7:autoParam ((x==("__debug__" : Str))=false) on) (he:autoParam (aai (e::es) X.env=(false,eval e X.env)::aai es X.env) oR) (CM:autoParam ((backTo pos (aai es X.env)).any (·.1)=false) oR) :
  GD ob X (.Call (.Name x p) (e::es) [] pos) (Br D fa):=by
 obtain⟨t,ht,kt⟩:=ha.ex;refine#[_,cW F hr hg hm hk hb .nil GI ht D7 he CM,λZ F U H env P Q K hf kk=>kt Z F U H env _ _ K hf λxs e1 vs F1 H1 p hl s1 K1 r1=>?_];rw[aa9];refine#[F1,xs,_,K1.sF,r1,#[1],p,λr a F' H' pr sH sF Ka nw hx ho hF ha=>?_];refine kk r e1 _ F' H' pr (ag s1 sF) hx ?_;have K2:=K1.move sF Ka sH nw;obtain⟨fp,L⟩:=K1.sl;have L2  := L.move sF (λ_ c o _ e=>sH c o e) nw;refine K2.slots (by simp[K2.len]) (L2.push #[0] K2.len (.inr (.inl #[rfl,a,rfl,rfl,K1.h0 ha,ho])) (λb hb=>?_) λj b hb hj=>?_)
 .simp at hb;subst hb;refine#[?_,hF];cases r<;>try exact ho.elim
  .obtain⟨vs,h,_⟩:=ho;rw[h];simp
  .obtain⟨vs,h,_⟩:=ho;rw[h];simp
  .rw[ho];simp
 .simp at hb;subst hb;exact(L.al j b hj).1 ha
def uf(i:Nat){y:Str}(F:BD X.prog X.w X.K X.mg X.base Cu k C6 fd ps (G2 (md ob X) n DO))(hr:BS k X.A)(hm:X.mg x=some (.ref C6))(hk:abN X.K (.ref C6)=true)(hb:Binds X.K fd ps [])(ho:PE X (.Name y p1) (B2 i))(ha:GG ob X es fa)(hn:autoParam (es.length+1=n) oR)(hg:autoParam (Gl X x) oR)
  (D7:autoParam ((x==("__debug__" : Str))=false) on) (he:autoParam (aai (.Name y p1::es) X.env=(false,eval (.Name y p1) X.env)::aai es X.env) oR) (CM:autoParam ((backTo pos (aai es X.env)).any (·.1)=false) oR) :
  GD ob X (.Call (.Name x p) (.Name y p1::es) [] pos) (Bq DO i fa):=by
 obtain⟨t,ht,kt⟩:=ha.ex;refine#[_,cW (E:=E0) F hr hg hm hk hb .nil GI (aD ho ht he) D7 he CM,λZ F U H env P Q K hf kk=>?_];obtain⟨h0,hf⟩:=hf;obtain⟨w,hw⟩:∃v,U[i]?=some (some v):=by
  cases e:env[i]? with
  |none=>rw[e]at h0;cases h0
  |some w=>
   cases w with
   |none=>rw[e]at h0;cases h0
   |some s=>obtain⟨fp,L⟩:=K.sl;obtain⟨v,hv,_⟩:=L.at' i s e;exact#[v,hv]
 refine#[w,hw,kt Z F U H env _ _ K hf λxs e1 vs F1 H1 p hl s1 K1 r1=>?_];show G2 (md ob X) n DO ((w::vs)++[]) H1 Q E0;rw[aa9];have fin:∀(kd:Nat) (c:PV),kd=2\/kd=4->e1[i]?=some (some #[kd,c])->DO c xs (λr c'=>P r (e1.set i (some #[kd,c'])))->G2 (md ob X) n DO (w::vs) H1 Q E0:=λkd c IA ei p=>by
  obtain⟨fp,L⟩:=K1.sl;obtain⟨v0,Fs,ok⟩:=L.at' i _ ei;rw[hw]at Fs;cases Fs;rcases ok with ⟨k0,_⟩|⟨k0,_⟩|⟨_,a,rfl,_,ho⟩|⟨k0,_⟩
  .rcases IA with rfl|rfl<;>cases k0
  .rcases IA with rfl|rfl<;>cases k0
  .refine#[F1,a,fp i,c,vs,xs,_,rfl,K1.sF,r1,by rw[hl];exact hn,ho,λb hb=>L.al i b hb,p,λr c' q F' H' l' pr kp pre sF Ka nw EI HC Ji hx hq hF WJ YH=>?_];obtain⟨K2,L2⟩:=K1.Kj IA L ei hw kp pre sF Ka nw EI HC Ji;refine kk r _ _ F' H' pr (ag s1 sF) hx ?_;refine K2.slots (by simp[K1.len]) (L2.push (l:=[q]) #[0] (by simp[K1.len]) (.inr (.inl #[rfl,q,rfl,rfl,K1.h0 WJ,hq])) (λb hb=>?_) λj b hb hj=>?_)
   .simp at hb;subst hb;refine#[?_,hF];cases r<;>try exact hq.elim
    .obtain⟨vs,h,_⟩:=hq;rw[h];simp
    .obtain⟨vs,h,_⟩:=hq;rw[h];simp
    .rw[show H' _=_ from hq];simp
   .simp at hb;subst hb;split at hj
    .exact YH hj
    .exact(L.al j b hj).1 WJ
  .rcases IA with rfl|rfl<;>cases k0
 split at p
 .rename_i ei;exact fin _ _ (.inl rfl) ei p
 .rename_i ei;exact fin _ _ (.inr rfl) ei p
 .exact p.elim
end Q
namespace L2
open PySem PySem.Spec PyProof.Rows PySem.W
noncomputable def CJ(P:Addr)(ps:Aam):HO:=.ext λh=>h.get? P=some (tabObj ps)
noncomputable def CW(c:Addr)(lq:Str):HO:=.ext λh=>h.CodeRec (.ref c) lq
variable{P:aaD}{w:World}{H:Hp}{h:Heap}{a:Addr}{ps:Aam}
def nq(e:h.get? a=some (tabObj ps)):BG P w H h a (CJ a ps):=#[e,#[_,e],λh1 h2 x k=>k _ x]
end L2
namespace Pre
open PySem L2
structure Sta(H:Hp)(a b:Addr):Prop where
 st:∃(ns:Aas) (z:Int),H a=some (.lst [.ref b,.int z])/\H b=some (.lst (ns.map V.int))/\(∀n∈ns,0<=n)/\0<=z/\z<2305843009213693951
def IU(a b:Addr)(H H':Hp):Prop:=∀c o,H c=some o->c≠a->c≠b->H' c=some o
def IU.refl(a b:Addr)(H:Hp):IU a b H H:=λ_ _ h _ _=>h
variable{a b:Addr}{H H':Hp}{o:HO}
def IU.grow{p:Addr}(x:IU a b H H')(hp:H' p=none):IU a b H (upd H' p o):=λc u h h1 h2=>by have q:=x c u h h1 h2;rw[af (ao q hp)];exact q
def IU.NB(x:IU a b H H'):IU a b H (upd H' a o):=λc u h h1 h2=>by rw[af h1];exact x c u h h1 h2
def IU.TV(x:IU a b H H'):IU a b H (upd H' b o):=λc u h h1 h2=>by rw[af h2];exact x c u h h1 h2
noncomputable def stK(b:Addr)(left seed many:Int):List (Key×V):=[(.inr (aaE "cells"),.ref b),(.inr (aaE "left"),.int left),(.inr (aaE "seed"),.int seed),(.inr (aaE "many"),.int many)]
structure Ph(H:Hp)(a b:Addr)(f:Nat):Prop where
 st:∃(ns:Aas) (left seed many:Int),H a=some (.dK (stK b left seed many))/\H b=some (.lst (ns.map V.int))/\0<=left/\0<=seed/\seed<2305843009213693951/\0<=many/\many+f<=1152921504606846976
end Pre
namespace Q
open PySem L2 PyProof.Rows
def Nd(K:aaf)(F H:Hp)(a:Addr)(l:Aaj)(x:PV):Prop:=∃ks:List (Key×Addr×Aad),x=.Cd (ks.map λt=>(t.1,.lst t.2.2))/\l=a::ks.map (·.2.1)/\H a=some (.dK (ks.map λt=>(t.1,.ref t.2.1))) /\
 (ks.map (·.2.1)).Nodup/\∀t∈ks,∃vs,H t.2.1=some (.lst vs)/\rW K F vs t.2.2
noncomputable def Cj(lq:Str)(ln co:Nat)(P:Addr):PV:=.tup [.str lq,.int ln,.int co,.int (P:Nat)]
def TabAt(H:Hp)(a:Addr)(l:Aaj)(x:PV):Prop:=∃(lq:Str) (ln co:Nat) (ps:Aam),x=Cj lq ln co a/\H a=some (CJ a ps)/\PySem.TriplesOk ps.toList /\
 ((l=[a]/\acP #[ln,co,0,0] ps.toList=none)\/∃c',c'≠a/\l=[a,c']/\acP #[ln,co,0,0] ps.toList=some (.ref c')/\H c'=some (CW c' lq))
variable{H H':Hp}{a:Addr}{l:Aaj}{x:PV}
def TabAt.mono(h:TabAt H a l x)(e:∀b∈l,H' b=H b):TabAt H' a l x:=by
 obtain⟨lq,ln,co,ps,rfl,h1,h2,h3⟩:=h;refine#[lq,ln,co,ps,rfl,?_,h2,?_]
 .rcases h3 with ⟨rfl,_⟩|⟨c',_,rfl,_⟩
  .exact(e a #[0]).trans h1
  .exact(e a #[0]).trans h1
 .rcases h3 with ⟨rfl,h4⟩|⟨c',h4,rfl,h5,h6⟩
  .exact .inl #[rfl,h4]
  .exact .inr #[c',h4,rfl,h5,(e c' #[0]).trans h6]
inductive TabsAt (H:Hp):Addr->List Addr->PV->Prop
 |one {a:Addr} {l:Aaj} {x:PV} (h:TabAt H a l x):TabsAt H a l x
 |two {a T:Addr} {l1 l2:Aaj} {x1 x2:PV} (h1:TabAt H a l1 x1) (h2:TabAt H T l2 x2) (h3:∀b∈l1,b∉l2):TabsAt H a (l1++l2) (.tup [x1,x2])
def TabsAt.mono(h:TabsAt H a l x)(e:∀b∈l,H' b=H b):TabsAt H' a l x:=by
 cases h with
 |one h=>exact .one (h.mono e)
 |two h1 h2 h3=>exact .two (h1.mono λb hb=>e b (aaH _ hb)) (h2.mono λb hb=>e b (aak _ hb)) h3
def OK(H:Hp)(a:Addr)(l:Aaj)(x:PV):Prop:=∃(x1 x2:PV) (T2:Addr) (l1 l2:Aaj),x=.tup [x1,x2]/\l=l1++l2/\TabAt H a l1 x1/\TabsAt H T2 l2 x2/\∀b∈l1,b∉l2
def Sf(H:Hp)(a:Addr)(l:Aaj)(x:PV):Prop:=(x=.Bw/\∃b,l=[a,b]/\Pre.Sta H a b)\/∃(f:Nat) (b:Addr),x=.int f/\l=[a,b]/\Pre.Ph H a b f
noncomputable def DE(K:aaf):Ct where
 P:=λF H a l x=>Sf H a l x\/Nd K F H a l x\/TabAt H a l x\/OK H a l x
 mono:=λF F' H H' a l x h s e=>by
  rcases h with (⟨h0,b,rfl,ns,z,h1,h2,h3⟩|⟨f,b,h0,rfl,ns,q1,q2,q3,h1,h2,h3⟩)|⟨ks,rfl,rfl,h1,h2,h3⟩|ht|⟨x1,x2,T2,l1,l2,rfl,rfl,h1,h2,h3⟩
  .exact .inl (.inl #[h0,b,rfl,ns,z,(e a #[0]).trans h1,(e b #[0]).trans h2,h3])
  .exact .inl (.inr #[f,b,h0,rfl,ns,q1,q2,q3,(e a #[0]).trans h1,(e b #[0]).trans h2,h3])
  .refine .inr (.inl #[ks,rfl,rfl,(e a #[0]).trans h1,h2,λt ht=>?_]);obtain⟨vs,q1,q2⟩:=h3 t ht;exact#[vs,(e _ (aam _ (aaV (f:=λt=>t.2.1) ht))).trans q1,q2.mono s]
  .exact .inr (.inr (.inl (ht.mono e)))
  .exact .inr (.inr (.inr #[x1,x2,T2,l1,l2,rfl,rfl,h1.mono λb hb=>e b (aaH _ hb),h2.mono λb hb=>e b (aak _ hb),h3]))
variable{K:aaf}{F:Hp}{ns:Aas}{vs:Aai}
def nL(h:rW K F vs (ns.map PV.int)):vs=ns.map V.int:=by
 induction ns generalizing vs with
 |nil=>cases h;rfl
 |cons n ns ih=>cases h with
  |cons a r=>cases a;exact congrArg (List.cons _) (ih r)
variable{X:Cx}{k:Nat}{C6:Addr}{fd:abM}{ps:Aaa}{x y:Str}{p p1 pos pos':Pos}
variable{M:Md}{Z:Zn}{U:L2.St}{env:En}{p:Addr}{o:HO}
def yP:∀b∈Z.S,upd Z.Ha p o b≠none:=λb hb=>by
 by_cases e:b=p
 .subst e;rw[ah];simp
 .rw[af e];exact Z.sS b hb
noncomputable def Zn.add(Z:Zn)(p:Addr)(o:HO):Zn:={Z with Ha:=upd Z.Ha p o,sS:=yP}
def tO.guard(K:tO M Z F U H env)(hp:H p=none):tO M (Z.add p o) F U (upd H p o) env:=by
 have hF  := dO.none_of K.sF hp;have h0  := K.h0 hp;obtain⟨fp,L⟩:=K.sl;have hn  := λi h=>(L.al i p h).1 hp;obtain⟨K1,L1⟩:=K.DG L hF h0 hn;have ne  := λ{c} h q=>by show upd Z.Ha p o c=none;rw[af q];exact h
 refine#[K1.sF,λb u h1 h2=>?_,λb h=>?_,K1.gr,λa h=>?_,K1.len,fp,λi s e=>?_,L1.al,L1.dj,L1.oa]
 .by_cases q:b=p
  .subst q;have h1:upd Z.Ha b o b=some u:=h1;rw[ah]at h1 ⊢;exact h1
  .have h1:upd Z.Ha p o b=some u:=h1;rw[af q]at h1;exact K1.sG b u h1 h2
 .by_cases q:b=p
  .subst q;rw[ah];simp
  .have h:upd Z.Ha p o b≠none:=h;rw[af q]at h;exact K1.pr b h
 .rcases K1.nw a h with q|q
  .exact .inl q
  .refine .inr (ne q λz=>?_);subst z;exact h hF
 .obtain⟨v,hv,ok⟩:=L1.at' i s e;refine#[v,hv,?_];rcases ok with k|⟨k,a,e1,e2,h1,h2⟩|⟨k,a,e1,h1,h2⟩|k
  .exact .inl k
  .exact .inr (.inl #[k,a,e1,e2,ne h1 λz=>hn i #[1],h2])
  .exact .inr (.inr (.inl #[k,a,e1,λc hc=>(h1 c hc).elim .inl λq=>.inr (ne q λz=>hn i #[1]),h2]))
  .exact .inr (.inr (.inr k))
def tO.IV(K:tO M (Z.add p o) F U H env)(h0:Z.Ha p=none)(Pa:Z.Fa p=none):tO M Z F U H env/\H p=some o/\F p=none/\∃fp,Slots M Z F U H env fp/\∀i s,env[i]?=some (some s)->p∉fp i:=by
 have hS  := λh=>Z.sS p h h0;have YM:(Z.add p o).Ha p=some o:=ah;have back:∀{c:Addr},(Z.add p o).Ha c=none->Z.Ha c=none/\c≠p:=λ{c} h=>by
  have h:upd Z.Ha p o c=none:=h;by_cases q:c=p
  .subst q;rw[ah]at h;cases h
  .rw[af q]at h;exact#[h,q]
 have hF:F p=none:=by
  cases e:F p with
  |none=>rfl
  |some u=>
   rcases K.nw p #[1]with q|q
   .exact absurd Pa q
   .exact absurd rfl (back q).2
 obtain⟨fp,L⟩:=K.sl;have S:Slots M Z F U H env fp:=by
  refine#[λi s e=>?_,L.al,L.dj,L.oa];obtain⟨v,hv,ok⟩:=L.at' i s e;refine#[v,hv,?_];rcases ok with k|⟨k,a,e1,e2,h1,h2⟩|⟨k,a,e1,h1,h2⟩|k
  .exact .inl k
  .exact .inr (.inl #[k,a,e1,e2,(back h1).1,h2])
  .exact .inr (.inr (.inl #[k,a,e1,λc hc=>(h1 c hc).elim .inl λq=>.inr (back q).1,h2]))
  .exact .inr (.inr (.inr k))
 have up:∀{b:Addr} {u:HO},Z.Ha b=some u->(Z.add p o).Ha b=some u:=λ{b u} h=>by show upd Z.Ha p o b=some u;rw[af (ao h h0)];exact h
 refine#[#[K.sF,λb u h1 h2=>K.sG b u (up h1) h2,λb h=>?_,K.gr,λa h=>?_,K.len,fp,S],K.sG p o YM hS,hF,fp,S,λi s e hi=>?_]
 .obtain⟨u,hu⟩:=bK h;exact K.pr b #[1]
 .rcases K.nw a h with q|q
  .exact .inl q
  .exact .inr (back q).1
 .obtain⟨v,hv,ok⟩:=L.at' i s e;rcases ok.wr p hi with q|q
  .exact hS q
  .exact(back q).2 rfl
noncomputable def tidy(env:En)(fp:Nat->List Addr)(i:Nat):Aaj:=match env[i]? with
 |some (some _)=>fp i
 |_=>[]
variable{fp:Nat->List Addr}
def Slots.tidy(L:Slots M Z F U H env fp):Slots M Z F U H env (Q.tidy env fp):=by
 have sub:∀i a,a∈Q.tidy env fp i->a∈fp i:=λi a h=>by
  unfold Q.tidy at h;split at h
  .exact h
  .simp at h
 refine#[λi s e=>?_,λi a h=>L.al i a (sub i a h),λi j a Ew h z=>L.dj i j a Ew (sub i a h) (sub j a z),L.oa];obtain⟨v,hv,ok⟩:=L.at' i s e;exact#[v,hv,by unfold Q.tidy;rw[e];exact ok]
def tO.JZ{o':HO}{x:PV}(K:tO M (Z.add p o) F U H env)(h0:Z.Ha p=none)(Pa:Z.Fa p=none)(hx:CY M F (upd H p o') p x):tO M Z F (U++[some (.ref p)]) (upd H p o') (env++[some #[1,x]]):=by
 obtain⟨K1,hp,hF,fp,L,hn⟩:=K.IV h0 Pa;have L1:=L.tidy;have Tb:∀i,p∉Q.tidy env fp i:=λi h=>by
  unfold Q.tidy at h;split at h
  .rename_i s e;exact hn i s e h
  .simp at h
 obtain⟨K2,L2⟩:=K1.DG L1 hF h0 Tb;refine K2.slots (by simp[K2.len]) (L2.push #[0] K2.len (.inr (.inl #[rfl,p,rfl,rfl,h0,hx])) (λa ha=>?_) λj a ha=>?_)
 .simp at ha;subst ha;exact#[by rw[ah];simp,hF]
 .simp at ha;subst ha;exact Tb j
noncomputable def MW:List (Key×PV)->List (Key×PV):=λeQ=>eQ.foldl (λacc kv=>Gr acc kv.1 kv.2) []
def Vz:List (WE×WE)->List (Key×PV)->WE
 |[],acc=>λenv P=>P (.Cd (MW acc)) env
 |(fk,fv)::r,acc=>λenv P=>fk env λy e1=>fv e1 λv e2=>opt (FN y) λk=>Vz r (acc++[(k,v)]) e2 P
def MV(l:List (WE×WE)):WE:=Vz l []
inductive GF (ob:Ct) (X:Cx):List (Option Expr)->List Expr->List (WE×WE)->Prop where
 |nil:GF ob X [] [] []
 |cons {k v:Expr} {ks:List (Option Expr)} {vs:Aak} {fk fv:WE} {l:List (WE×WE)}:BH ob X k fk->BH ob X v fv->GF ob X ks vs l->GF ob X (some k::ks) (v::vs) ((fk,fv)::l)
def tH{more:List (Key×V)}{mx:List (Key×PV)}{acc:List (Key×V)}{ax:List (Key×PV)}(h:Bo K F more mx)(h2:Bo K F acc ax):Bo K F (El acc more) (mx.foldl (λacc kv=>Gr acc kv.1 kv.2) ax):=by
 induction h using Bo.ind generalizing acc ax with
 |nil=>exact h2
 |cons a _ ih=>exact ih (h2.put a)
variable{ob:Ct}
variable{values:Aak}
def GF.facts{keys:List (Option Expr)}{l:List (WE×WE)}(h:GF ob X keys values l):keys.all (·.isSome)=true/\keys.length=values.length:=by
 induction h with
 |nil=>exact#[rfl,rfl]
 |cons _ _ _ ih=>exact#[#[1],#[1]]
def GF.run{keys:List (Option Expr)}{l:List (WE×WE)}(h:GF ob X keys values l):∃IW,Sg X pos keys values IW/\∀(Z:Zn) (F:Hp) (U:L2.St) (H:Hp) (env:En) (P:Aal) (acc:List (Key×PV)) (va:List (Key×V)) (Q:List (V×V)->Hp->Prop),tO (md ob X) Z F U H env->Bo X.K F va acc->Vz l acc env P ->
  (∀eQ vs aT F' H',P (.Cd (MW eQ)) aT->dO F F'->tO (md ob X) Z F' U H' aT->Bo X.K F' (va++vs) eQ->vs.length=keys.length->Q (vs.map λkv=>(kV kv.1,kv.2)) H')->GZ IW U H Q:=by
 induction h with
 |nil=>exact#[[],pW,λZ F U H env P acc va Q K ra hf kk=>kk acc [] env F H hf aj K #[1] rfl]
 |cons hk hv _ ih=>obtain⟨tk,O2,kk⟩:=hk.ex;obtain⟨tv,UE,kv⟩:=hv.ex;obtain⟨IW,UG,kr⟩:=ih;refine#[_,du O2 UE UG,λZ F U H env P acc va Q K ra hf fin=>?_];refine kk Z F U H env _ _ K hf λy e1 y' F1 H1 p1 s1 K1 r1=>kv Z F1 U H1 e1 _ _ K1 p1 λv e2 v' F2 H2 p2 s2 K2 r2=>?_;obtain⟨k,hk,p2⟩:=p2;have hy:=fu hk (r1.mono s2);subst hy;refine kr Z F2 U H2 e2 P _ _ _ K2 ((ra.mono (ag s1 s2)).app (.cons r2 .nil)) p2 λeQ vs e3 F3 H3 p3 s3 K3 r3 hl=>?_;exact fin eQ _ e3 F3 H3 p3 (ag s1 (ag s2 s3)) K3 (by simpa using r3) #[1]
theorem yk{keys:List (Option Expr)}{l:List (WE×WE)}(h:GF ob X keys values l)(h0:autoParam (keys≠[]) B')(RU:autoParam (keys.length<=15) on):GD ob X (.Dict keys values pos) (MV l):=by obtain⟨IW,UG,kr⟩:=h.run;obtain⟨ha,hl⟩:=h.facts;refine#[_,p0 UG ha hl h0 RU,λZ F U H env P Q K hf kk p hp=>?_];refine kr _ F U _ env P [] [] _ (K.guard hp) .nil hf λeQ vs e1 F1 H1 p1 s1 K1 r1 hl1=>?_;have h0  := K.h0 hp;have Pa  := dO.none_of K.gr (dO.none_of K.sF hp);have hS:=(K1.IV h0 Pa).2.1;refine#[hS,vs,rfl,#[],kk _ e1 _ F1 _ p1 s1 (λ_=>#[0]) (K1.JZ h0 Pa #[_,ah,tH #[1] .nil])]
def pP(i:Nat):WS:=λP env=>P.nx (env.set i (some #[1,.set []]))
noncomputable def E4(S:Aaa)(k:Str):Aaa:=if k∈S then S else S++[k]
noncomputable def pQ(i:Nat)(a:WE):WS:=λP env=>(match env[i]? with|some (some #[1,.set _])=>True|_=>False)/\a env λx e=>match e[i]?,x with
 |some (some #[1,.set S]),.str k=>S.length<=4000/\P.nx (e.set i (some #[1,.set (E4 S k)]))
 |_,_=>False
variable{e:Expr}{f:WE}{p apos BQ B3:Pos}
def t7(i:Nat)(hN:X.N.Nodup)(hi:X.N[i]?=some x)(hx:Loc X.env.scope x)(hm:X.mg "set" = none)(hg:autoParam (Gl X "set") oR)(hs:autoParam (abU (.Call (.Name "set" p) [] [] pos) (some (.Name x pos')) B3.line X.env=pure false) oR)(hf:autoParam (X.fn x=true\/X.env.scope.names.lookup x=some .local) ge):
  E6 ob X (.Assign [.Name x pos'] (.Call (.Name "set" p) [] [] pos) B3) (pP i):=by
 refine#[_,bu hN hi hx (qS ur hg hm boot_set) hs hf,λZ F U H env P D K hf L=>#[rfl,λq hq=>L.nx _ _ F _ hf aj ?_]];exact(K.own hq (by show upd H q _ q=_;rw[ah];simp)).take
theorem t8(i:Nat)(ho:PE X (.Name x p) (B2 i))(ha:BH ob X e f)
  (Cb:autoParam (abS (.Name x p) "add" X.env (eval (.Name x p) X.env)=eval (.Name x p) X.env) oR)
  (FR:autoParam (((backTo BQ (aai [e] X.env)).all (λx=>!x.1) && (aew BQ (ado [] X.env)).all (λx=>x.1.isSome)
   && decide ([e].length+([]:List ade).length+(if ([]:List ade).isEmpty then 0 else 1)<30))=true) oR)
  (Ca:autoParam ((apos.endLine==BQ.line)=true) oR) (GN:autoParam (aai [e] X.env=(false,eval e X.env)::aai [] X.env) oR) (Du:autoParam ((backTo BQ (aai [] X.env)).any (·.1)=false) oR)
  (hs:autoParam (abU (.Call (.Attribute (.Name x p) "add" apos) [e] [] BQ) none B3.line X.env=pure false) oR) :
  E6 ob X (.Expr (.Call (.Attribute (.Name x p) "add" apos) [e] [] BQ) B3) (pQ i f):=by
 obtain⟨t,ht,k⟩:=ha.ex;refine#[_,lg (sI ho (aD ht aN GN) Cb FR Ca GN Du) hs,λZ F U H env P D K hf L=>?_];obtain⟨h0,hf⟩:=hf;obtain⟨a,S0,hh,ha⟩:∃(a:Addr) (S0:Aaa),U[i]?=some (some (.ref a))/\H a=some (Gp X.prog X.w a (λs=>decide (s∈S0)) S0.length):=by
  split at h0
  .rename_i S e;obtain⟨a,h1,h2⟩:=K.ownAt (.inl rfl) e;exact#[a,S,h1,h2]
  .exact h0.elim
 refine#[_,hh,a,_,_,rfl,ha,k Z F U H env _ _ K hf λy e1 y' F1 H1 p1 s1 K1 r1=>?_];split at p1
 .rename_i S kk es;obtain⟨a',h1,h2⟩:=K1.ownAt (.inl rfl) es;rw[hh]at h1;cases h1;cases r1;have h2:H1 a=some (Gp X.prog X.w a (λs=>decide (s∈S)) S.length):=h2;refine#[kk,_,_,rfl,h2,by have:=p1.1;unfold scanBound;omega,L.nx _ _ F1 _ p1.2 s1 (K1.write (.inl rfl) es hh ?_)];show upd H1 a _ a=some _;rw[ah];unfold E4;by_cases hm:kk∈S
  .rw[if_pos hm];have:(λk'=>decide (k'∈S) || decide (k'=kk))=λs=>decide (s∈S):=by
    funext k';by_cases q:k'=kk
    .subst q;simp[hm]
    .simp[q]
   simp only[this,hm,decide_true,if_true]
  .rw[if_neg hm];have:(λk'=>decide (k'∈S) || decide (k'=kk))=λs=>decide (s∈S++[kk]):=by funext k';simp[Bool.decide_or]
   simp only[this,hm,decide_false,abO,if_false,aav,aca]
 .exact p1.elim
noncomputable def FG(env:En):En:=env.map λo=>match o with
 |some #[0,x]=>some #[0,x]
 |_=>none
noncomputable def Hr(F H:Hp):Zn:=#[H,F,[],λ_=>none,λ_ h=>by simp at h]
variable{F':Hp}{aT:En}
def tO.pure(K:tO M Z F U H env):tO M (Hr F H) F U H (FG env):=by
 refine#[K.sF,λb o h _=>h,λb h=>h,aj,λa h=>.inl h,by simp[FG,K.len],λ_=>[],λi s e=>?_,λi a h=>#[1],λi j a _ h=>#[1],λi a s h=>by cases h];unfold FG at e;rw[aal]at e;cases ei:env[i]? with
 |none=>rw[ei]at e;cases e
 |some o=>
  rw[ei]at e;have e:=aar e;dsimp only at e;split at e
  .cases e;obtain⟨v,hv,r⟩:=K.val ei;exact#[v,hv,.inl #[rfl,rfl,r]]
  .cases e
def tO.JY(K:tO M Z F U H env)(K':tO M (Hr F H) F' U H' aT):tO M Z F' U H' env/\dO H H'/\∀fp,Slots M Z F U H env fp->Slots M Z F' U H' env fp:=by have sH  := λb o h=>K'.sG b o h (by simp[Hr]);have nw  := K'.nw;exact#[K.move K'.gr K'.sF sH nw,sH,λfp L=>L.move K'.gr (λ_ c o _ e=>sH c o e) nw]
def kY(i:Nat)(it:WA):WS:=λP env=>it env λxs e=>∃ks,xs.mapM FN=some ks/\ks.Nodup/\ks.length<=1000/\P.nx (e.set i (some #[4,.Cd (ks.map λk=>(k,.lst []))]))
noncomputable def GJ(eQ:List (Key×PV))(k:Key):Option (Aad):=match Dc eQ k with
 |some (.lst xs)=>some xs
 |_=>none
noncomputable def GV(eQ:List (Key×PV))(k:Key)(xs:Aad):List (Key×PV):=eQ.map λkv=>if kv.1=k then (k,.lst xs)else kv
noncomputable def fj(i:Nat)(fk fv:WE):WS:=λP env=>match env[i]? with
 |some (some #[4,.Cd eQ])=>(eQ.map (·.1)).Nodup/\fk (FG env) λy _=>opt (FN y) λk=>opt (GJ eQ k) λxs=>fv (FG env) λv _=>xs.length<=100000/\P.nx (env.set i (some #[4,.Cd (GV eQ k (xs++[v]))]))
 |_=>False
noncomputable def kW(i:Nat):WS:=λP env=>match env[i]? with
 |some (some #[4,x])=>P.ro x i env
 |_=>False
variable{α:Type}
def n9{w:Type}{f:α->Option w}{l:List α}{m:List w}(h:l.mapM f=some m)(i:Nat)(b:w)(hb:m[i]?=some b):∃a,l[i]?=some a/\f a=some b:=by
 obtain⟨hl,h2⟩:=be h;have hi:i<l.length:=by
  rw[<- hl];rcases aaQ i m.length with q|q
  .exact q
  .rw[aao q]at hb;cases hb
 obtain⟨b',e1,e2⟩:=h2 i l[i] #[0];rw[hb]at e1;cases e1;exact#[l[i],#[0],e2]
variable{v:V}
def uU{eQ:List (Key×V)}{k:Key}(h:k∉eQ.map (·.1)):putK eQ k v=eQ++[(k,v)]:=by unfold putK;rw[if_neg];intro z;obtain⟨p,hp,e⟩:=List.any_eq_true.mp z;exact h (List.mem_map.mpr #[p,hp,of_decide_eq_true e])
variable{iter:Expr}{scope:Scope}{p2 p3:Pos}{fi:WA}{t:Str}
variable{py:Pos}
theorem ua(i:Nat)(hN:X.N.Nodup)(hy:X.N[i]?=some y)(hl:X.env.scope.names.lookup y=some .local)(hi:Hl (DE X.K) X (.Name t p1) iter fi)(hg:∀C s0 Ha ex pn,PG (iN X scope [t] C s0 Ha ex pn) (.Name t p1) (B8 0))(hk:∀C s0 Ha ex pn,PE (iN X scope [t] C s0 Ha ex pn) (.Name t p2) (B2 0))
  (Iw:autoParam (abU (.DictComp (.Name t p2) (.List [] p3) [#[.Name t p1,iter,[],0]] scope pos) (some (.Name y py)) B3.line X.env=pure true) oR)
  (hc:autoParam (X.calm=true) oR) (hx:autoParam (X.xe=(λ_ _=>False)) oR) (Dq:autoParam (DI X.env scope=true) oR) (BP:autoParam (Cw X.N scope [t] [none]=true) oR) (BA:autoParam (scope.kind=.function) oR) (hs:autoParam (∀x,aaC iter X.env x=pure x) At) :
  E6 (DE X.K) X (.Assign [.Name y py] (.DictComp (.Name t p2) (.List [] p3) [#[.Name t p1,iter,[],0]] scope pos) B3) (kY i fi):=by
 obtain⟨wi,Iu,k⟩:=hi.ex;refine#[_,wz (i:=i) (wi:=wi) (g:=B8 0) (tc:=Nn) (tk:=B2 0) (te:=Qm LF) (N:=[t]) (js:=[none]) hN hy hl Iu hg (λC s0 Ha ex pn=>sE) hk (λC s0 Ha ex pn=>nU aN) lF Iw hc hx Dq BP BA hs,λZ F U H env P D K hf L=>?_];refine k Z F U H env _ _ K hf λxs e1 J F1 H1 pp s1 K1 I1 l hl=>?_;obtain⟨ks,HY,Ta,hlen,pp⟩:=pp;obtain⟨WW,_⟩:=be HY;obtain⟨fp,L1⟩:=K1.sl;have RE:Z.Ha l=none:=K1.h0 hl;refine#[λj m ys H'=>m=xs.length - j/\j<=xs.length/\∃(as:Aaj) (F':Hp),dO F1 F'/\as.length=j/\ys=((ks.take j).zip as).map (λt=>(t.1,V.ref t.2))/\H' l=some (.dK ys)/\as.Nodup/\(∀a∈as,H' a=some (.lst [])/\(Z.Ha a=none/\∀i,a∉fp i)/\F' a=none/\a≠l) /\
   tO (md (DE X.K) X) Z F' U H' e1/\Slots (md (DE X.K) X) Z F' U H' e1 fp/\F' l=none,?_,?_]
 .have hF:F1 l=none:=dO.none_of K1.sF hl;have hn:∀i,l∉fp i:=λi h=>(L1.al i l h).1 hl;obtain⟨K2,L2⟩:=K1.DG (o:=.dK []) L1 hF RE hn;exact#[_,rfl,aba _,[],F1,aj,rfl,#[0],ah,#[0],λa h=>by simp at h,K2,L2,hF]
 rintro j m ys H' ⟨rfl,hj,as,F',sF,RM,rfl,O4,hand,has,K',L',RP⟩;by_cases Cn:j<xs.length
 .have WX:j<ks.length:=by omega
  obtain⟨h1,h2⟩:=I1.go Z j U e1 F' H' xs[j] sF K' (by simp[Cn]);refine .inr #[h1,λv H3 yv=>?_];obtain⟨F3,s3,K3,r3,sH,nw⟩:=h2 v H3 yv;obtain⟨a0,ea,ek⟩:=n9 HY j ks[j] (by simp[WX]);rw[aab Cn]at ea;cases ea;have hv:=fu ek r3;subst hv;have L3:Slots (md (DE X.K) X) Z F3 U H3 e1 fp:=L'.move s3 (λ_ c o _ e=>sH c o e) nw;unfold B8 Nn;dsimp only;rw[if_pos rfl];refine#[_,rfl,aba _,λq hq=>#[ks[j],rfl,?_]];have U0:l≠q:=ao (sH _ _ O4) hq;have JD:(upd H3 q (.lst [])) l=some (.dK (((ks.take j).zip as).map λt=>(t.1,V.ref t.2))):=by rw[af U0];exact sH _ _ O4
  have Uz:(((ks.take j).zip as).map λt=>((t.1:Key),V.ref t.2)).length=j:=by simp[RM];omega
  have nF:∀{b:Addr},F' b=none->H' b≠none->F3 b=none:=λ{b} q1 q2=>by
   cases e:F3 b with
   |none=>rfl
   |some o=>
    rcases nw b (by rw[e];simp)with z|z
    .exact absurd q1 z
    .exact absurd z q2
  have RR:F3 l=none:=nF RP (by rw[O4];simp);have RQ:F3 q=none:=dO.none_of K3.sF hq;have WM:∀i,q∉fp i:=λi h=>(L3.al i q h).1 hq;obtain⟨K4,L4⟩:=K3.DG (o:=.lst []) L3 RQ (K3.h0 hq) WM;have UW:∀i,l∉fp i:=λi h=>(L1.al i l h).1 hl;have Vt:putK (((ks.take j).zip as).map λt=>((t.1:Key),V.ref t.2)) ks[j] (.ref q)=((ks.take (j+1)).zip (as++[q])).map λt=>(t.1,V.ref t.2):=by
   rw[uU,abI,aab WX]
   .rw[List.zip_append (by simp[RM];omega)];simp
   .intro z;rw[aaL]at z;obtain⟨⟨kk,aa⟩,hm,e⟩:=List.mem_map.mp z;have UZ:=(adt hm).1;have e:kk=ks[j]:=e;subst e;obtain⟨n,hn,en⟩:=List.mem_take_iff_getElem.mp UZ;have:=(abD Ta).mp en;omega
  obtain⟨K5,L5⟩:=K4.DG L4 RR RE UW;refine#[JD,by rw[Uz,aaJ];omega,xs.length - (j+1),#[],rfl,Cn,as++[q],F3,ag sF s3,by simp[RM],Vt,ah,?_,λa ha=>?_,K5,L5,RR]
  .rw[abG];refine#[hand,#[0],λa ha b hb z=>?_];simp at hb;subst hb;subst z;have:=sH _ _ (has a ha).1;rw[hq]at this;cases this
  .rcases List.mem_append.mp ha with ha|ha
   .obtain⟨q1,q2,q3,q4⟩:=has a ha;have:a≠q:=ao (sH _ _ q1) hq;exact#[by rw[af q4,af this];exact sH _ _ q1,q2,nF q3 (by rw[q1];simp),q4]
   .simp at ha;subst ha;exact#[by rw[af U0.symm];exact ah,#[K3.h0 hq,WM],RQ,U0.symm]
 .have e:j=xs.length:=by omega
  subst e;refine .inl #[I1.stop Z _ U e1 F' H' sF K' (aaj _),L.nx _ _ F' H' pp (ag s1 sF) ?_];have UW:∀i,l∉fp i:=λi h=>(L1.al i l h).1 hl;rcases aaQ i e1.length with N8|ID;case inr=>rw[aby ID,aby (by have:=K'.len;omega)];exact K'
  have ht:ks.take xs.length=ks:=ab7 #[];rw[ht]at O4;refine K'.slots (by simp[K'.len]) (L'.put (l:=l::as) #[0] (by have:=K'.len;omega) (.inr (.inr (.inl #[.inr rfl,l,rfl,λc hc=>.inr ?_,.inr (.inl #[(ks.zip as).map λt=>(t.1,t.2,[]),?_,?_,?_,?_,?_])]))) (λc hc=>?_) λj c _ hc=>?_)
  .rcases List.mem_cons.mp hc with rfl|hc
   .exact RE
   .exact(has c hc).2.1.1
  .rw[aaL];have:(ks.map λk=>((k:Key),PV.lst []))=(ks.zip as).map ((λt:Key×Addr×List PV=>(t.1,PV.lst t.2.2)) ∘ λt=>(t.1,t.2,[])):=by have e1:(λt:Key×Addr×List PV=>(t.1,PV.lst t.2.2)) ∘ (λt:Key×Addr=>(t.1,t.2,[]))=(λk=>((k:Key),PV.lst [])) ∘ Prod.fst:=rfl;rw[e1,<- aaL,List.map_fst_zip #[]]
   rw[this]
  .rw[aaL];have e1:(λt:Key×Addr×List PV=>t.2.1) ∘ (λt:Key×Addr=>(t.1,t.2,[]))=Prod.snd:=rfl;rw[e1,ae5 #[]]
  .rw[aaL];exact O4
  .rw[aaL];have e1:(λt:Key×Addr×List PV=>t.2.1) ∘ (λt:Key×Addr=>(t.1,t.2,[]))=Prod.snd:=rfl;rw[e1,ae5 #[]];exact hand
  .intro t ht;obtain⟨⟨kk,aa⟩,hm,rfl⟩:=List.mem_map.mp ht;exact#[[],(has aa (adt hm).2).1,.nil]
  .rcases List.mem_cons.mp hc with rfl|hc
   .exact#[by rw[O4];simp,RP]
   .exact#[by rw[(has c hc).1];simp,(has c hc).2.2.1]
  .rcases List.mem_cons.mp hc with rfl|hc
   .exact UW j
   .exact(has c hc).2.1.2 j
variable{px:Pos}
theorem ub(i:Nat){ke:Expr}{fk fv:WE}{ps:Pos}(hu:X.A.units+1<cLine)(ho:PE X (.Name x px) (B2 i))(hk:BH (DE X.K) X ke fk)(hv:BH (DE X.K) X e fv)(Lp:autoParam (Mg ke) Ch)
  (Cb:autoParam (abS (.Subscript (.Name x px) ke ps) "append" X.env (eval (.Subscript (.Name x px) ke ps) X.env)=eval (.Subscript (.Name x px) ke ps) X.env) oR)
  (FR:autoParam (((backTo BQ (aai [e] X.env)).all (λx=>!x.1) && (aew BQ (ado [] X.env)).all (λx=>x.1.isSome)
   && decide ([e].length+([]:List ade).length+(if ([]:List ade).isEmpty then 0 else 1)<30))=true) oR)
  (Ca:autoParam ((apos.endLine==BQ.line)=true) oR) (GN:autoParam (aai [e] X.env=(false,eval e X.env)::aai [] X.env) oR) (Du:autoParam ((backTo BQ (aai [] X.env)).any (·.1)=false) oR)
  (hs:autoParam (abU (.Call (.Attribute (.Subscript (.Name x px) ke ps) "append" apos) [e] [] BQ) none B3.line X.env=pure false) oR) :
  E6 (DE X.K) X (.Expr (.Call (.Attribute (.Subscript (.Name x px) ke ps) "append" apos) [e] [] BQ) B3) (fj i fk fv):=by
 obtain⟨tk,O2,kk⟩:=hk.ex;obtain⟨tv,UE,kv⟩:=hv.ex;refine#[_,lg (qT acY PySem.F.slot_list_append PySem.F.type_list_append dW (xg hu ho O2 Lp) (aD UE aN GN) Cb FR Ca GN Du) hs,λZ F U H env P D K hf L=>?_];unfold fj at hf;split at hf;case h_2=>exact hf.elim
 rename_i eQ ei;obtain⟨Ta,hf⟩:=hf;obtain⟨fp,L0⟩:=K.sl;obtain⟨w,hw,ok⟩:=L0.at' i _ ei;obtain⟨a,rfl,hd⟩:∃a,w=.ref a/\Nd X.K F H a (fp i) (.Cd eQ):=by
  rcases ok with ⟨k0,_⟩|⟨k0,_⟩|⟨_,a,e,_,h⟩|⟨k0,_⟩
  .cases k0
  .cases k0
  .rcases h with (⟨h,_⟩|⟨_,_,h,_⟩)|h|⟨_,_,_,_,h,_⟩|⟨_,_,_,_,_,h,_⟩
   .cases h
   .cases h
   .exact#[a,e,h]
   .cases h
   .cases h
  .cases k0
 refine#[_,hw,kk (Hr F H) F U H (FG env) _ _ K.pure hf λy e1 y' F1 H1 p1 s1 K1 r1=>?_];obtain⟨K2,Qy,Zr⟩:=K.JY K1;obtain⟨k,HD,xs,SY,p1⟩:=p1;have hy:=fu HD r1;subst hy;obtain⟨ks,R3,e2,e3,e4,e5⟩:=hd;cases R3;have LY:∃t∈ks,t.1=k/\t.2.2=xs:=by
  unfold GJ at SY;split at SY
  .rename_i zs hz;cases SY;unfold Dc at hz;rw[aax]at hz;obtain⟨kv,hf,hv⟩:=hz;have hm:=adH hf;have hp:=afw hf;obtain⟨t,ht,rfl⟩:=List.mem_map.mp hm;exact#[t,ht,of_decide_eq_true hp,by injection hv]
  .cases SY
 obtain⟨t,ht,rfl,rfl⟩:=LY;have HY:(ks.map (·.1)).Nodup:=by rw[aaL]at Ta;exact Ta
 have inj:∀t'∈ks,t'.1=t.1->t'=t:=λt' h' e=>by obtain⟨n,hn,rfl⟩:=List.mem_iff_getElem.mp ht;obtain⟨n',Ji,rfl⟩:=List.mem_iff_getElem.mp h';have:n'=n:=(abD (h₀:=by simpa using Ji) (h₁:=by simpa using hn) HY).mp (by simpa using e);subst this;rfl
 have Iv:Cz (ks.map λt=>(t.1,V.ref t.2.1)) t.1=some (.ref t.2.1):=by
  unfold Cz;rw[aax];cases hf:(ks.map λt=>(t.1,V.ref t.2.1)).find? λkv=>decide (kv.1=t.1)with
  |none=>have:=List.find?_eq_none.mp hf (t.1,V.ref t.2.1) (List.mem_map.mpr #[t,ht,rfl]);simp at this
  |some q=>have hm:=adH hf;have hp:=afw hf;obtain⟨t',Lm,rfl⟩:=List.mem_map.mp hm;have:=inj t' Lm (of_decide_eq_true hp);subst this;exact#[_,rfl,rfl]
 obtain⟨Qd,Fs,Wl⟩:=e5 t ht;refine#[a,.ref t.2.1,rfl,by rw[<- Iv];exact SU (Qy _ _ e3),.inl #[rfl,Qd,.inl (.inl (Qy _ _ Fs))],?_];refine kv (Hr F1 H1) F1 U H1 (FG env) _ _ K2.pure p1 λv e2' v' F2 H2 p2 s2 K3 r2=>?_;obtain⟨K4,TZ,Zq⟩:=K2.JY K3;have L4:=Zq fp (Zr fp L0);have Yz:=TZ _ _ (Qy _ _ Fs);have OX:=ag s1 s2;refine#[t.2.1,Qd,v',rfl,rfl,Yz,by rw[Wl.len,aaJ];have:=p2.1;omega,L.nx _ _ F2 _ p2.2 OX ?_];have Gf:t.2.1∈fp i:=by rw[e2];exact aam _ (aaV (f:=λt=>t.2.1) ht)
 have Um:t.2.1≠a:=wB Fs e3 (by intro z;cases z);refine(K4.Kj (.inr rfl) L4 ei hw (l':=fp i) (F':=F2) (λb o h1 h2=>?_) (λb h=>?_) aj (λb o h=>?_) (λb h=>.inl h) (.inr (.inl #[ks.map λt'=>if t'.1=t.1 then (t.1,t.2.1,t.2.2++[v])else t',?_,?_,?_,?_,?_])) (λb hb=>?_) (λb hb=>.inl hb)).1
 .rw[af λz:b=t.2.1=>h2 (by rw[z];exact Gf)];exact h1
 .by_cases q:b=t.2.1
  .subst q;rw[ah];simp
  .rw[af q];exact h
 .have:b≠t.2.1:=ao h (L4.al i _ Gf).2;rw[af this];exact K4.sF b o h
 .unfold GV;rw[aaL,aaL];congr 1;apply abJ;intro t' _;show (if t'.1=t.1 then (t.1,PV.lst (t.2.2++[v]))else (t'.1,PV.lst t'.2.2))=((if t'.1=t.1 then (t.1,t.2.1,t.2.2++[v])else t').1,PV.lst (if t'.1=t.1 then (t.1,t.2.1,t.2.2++[v])else t').2.2)
  split<;>rfl
 .rw[e2,aaL];congr 1;apply abJ;intro t' h';show t'.2.1=(if t'.1=t.1 then (t.1,t.2.1,t.2.2++[v])else t').2.1;split
  .rename_i q;rw[inj t' h' q]
  .rfl
 .rw[af Um.symm,TZ _ _ (Qy _ _ e3),aaL];congr 2;apply abJ;intro t' h';show (t'.1,V.ref t'.2.1)=((if t'.1=t.1 then (t.1,t.2.1,t.2.2++[v])else t').1,V.ref (if t'.1=t.1 then (t.1,t.2.1,t.2.2++[v])else t').2.1)
  split
  .rename_i q;rw[inj t' h' q]
  .rfl
 .rw[aaL];have:(ks.map ((λt=>t.2.1) ∘ λt'=>if t'.1=t.1 then (t.1,t.2.1,t.2.2++[v])else t'))=ks.map λt=>t.2.1:=by
   apply abJ;intro t' h';show (if t'.1=t.1 then (t.1,t.2.1,t.2.2++[v])else t').2.1=t'.2.1;split
   .rename_i q;rw[inj t' h' q]
   .rfl
  rw[this];exact e4
 .intro q hq;obtain⟨t',h',rfl⟩:=List.mem_map.mp hq;by_cases e:t'.1=t.1
  .rw[if_pos e];exact#[_,ah,(Wl.mono OX).app (.cons r2 .nil)]
  .rw[if_neg e];obtain⟨Ib,q1,q2⟩:=e5 t' h';have hne:t'.2.1≠t.2.1:=λz=>by obtain⟨n,hn,rfl⟩:=List.mem_iff_getElem.mp ht;obtain⟨n',Ji,rfl⟩:=List.mem_iff_getElem.mp h';have:n'=n:=(abD (h₀:=by simpa using Ji) (h₁:=by simpa using hn) e4).mp (by simpa using z);subst this;exact e rfl
   exact#[Ib,by rw[af hne];exact TZ _ _ (Qy _ _ q1),q2.mono OX]
 .have:=L4.al i b hb;refine#[?_,this.2];by_cases q:b=t.2.1
  .subst q;rw[ah];simp
  .rw[af q];exact this.1
def t9(i:Nat)(ho:PE X (.Name x px) (B2 i)):E6 ob X (.Return (some (.Name x px)) B3) (kW i):=by
 refine#[_,fq ho,λZ F U H env P D K hf L=>?_];unfold kW at hf;split at hf;case h_2=>exact hf.elim
 rename_i y ei;obtain⟨fp,L0⟩:=K.sl;obtain⟨w,hw,ok⟩:=L0.at' i _ ei;exact#[_,hw,L.ro _ i env w U F H hf aj K ei hw]
def MU(P:Aap):Wd:={nx:=λ_=>P .Bw,rt:=λx _=>P x,ro:=λx _ _=>(∃eQ,x=.Cd eQ)/\P x}
def Mu(n:Nat)(u:WS):Fd:=λxs P=>u (MU P) (Cf n xs)
variable{P:aaD}{w:World}{mg:Aag}{base:Heap}
variable{qual:Str}{st:Stmt}{N:Aaa}{u:WS}
theorem zV{f:Addr}(F:H0 K x qual st f fd)(S:ap N ps (ak st))(hn:ps.length<=N.length)
  (hb:∀(BI:Value) (A:Around) (outer:List Env) (s:Shared) (H:Hp) (E:XK),BS k (A.deeper (envOfC qual (ak st) s.heap.objs.size f BI))->EG (DE K) (E3 Cu P w K mg base N qual (ak st) f BI A outer s H E).JQ (aP st) u) :
  BD P w K mg base Cu (k+1) f fd ps (Nw #[P,w,K,DE K] ps.length (Mu N.length u)):=by
 refine F.ok S (λvs H Q E h=>?_) (λBI A outer s H vs Q E hr h=>?_)
 .obtain⟨F,xs,P,_,r,hl,_⟩:=h;rw[r.len];exact hl
 .obtain⟨F,xs,P',sF,r,hl,hD,kk⟩:=h;obtain⟨t,ht,kt⟩:=(hb BI A outer s H E hr).ex;refine#[t,ht,kt #[H,F,[],λ_=>none,λ_ h=>by simp at h] F (start N vs) H (Cf N.length xs) (MU P') _ (gI (M:=#[P,w,K,DE K]) sF r #[]) hD #[λenv U F' H' p s1 K1=>?_,λx env v U F' H' p s1 K1 rv=>?_,λ_ _ _ _ p=>p.elim,λ_ _ _ _ p=>p.elim,λ_ _ _ _ _ _ p=>p.elim,λx i env v U F' H' p s1 K1 ei hv=>?_]]
  .exact kk .Bw .Bw F' H' p (λb o h=>K1.sG b o h #[0]) s1 K1.sF K1.nw .Bw
  .exact kk x v F' H' p (λb o h=>K1.sG b o h #[0]) s1 K1.sF K1.nw rv
  .obtain⟨O1,p⟩:=p;obtain⟨fp,L⟩:=K1.sl;obtain⟨v',Ku,ok⟩:=L.at' i _ ei;rw[hv]at Ku;cases Ku;rcases ok with ⟨k0,_⟩|⟨k0,_⟩|⟨_,a,rfl,Yy,h⟩|⟨k0,_⟩
   .cases k0
   .cases k0
   .obtain⟨kv0,O1⟩:=O1;rcases h with (⟨h,_⟩|⟨_,_,h,_⟩)|⟨ks,rfl,e2,e3,e4,e5⟩|⟨_,_,_,_,h,_⟩|⟨_,_,_,_,_,h,_⟩
    .rw[O1]at h;cases h
    .rw[O1]at h;cases h
    rotate_left
    .rw[O1]at h;cases h
    .rw[O1]at h;cases h
    .let F2:Hp:=λb=>if b∈fp i then H' b else F' b;have Wg:dO F' F2:=λb o hb=>by
      show (if b∈fp i then H' b else F' b)=some o;split
      .exact K1.sF b o hb
      .exact hb
     have at2:∀b,b∈fp i->F2 b=H' b:=λb hb=>if_pos hb;refine kk _ _ F2 H' p (λb o h=>K1.sG b o h #[0]) (ag s1 Wg) (λb o hb=>?_) (λb hb=>?_) ?_
     .have hb:(if b∈fp i then H' b else F' b)=some o:=hb;split at hb
      .exact hb
      .exact K1.sF b o hb
     .have hb:(if b∈fp i then H' b else F' b)≠none:=hb;split at hb
      .rename_i q;rcases Yy b q with z|z
       .simp at z
       .exact .inr z
      .exact K1.nw b hb
     .have ha:F2 a=some (.dK (ks.map λt=>(t.1,V.ref t.2.1))):=by rw[at2 a (by rw[e2];simp)];exact e3
      refine .Cd ha ?_;have go:∀(l:List (Key×Addr×Aad)),(∀t∈l,t∈ks)->Bo K F2 (l.map λt=>(t.1,V.ref t.2.1)) (l.map λt=>(t.1,PV.lst t.2.2)):=by
       intro l;induction l with
       |nil=>intro _;exact .nil
       |cons t l ih=>intro hs;obtain⟨Ib,q1,q2⟩:=e5 t (hs t #[0]);refine .cons (.lst ?_ (q2.mono Wg)) (ih λt' h'=>hs t' (aam _ h'));rw[at2 _ (by rw[e2];exact aam _ (aaV (f:=λt=>t.2.1) (hs t #[0])))];exact q1
      exact go ks λ_ h=>h
   .cases k0
def Ga(ss ts:Aaa):Prop:=ts.Perm ss/\ts.Pairwise λa b=>¬ B0 b a
noncomputable def FL:Key->Option Str
 |.inr s=>some s
 |.inl _=>none
noncomputable def C8(fa:WA):WE:=λenv P=>fa env λxs e=>match xs with
 |[.lst ys]=>∃ss,ys.mapM Fy=some ss/\ss.length<64/\∀ts,Ga ss ts->P (.lst (ts.map .str)) e
 |[.Cd eQ]=>∃ss,(eQ.map (·.1)).mapM FL=some ss/\ss.length<64/\∀ts,Ga ss ts->P (.lst (ts.map .str)) e
 |_=>False
def dS:∀(ss:Aaa),rW K F (ss.map V.str) (ss.map PV.str)
 |[]=>.nil
 |s::ss=>.cons (.str s) (dS ss)
def j8:∀{ks:Aau} {ss:Aaa},ks.mapM FL=some ss->ks=ss.map aaU
 |[],ss,h=>by simp_all
 |k::ks,ss,h=>by
  rw[abB]at h;cases ea:FL k with
  |none=>rw[ea]at h;cases h
  |some a=>
   rw[ea]at h;cases el:ks.mapM FL with
   |none=>rw[el]at h;cases h
   |some bs=>rw[el]at h;cases h;rw[j8 el];cases k<;>cases ea;rfl
variable{a b c:Expr}{es:Aak}{g h:WE}{fa:WA}
def vP(hc:X.calm=true)(hg:Gl X "sorted")(hm:X.mg "sorted" = none)(ha:JN ob X (e::es) fa)
  (he:autoParam (aai (e::es) X.env=(false,eval e X.env)::aai es X.env) oR) (CM:autoParam ((backTo pos (aai es X.env)).any (·.1)=false) oR):GD ob X (.Call (.Name "sorted" p) (e::es) [] pos) (C8 fa):=by
 obtain⟨t,ht,k⟩:=ha.ex;refine#[_,bB (BM.or rM (rO hc)) hg hm afm ht #[2] (rfl) he CM,λZ F U H env P Q K hf kk=>k Z F U H env _ _ K hf λxs e1 vs F1 H1 p s1 K1 r1=>?_];split at p
 .obtain⟨ss,hs,hl,p⟩:=p;obtain⟨v,rfl,r⟩:=r1.one;obtain⟨q,vs,rfl,h1,h2⟩:=r.lst K1.sF;have:=bj cT hs h2;subst this;exact .inl #[q,ss,rfl,.inl (.inl h1),hl,λl ts hn hp hw=>kk _ e1 _ F1 _ (p ts #[hp,hw]) s1 (λ_=>#[0]) (K1.own hn #[_,ah,dS ts])]
 .obtain⟨ss,hs,hl,p⟩:=p;obtain⟨v,rfl,r⟩:=r1.one;obtain⟨q,vs,rfl,h1,h2⟩:=r.Cd K1.sF;refine .inr #[q,vs,ss,rfl,h1,by rw[h2.keys];exact j8 hs,hl,λl ts hn hp hw=>kk _ e1 _ F1 _ (p ts #[hp,hw]) s1 (λ_=>#[0]) (K1.own hn #[_,ah,dS ts])]
 .exact p.elim
end Q
namespace L2
open PySem PySem.Spec PyProof.Rows
variable{prog:aaD}{w:World}{A:Around}{E:Aab}{s:Shared}
variable{j t:Addr}{n:Nat}{gE:Aam}{x:Value}{Q:Aab}
def xH(gj:s.heap.IsListIter j t n)(gt:s.heap.IsList t gE)(gx:gE[n]?=some x)
  (k:∀h',h'.IsListIter j t (n+1)->abV j s.heap h'->Q x {s with heap:=h'}):wpAny (model prog w) A (aaT (.ref j)) Q E s:=by
 obtain⟨oj,j1,j2,j3⟩:=id gj;obtain⟨ot,t1,_,m,t3⟩:=gt;refine aaa (abp gj.typeIs acU (aa2 acU gj.typeIs afD ?_ (PySem.args_listiter_next _)));show wpAny _ _ (field _ 0 >>= _) _ _ s;refine aaa (abz j1 j3 rfl ?_);refine aaa (abz j1 j3 rfl ?_);refine aaa (abm t1 t3 ?_);simp only[acL,gx];refine aaa (abY j1 j3 #[0] (aae #[x,rfl,aae (k _ #[_,abo _ j1 (ab9 (aa6 j3 _)),(ac7 ..).trans j2,?_] (aaN ..))]));rw[aa6 j3];simp[rawInt]
def OD(hh:A.handled=none)(gj:s.heap.IsListIter j t n)(gt:s.heap.IsList t gE)(gx:gE[n]?=none)
  (k:∀h' e,adZ j s.heap h'->(∃o,h'.get? e=some o/\o.cls=.type "StopIteration")->E (.ref e) {s with heap:=h'}):wpAny (model prog w) A (aaT (.ref j)) Q E s:=by
 obtain⟨oj,j1,j2,j3⟩:=id gj;obtain⟨ot,t1,_,m,t3⟩:=gt;refine aaa (abp gj.typeIs acU (aa2 acU gj.typeIs afD ?_ (PySem.args_listiter_next _)));show wpAny _ _ (field _ 0 >>= _) _ _ s;refine aaa (abz j1 j3 rfl ?_);refine aaa (abz j1 j3 rfl ?_);refine aaa (abm t1 t3 ?_);simp only[acL,gx];refine aaa (acs (aaa (abY j1 j3 #[0] ?_)));refine aaa (aaa (aa1 (aaa (ae8 (rfl) (aa1 ?_ (by size_fits)))) (by size_fits)));refine aaa (wpAny_handled ?_)
 first|rw[hh]|rw[hh]
 exact aaa (aae (wpAny_throw (k _ _ (((aaN ..).extBut.push _).push _) #[_,aag _ rfl,rfl])))
structure af0(h:Heap)(z u o i1 i2 t1 t2:Addr)(n:Nat):Prop where
 zz:IsZip h z u o .none
 uu:IsPair h u (.ref i1) (.ref i2)
 oo:∃a b,IsPair h o a b
 a1:h.IsListIter i1 t1 n
 a2:h.IsListIter i2 t2 n
variable{h h':Heap}{a:Addr}
def GJ(x:h.IsList a gE)(k:∀o,h.get? a=some o->h'.get? a=some o):h'.IsList a gE:=by obtain⟨o,e,r⟩:=x;exact#[o,k o e,r]
variable{z u o:Addr}{v:Value}
def rg(x:h.IsList t gE)(y:IsZip h z u o v):t≠z:=by rintro rfl;obtain⟨q,e,c,_⟩:=x;rw[y]at e;cases e;simp at c
variable{X:Cx}
end L2
namespace Q
open PySem L2
variable{ob:Ct}{X:Cx}{a b:Expr}{fa:WA}{pos p:Pos}
def Yp(a:WA):WA:=λenv P=>a env λxs e=>match xs with
 |[.tup xs,.tup ys]=>P (Fu xs ys) e
 |[.lst xs,.lst ys]=>P (Fu xs ys) e
 |_=>False
variable{α:Type}
def bv{z:α}{P:α->Prop}:opt (some z) P=P z:=propext CC
def ve{P:α->Prop}:opt none P=False:=propext #[λ#[_,e,_]=>(nomatch e),λh=>h.elim]
def ae{o:Option α}{z:α}{P:α->Prop}(h:o=some z)(k:P z):opt o P:=#[z,h,k]
theorem yG(xs:List α)(n:Nat):EC xs none (some (n:Int))=xs.take n:=by
 unfold EC;rw[HT.FD,HT.G3,List.drop_zero,Nat.sub_zero];by_cases h:n<=xs.length
 .rw[Nat.min_eq_left h]
 .rw[Nat.min_eq_right #[],abi,ab7 #[]]
theorem mD(xs:List α)(n:Nat):EC xs (some (n:Int)) none=xs.drop n:=by
 unfold EC;rw[HT.FD,HT.G3];by_cases h:n<=xs.length
 .rw[Nat.min_eq_left h,ab7 #[0]]
 .rw[Nat.min_eq_right #[],List.drop_length,List.drop_of_length_le #[]];simp
variable{g:WG}{c:WT}{f:WE}{js:Aah}{P:Aal}{env:En}
theorem aX(G:PV->Option PV):∀{xs acc:Aad},(∀x∈xs,∀R:Aaw->En->Prop,R (G x) env ->
   g x (EE js env) λb1=>c b1 λok b2=>if ok=true then f b2 λy b3=>R (some y) (Ce js env b3)else R none (Ce js env b2))->acc.length+xs.length<=100000->P (.lst (acc++xs.filterMap G)) env->CD g c f js P xs env acc
 |[],acc,_,_,k=>by simpa[CD]using k
 |x::xs,acc,h,hl,k=>by
  have HC  :=by simpa[abF]using hl
  have:=h x #[0] (λo e=>(match o with|some y=>acc.length<=100000/\CD g c f js P xs e (acc++[y])|none=>CD g c f js P xs e acc)) (by
   cases e:G x with
   |none=>refine aX G (λy hy=>h y #[1]) #[] ?_;simpa[e]using k
   |some y=>refine#[#[],aX G (λy hy=>h y #[1]) #[3] ?_];simpa[e]using k)
  exact this
theorem bo(G:PV->PV):∀{xs acc:Aad},(∀x∈xs,∀R:PV->En->Prop,R (G x) env->g x (EE js env) λb1=>f b1 λy b3=>R y (Ce js env b3))->acc.length+xs.length<=100000->P (.lst (acc++xs.map G)) env->CD g EM f js P xs env acc
 |[],acc,_,_,k=>by simpa[CD]using k
 |x::xs,acc,h,hl,k=>by
  have HC  :=by simpa[abF]using hl
  exact h x #[0] (λy e=>acc.length<=100000/\CD g EM f js P xs e _) #[#[],bo G (λy hy=>h y #[1]) #[3] #[1]]
def aH{b:WS}{P:Wd}(I:Nat->En->Prop):∀{xs:Aad} {i:Nat} {env:En},I i env->(∀(j:Nat) (x:PV) (e:En) (N:En->Prop),xs[j]?=some x->I (i+j) e->(∀e',I (i+j+1) e'->N e')->g x e λe1=>b {P with nx:=N,ct:=N,bk:=P.nx} e1)->(∀e,I (i+xs.length) e->P.nx e)->GR g b P xs env
 |[],i,env,h0,_,hd=>hd env #[1]
 |x::xs,i,env,h0,hs,hd=>hs 0 x env _ rfl h0 λe' h'=>aH I h' (λj y e N hj hI k=>hs (j+1) y e N #[1] (by rwa [abF,aco 1 j]at hI) λe' h=>k e' (by rwa [abF i 1 j,aco 1 j])) λe h=>hd e (by rwa [aaG,aco xs.length 1,<- abF])
def qE:∀(bs:List Bool),(bs.map PV.bl).mapM GB=some bs
 |[]=>rfl
 |b::bs=>by rw[aau,abB,qE bs];rfl
def ia(bs:List Bool):CG [.lst (bs.map .bl)]=some (.bl (bs.all id)):=by show ((bs.map PV.bl).mapM GB).map _=_;rw[qE];rfl
def ai{a b:WS}{P:Wd}(h:∀N:En->Prop,N=b P->a {P with nx:=N} env):nE a b P env:=h _ rfl
def ba{it:WA}{b:WS}{P:Wd}(h:∀(G:WG) (B:WS),G=g->B=b->it env λxs e=>GR G B P xs e):Ey it g b P env:=h _ _ rfl rfl
variable{s:Sl}
def zH:(some (some s):Option (Aat)).join.isSome=true:=rfl
variable{x:PV}
def Fj{zs:Aad}(h:zs.length<=100000):aW zs [x]=some (.Bw,zs++[x]):=if_pos h
variable{k:Nat}{C6:Addr}{fd:abM}{ps:Aaa}{x y:Str}{p1 pos':Pos}
end Q
set_option hygiene false in
local macro_rules|`(tactic| lia)=>`(tactic| simp only[Q.run,Q.Im,Q.Cf,Q.R0,Q.Ma,Q.ME,Q.nE,Q.DK,Q.BB,Q.Cr,Q.By,Q.CA,Q.De,Q.Jq,Q.IY,Q.Gm,Q.Dr,Q.CV,Q.Bs,Q.IP,Q.Xr,Q.lT,Q.CF,Q.eC,Q.eV,Q.BV,Q.a1,Q.bY,Q.aS,Q.E2,Q.KU,Q.ZL,Q.Vy,Q.Dm,Q.CZ,Q.D8,Q.Kt,Q.iS,Q.Yp,Q.R1,Q.FI,Q.FH,Q.Br,Q.Ks,Q.Nl,Q.Jy,Q.B7,Q.Ir,Q.Jv,Q.JI,Q.J0,Q.GB,Q.bv,Q.ve,aau,List.map_nil,aaO,List.cons_append,aa3,aaG,ab4,ac1,List.getElem?_cons_succ,List.set_cons_zero,List.set_cons_succ,aea,if_true,aeD,Bool.not_false,abO,if_false,decide_true,decide_false,ite_true,ite_false,Q.Hs,Q.gT,Q.gN,Q.BU,Q.Ee,Q.E9,Q.Nz,String.reduceBEq,Bool.false_and,Bool.or_false,Bool.false_or,Bool.true_or,Bool.and_true,Bool.true_and,Nat.reduceAdd,Nat.reduceSub,Q.Bq,Q.zH,true_and,Q.HJ,Q.QZ,Q.LP,Q.Yq])
namespace Q
open PySem L2 PyProof.Rows
variable{ob:Ct}{X:Cx}{iter:Expr}{scope:Scope}{pos p1 p2 p3:Pos}{fi:WA}{x t:Str}
variable{y:Str}{py B3:Pos}
def rD(i:Nat)(hN:X.N.Nodup)(hy:X.N[i]?=some y)(hl:X.env.scope.names.lookup y=some .local)(hi:Hl ob X (.Name t p1) iter fi)(hg:∀C s0 Ha ex pn,PG (iN X scope [t] C s0 Ha ex pn) (.Name t p1) (B8 0))(hk:∀C s0 Ha ex pn,PE (iN X scope [t] C s0 Ha ex pn) (.Name t p2) (B2 0))
  (JA:autoParam (ob=DE X.K) oR)
  (Iw:autoParam (abU (.DictComp (.Name t p2) (.List [] p3) [#[.Name t p1,iter,[],0]] scope pos) (some (.Name y py)) B3.line X.env=pure true) oR)
  (hc:autoParam (X.calm=true) oR) (hx:autoParam (X.xe=(λ_ _=>False)) oR) (Dq:autoParam (DI X.env scope=true) oR) (BP:autoParam (Cw X.N scope [t] [none]=true) oR) (BA:autoParam (scope.kind=.function) oR) (hs:autoParam (∀x,aaC iter X.env x=pure x) At) :
  E6 ob X (.Assign [.Name y py] (.DictComp (.Name t p2) (.List [] p3) [#[.Name t p1,iter,[],0]] scope pos) B3) (kY i fi):=by
 subst JA;exact ua i hN hy hl hi hg hk Iw hc hx Dq BP BA hs
variable{e:Expr}{px apos:Pos}
def rE(i:Nat){ke:Expr}{fk fv:WE}{ps BQ:Pos}(hu:X.A.units+1<cLine)(ho:PE X (.Name x px) (B2 i))(hk:BH ob X ke fk)(hv:BH ob X e fv)(JA:autoParam (ob=DE X.K) oR)(Lp:autoParam (Mg ke) Ch)
  (Cb:autoParam (abS (.Subscript (.Name x px) ke ps) "append" X.env (eval (.Subscript (.Name x px) ke ps) X.env)=eval (.Subscript (.Name x px) ke ps) X.env) oR)
  (FR:autoParam (((backTo BQ (aai [e] X.env)).all (λx=>!x.1) && (aew BQ (ado [] X.env)).all (λx=>x.1.isSome)
   && decide ([e].length+([]:List ade).length+(if ([]:List ade).isEmpty then 0 else 1)<30))=true) oR)
  (Ca:autoParam ((apos.endLine==BQ.line)=true) oR) (GN:autoParam (aai [e] X.env=(false,eval e X.env)::aai [] X.env) oR) (Du:autoParam ((backTo BQ (aai [] X.env)).any (·.1)=false) oR)
  (hs:autoParam (abU (.Call (.Attribute (.Subscript (.Name x px) ke ps) "append" apos) [e] [] BQ) none B3.line X.env=pure false) oR) :
  E6 ob X (.Expr (.Call (.Attribute (.Subscript (.Name x px) ke ps) "append" apos) [e] [] BQ) B3) (fj i fk fv):=by
 subst JA;exact ub i hu ho hk hv Lp Cb FR Ca GN Du hs
variable{P:aaD}{w:World}{K:aaf}{mg:Aag}{base:Heap}{k:Nat}{C6:Addr}{fd:abM}{ps:Aaa}
variable{n:Nat}
def ya{D D':Fd}(F:BD P w K mg base Cu k C6 fd ps (Nx #[P,w,K,ob] n D))(h:∀xs P,D' xs P->D xs P):BD P w K mg base Cu k C6 fd ps (Nx #[P,w,K,ob] n D') :=
 F.imp λvs H Q E #[F,xs,P,a,b,c,d,e]=>#[F,xs,P,a,b,c,h _ _ d,e]
variable{D D':Eu}
def vK(F:BD P w K mg base Cu k C6 fd ps (G2 #[P,w,K,ob] n D))(h:∀c xs P,D' c xs P->D c xs P):BD P w K mg base Cu k C6 fd ps (G2 #[P,w,K,ob] n D') :=
 F.imp λvs H Q E q=>by obtain⟨F,a,l,c,ws,xs,P,a1,a2,a3,a4,a5,a6,a7,a8⟩:=q;exact#[F,a,l,c,ws,xs,P,a1,a2,a3,a4,a5,a6,h _ _ _ a7,a8]
open PySem L2
variable{c:WT}{b:WS}{P:Wd}{k:Nat}{env:En}
theorem dR(I:Nat->En->Prop)(step:∀(k:Nat) (e:En) (N:En->Prop),I k e->(∀k' e',k'<k->I k' e'->N e')->c e λv e1=>if v=true then b {P with nx:=N,ct:=N,bk:=P.nx} e1 else P.nx e1)(h:I k env):DJ c b P env:=by
 refine#[k+1,?_];have aux:∀n k env,k<n->I k env->JV c b P n env:=by
  intro n;induction n with
  |zero=>omega
  |succ n ih=>intro k env hk hI;exact step k env _ hI λk' e' h1 h2=>ih k' e' #[] h2
 exact aux _ k env #[] h
def bf{a:WS}(h:∀(A B:WS),A=a->B=b->c env λk e=>if k=true then A P e else B P e):DK c a b P env:=h _ _ rfl rfl
def dM(h:∀(C:WT) (B:WS),C=c->B=b->DJ C B P env):DJ c b P env:=h _ _ rfl rfl
variable{α:Type}
def aY{f:α->Str}{g:α->PV}:∀{l:List α} {a:α},(l.map f).Nodup->a∈l->Dc (l.map λx=>((aaU (f x):Key),g x)) (aaU (f a))=some (g a)
 |b::l,a,nd,h=>by
  unfold Dc;rw[aau,acm];rw[aau,ack]at nd;rcases List.mem_cons.mp h with rfl|h
  .simp
  .have hne:f b≠f a:=λe=>nd.1 (by rw[e];exact aaV h);have:decide ((aaU (f b):Key)=aaU (f a))=false:=by simp_all
   simp only[this];exact aY nd.2 h
def lS{f:α->Str}{g:α->PV}:∀{l:List α} {y:Str},y∉l.map f->Dc (l.map λx=>((aaU (f x):Key),g x)) (aaU y)=none
 |[],_,_=>rfl
 |b::l,y,h=>by
  rw[aau,abf,not_or]at h;unfold Dc;rw[aau,acm];have:decide ((aaU (f b):Key)=aaU y)=false:=by simp;exact λe=>h.1 e.symm
  simp only[this];exact lS h.2
variable{y:Str}
def nR{f:α->Str}{g:α->PV}{l:List α}{v:PV}(h:y∉l.map f):Gr (l.map λx=>((aaU (f x):Key),g x)) (aaU y) v=(l.map λx=>((aaU (f x):Key),g x))++[(aaU y,v)]:=by unfold Gr;rw[if_neg];rw[List.any_map];intro z;rw[List.any_eq_true]at z;obtain⟨x,hx,e⟩:=z;exact h #[1]
variable{ys:Aaa}{x:Str}
def xM:(ys.map PV.str).mapM (λy=>Cc 60 y (.str x))=some (ys.map λy=>y==x):=by
 induction ys with
 |nil=>rfl
 |cons y ys ih=>rw[aau,abB,ih];rfl
def lC:JS (.str x) (.tup (ys.map .str))=some (decide (x∈ys)):=by show ((ys.map PV.str).mapM (λy=>Cc 60 y _)).map _=_;rw[xM];show some ((ys.map _).any id)=_;congr 1;rw[aa0];simp
def ou:JS (.str x) (.lst (ys.map .str))=some (decide (x∈ys)):=lC
def aO:CK (.str x) (.tup (ys.map .str))=some (.bl (decide (x∈ys))):=by show (JS _ _).map _=_;rw[lC];rfl
def bW:CK (.str x) (.lst (ys.map .str))=some (.bl (decide (x∈ys))):=by show (JS _ _).map _=_;rw[ou];rfl
variable{g:WG}{f:WE}{js:Aah}
theorem og{P:Aal}(I:Nat->List PV->Prop):∀{xs:Aad} {i:Nat} {acc:Aad},I i acc->acc.length<=i->i+xs.length<=100000 ->
  (∀(j:Nat) (x:PV) (acc:Aad) (R:Aaw->En->Prop),xs[j]?=some x->I (i+j) acc->(∀o:Aaw,I (i+j+1) (acc++o.toList)->R o env)->g x (EE js env) λb1=>c b1 λok b2=>if ok=true then f b2 λy b3=>R (some y) (Ce js env b3)else R none (Ce js env b2)) ->
  (∀acc,I (i+xs.length) acc->acc.length<=i+xs.length->P (.lst acc) env)->CD g c f js P xs env acc
 |[],i,acc,h0,hl,_,_,hd=>hd acc (by simpa using h0) (by simpa using hl)
 |x::xs,i,acc,h0,hl,hb,hs,hd=>by
  have Lx:i+xs.length+1<=100000:=by simpa[abF]using hb
  refine hs 0 x acc (λo e=>(match o with|some y=>acc.length<=100000/\CD g c f js P xs e (acc++[y])|none=>CD g c f js P xs e acc)) rfl h0 λo ho=>?_;have rest:∀F9,I (i+1) F9->F9.length<=i+1->CD g c f js P xs env F9:=λF9 h1 h2=>og I (i:=i+1) h1 h2 #[] (λj y a R hj hI k=>hs (j+1) y a R (by simpa using hj) (by rwa [abF,aco 1 j]at hI) λo h=>k o (by rwa [abF i 1 j,aco 1 j])) λa h h'=>hd a (by rwa [aaG,aco xs.length 1,<- abF]) (by rw[aaG];omega);cases o with
  |none=>exact rest acc (by simpa using ho) #[]
  |some y=>exact#[#[],rest (acc++[y]) (by simpa using ho) #[3]]
end Q
namespace L2
open PySem PySem.Spec PyProof.Rows
variable{X:Cx}
end L2
namespace Q
open PySem L2 PyProof.Rows
variable{ob:Ct}{X:Cx}{a b c e:Expr}{es:Aak}{f g h:WE}{fa:WA}{pos p p1:Pos}{x:Str}
def yn{d:Nat}:∀(a b:Aaa),Cc (d+2) (.tup (a.map .str)) (.tup (b.map .str))=some (decide (a=b)):=by
 intro a b;have e:((a.map PV.str).zip (b.map PV.str)).mapM (λp=>Cc (d+1) p.1 p.2)=some ((a.zip b).map λp=>p.1==p.2):=by
  rw[List.zip_map];generalize a.zip b=l;induction l with
  |nil=>rfl
  |cons p l ih=>rw[aau,abB,ih];rfl
 show (((a.map PV.str).zip _).mapM (λp=>Cc _ p.1 p.2)).map _=_;rw[e,aac,aac];show some (((a.zip b).map _).all id && a.length==b.length)=_;congr 1;rw[List.all_map,aa0,aaS,decide_eq_true_eq,beq_iff_eq];clear e;constructor
 .rintro⟨h1,h2⟩;induction a generalizing b with
  |nil=>cases b with|nil=>rfl|cons _ _=>cases h2
  |cons x a ih=>
   cases b with
   |nil=>cases h2
   |cons y b=>
    rw[abX,List.all_cons,aaS]at h1;have ZG:x=y:=by simp_all
    rw[ZG,ih b h1.2 #[1]]
 .rintro rfl;refine#[?_,rfl];rw[ad2];rintro⟨x,y⟩ hm;have:x=y:=by obtain⟨i,hi⟩:=List.getElem?_of_mem hm;rw[aa5]at hi;have:=hi.1.symm.trans hi.2;simpa using this
  simp[this]
noncomputable def L8:PV->Option Str
 |.tup (.str s::_)=>some s
 |_=>none
def IL(fa:WA):WE:=λenv P=>fa env λxs e=>match xs with
 |[.lst ys]=>∃nm:Aaa,ys.mapM L8=some nm/\nm.Nodup/\ys.length<64/\∀ix:Aan,ix.length=ys.length->(∀i∈ix,i<ys.length)->(ix.map λi=>nm.getD i #[#v[]]).Pairwise B0->P (.lst (ix.map λi=>ys.getD i .Bw)) e
 |_=>False
variable{K:aaf}{F H:Hp}{v:V}{y:PV}
def x8(sF:dO F H)(r:Rep K F v y)(h:L8 y=some x):∃a t,v=.ref a/\C3 K H a (.str x::t):=by
 unfold L8 at h;split at h
 .cases h;cases r with
  |tup h1 h2=>cases h2 with
   |cons r1 r2=>cases r1;exact#[_,_,rfl,au sF h1]
 .cases h
variable{vs:Aai}{ys:Aad}
def lW(r:rW K F vs ys):∀ix:Aan,(∀i∈ix,i<ys.length)->rW K F (ix.map λi=>vs.getD i .Bw) (ix.map λi=>ys.getD i .Bw)
 |[],_=>.nil
 |i::ix,h=>by refine .cons ?_ (lW r ix λj hj=>h j (aam _ hj));have hi:=h i aan;obtain⟨v,hv,rv⟩:=r.get (aab hi);show Rep K F (vs.getD i .Bw) (ys.getD i .Bw);rw[aaq,aaq,hv,aab hi];exact rv
theorem vQ(hg:Gl X "sorted")(hm:X.mg "sorted" = none)(ha:JN ob X (e::es) fa)
  (he:autoParam (aai (e::es) X.env=(false,eval e X.env)::aai es X.env) oR) (CM:autoParam ((backTo pos (aai es X.env)).any (·.1)=false) oR):GD ob X (.Call (.Name "sorted" p) (e::es) [] pos) (IL fa):=by
 obtain⟨t,ht,k⟩:=ha.ex;refine#[_,bB rN hg hm afm ht #[2] (rfl) he CM,λZ F U H env P Q K hf kk=>k Z F U H env _ _ K hf λxs e1 vs F1 H1 p s1 K1 r1=>?_];split at p
 .obtain⟨nm,hs,nd,hl,p⟩:=p;obtain⟨v,rfl,r⟩:=r1.one;obtain⟨q,vs,rfl,h1,h2⟩:=r.lst K1.sF;have g1:=(be hs).1;have hlen:=h2.len;refine#[q,vs,nm,rfl,.inl (.inl h1),#[],#[#[],λi v x hv hx=>?_,nd],λl ix hn i1 i2 i3 i4=>?_]
  .obtain⟨y,hy,ry⟩:=h2.KG hv;obtain⟨y',e1,e2⟩:=n9 hs i x hx;rw[hy]at e1;cases e1;exact x8 K1.sF ry e2
  .exact kk _ e1 _ F1 _ (p ix #[] (λi hi=>#[1]) i4) s1 (λ_=>#[0]) (K1.own hn #[_,ah,lW h2 ix λi hi=>#[1]])
 .exact p.elim
end Q
namespace L2
open PySem PySem.Spec PyProof.Rows
variable{prog:aaD}{w:World}{A:Around}{E:Aab}{s:Shared}
variable{X:Cx}
def qz:BM X (.type "int") (λxs H Q=>∃b:Bool,xs=[.bl b]/\Q (.int (if b then 1 else 0)) H):=by intro pins s U H xs us Q I r h;obtain⟨b,rfl,q⟩:=h;obtain⟨u,rfl,ru⟩:=r.one;cases ru;exact call_int_bool #[.int _,H,I.tok _,#[_,rfl],q]
end L2
namespace Q
open PySem L2 PyProof.Rows
noncomputable def neT:PV->PV->Option PV
 |.tup xs,.tup ys=>(Cc 60 (.tup xs) (.tup ys)).map λb=>.bl (!b)
 |_,_=>none
def QF(K:aaf):R2:=λv u H Q=>∃F xs ys k,dO F H/\Rep K F v (.tup xs)/\Rep K F u (.tup ys)/\Cc 60 (.tup xs) (.tup ys)=some k/\Q (.bl (!k)) H
noncomputable def GL:Aad->Option PV
 |[.bl b]=>some (.int (if b then 1 else 0))
 |_=>none
variable{ob:Ct}{X:Cx}{a b c e:Expr}{es:Aak}{f g h:WE}{fa:WA}{pos Hw p p1 p2:Pos}{x:Str}
def yI:Fg ob X (λxs H Q=>∃b:Bool,xs=[.bl b]/\Q (.int (if b then 1 else 0)) H) GL:=by
 intro Z F U H env vs xs z Q K rv hz k;unfold GL at hz;split at hz
 .cases hz;obtain⟨v,rfl,r⟩:=rv.one;rw[r.bl];exact#[_,rfl,k _ F H aj K (.int _)]
 .cases hz
theorem zm(hu:X.A.units+60<cLine):Co X (aa4 .NotEq) (QF X.K):=by
 intro pins s U H x y v u Q I rx ry h;obtain⟨F,xs,ys,k,sF,r1,r2,e,hq⟩:=h;cases r1 with
 |tup h1 r1=>
 cases r2 with
 |tup h2 r2=>
 cases rx;cases ry;obtain⟨gE,rv,p,_⟩:=I.tuple (au sF h1);obtain⟨CQ,Fq,p2,_⟩:=I.tuple (au sF h2);have l1:gE.length=xs.length:=by rw[<- rv.length,r1.len]
 have l2:CQ.length=ys.length:=by rw[<- Fq.length,r2.len]
 have e':((xs.zip ys).mapM λp=>Cc 59 p.1 p.2).map (λbs=>bs.all id && xs.length==ys.length)=some k:=e;rw[aax]at e';obtain⟨bs,hb,ek⟩:=e';obtain⟨HZ,Lw⟩:=be hb;have t:=SeqAt.RcNeAt.tuples (A:=X.A) (e:=λj=>bs.getD j false) p p2 #[] (λj j1 j2=>by
  simp only[aap]at j1 j2;have jx:j<xs.length:=by omega
  have jy:j<ys.length:=by omega
  have hz:(xs.zip ys)[j]?=some (xs[j],ys[j]):=by rw[aa5];exact#[by simp[jx],by simp[jy]]
  obtain⟨b,e1,e2⟩:=Lw j _ hz;obtain⟨v1,q1,q2⟩:=r1.get (aab jx);obtain⟨v2,q3,q4⟩:=r2.get (aab jy);obtain⟨u1,q5,q6⟩:=rv.get q1;obtain⟨u2,q7,q8⟩:=Fq.get q3;have g1:gE.toArray[j]=u1:=by simpa[aab j1]using q5
  have g2:CQ.toArray[j]=u2:=by simpa[aab j2]using q7
  rw[g1,g2,show bs.getD j false=b by simp[aeB,e1]];exact(OA I sF (A:=X.A.in1) (d:=59) (by show X.A.units+1+59<cLine;omega) q2 q4 q6 q8 e2).2)
 have e3:((abd (min gE.toArray.size CQ.toArray.size)).all (λj=>bs.getD j false) && gE.toArray.size==CQ.toArray.size)=k:=by
  have e4:min gE.toArray.size CQ.toArray.size=bs.length:=by rw[HZ,aeb,aap,aap,l1,l2]
  rw[e4,dH (λj hj=>by simp[aeB,aab hj]),aap,aap,l1,l2];exact ek
 rw[e3]at t;exact t X.prog X.w X.xe _ #[.bl (!k),H,I,rfl,hq]
def xr:Ff ob X (QF X.K) neT:=by
 refine bn (P:=λ_ _ _ _=>True) λF H v u x y z sF rx ry hz=>?_;unfold neT at hz;split at hz
 .rw[aax]at hz;obtain⟨k,hk,rfl⟩:=hz;exact#[_,λ_=>.bl _,λQ q=>#[F,_,_,k,sF,rx.Ic,ry.Ic,hk,q]]
 .cases hz
end Q
namespace L2
open PySem PySem.Spec PyProof.Rows PySem.W
def Ci(h:Heap)(a:Addr)(k:Int×Str):Prop:=∃o n t u,h.get? a=some o/\o.cls=.type "tuple" /\ o.data=.seq #v[.int k.1 t,.str k.2 u] n
variable{h h':Heap}{a:Addr}{k:Int×Str}
def Ci.mono(x:Ci h a k)(g:∀o,h.get? a=some o->h'.get? a=some o):Ci h' a k:=by obtain⟨o,n,t,u,e,r⟩:=x;exact#[o,n,t,u,g o e,r]
noncomputable def HW(ks:List (Int×Str))(i j:Nat):Bool:=decide ((ks.getD i (0,#[#v[]])).1<(ks.getD j (0,#[#v[]])).1\/((ks.getD i (0,#[#v[]])).1=(ks.getD j (0,#[#v[]])).1/\B0 (ks.getD i (0,#[#v[]])).2 (ks.getD j (0,#[#v[]])).2))
variable{ks:List (Int×Str)}
theorem qd(nd:(ks.map (·.2)).Nodup):Srt.Ord (HW ks) ks.length:=by
 have inj:∀i j,i<ks.length->j<ks.length->(ks.getD i (0,#[#v[]])).2=(ks.getD j (0,#[#v[]])).2->i=j:=λi j hi hj e=>by
  have a:(ks.map (·.2))[i]'#[1]=(ks.map (·.2))[j]'#[1]:=by simp_all
  exact(abD nd).mp a
 refine#[λi _=>?_,λi j k _ _ _ a b=>?_,λi j hi hj ne e=>?_]
 .unfold HW;rw[decide_eq_false_iff_not];rintro(h|⟨_,h⟩)
  .omega
  .exact adI _ h
 .have a:=of_decide_eq_true a;have b:=of_decide_eq_true b;refine decide_eq_true ?_;rcases a with a|⟨a1,a2⟩<;>rcases b with b|⟨b1,b2⟩
  .exact .inl #[]
  .exact .inl #[]
  .exact .inl #[]
  .exact .inr #[#[],List.lt_trans a2 b2]
 .have e:=of_decide_eq_false e;rw[not_or]at e;refine decide_eq_true ?_;rcases Int.lt_trichotomy _ _ with z|z|z
  .exact absurd z e.1
  .refine .inr #[z.symm,?_];have e2  := λh=>e.2 #[z,h];rcases List.le_iff_lt_or_eq.mp (List.not_lt.mp e2)with q|q
   .exact q
   .exfalso;refine ne (inj i j hi hj ?_);exact congrArg Str.mk (Array.toList_inj.mp q.symm)
  .exact .inl z
variable{prog:aaD}{w:World}{A:Around}{E:Aab}{s:Shared}
variable{x:Addr}{Q:Bool->Shared->Prop}
theorem xj{y:Addr}{l:Int×Str}(hx:Ci s.heap x k)(hy:Ci s.heap y l)(hne:k.2≠l.2)(h:Q (decide (k.1<l.1\/(k.1=l.1/\B0 k.2 l.2))) s):wpAny (model prog w) A (keyLt' (afc true) (.ref x) (.ref y)) Q E s:=by
 obtain⟨ox,n,t,u,e1,_,e2⟩:=hx;obtain⟨oy,n',t',u',f1,_,f2⟩:=hy;refine kat_lt e1 e2 f1 f2 (kat_cons (wpAny_eqBool_int ?_));by_cases e:k.1=l.1
 .rw[show (k.1==l.1)=true by simp[e]];refine kat_yes (kat_cons (ae0 ?_));rw[decide_eq_false hne];refine kat_one _ _ (lt_str ?_);have:decide (k.1<l.1\/(k.1=l.1/\B0 k.2 l.2))=decide (k.2.cps.toList<l.2.cps.toList):=by
   rw[aa0,decide_eq_true_eq,decide_eq_true_eq];constructor
   .rintro(z|⟨_,z⟩)
    .omega
    .exact z
   .exact λz=>.inr #[e,z]
  rw[this]at h;exact h
 .rw[show (k.1==l.1)=false by simp[e]];refine oneLt_int ?_;have:decide (k.1<l.1\/(k.1=l.1/\B0 k.2 l.2))=decide (k.1<l.1):=by simp_all
  rw[this]at h;exact h
variable{e1:Nat}{P:PySem.Fin->Shared->Prop}
theorem qj{kS:Addr}{e n:Nat}{keys:Aam}{st:SortSt}{out:Aae}(hk:s.heap.get? kS=some (seqObj "list" keys e))(ha:s.heap.get? a=some (seqObj "list" #v[] e1))(hne:kS≠a)(hkz:keys.size<=100)
  (ho:(arrOf st).map (·.2)=out.toArray) (hf:failedOf st=none) (hz:out.length<=100)
  (h:∀(h':Heap) (c:Nat),h'.get? a=some (seqObj "list" out.toArray c)->(∀b o,b≠a->b≠kS->s.heap.get? b=some o->h'.get? b=some o)->P (.done (.ret .none)) {s with heap:=h'}) :
  wpAny (model prog w) A (ksk_tail a false e1 (.ref kS) st) P E s:=by
 have s1:=aaN s.heap kS (abK λ_=>#v[]);have Ly  := (s1.2 a hne.symm).trans ha;unfold ksk_tail;rw[ho];refine aaa (adh hk rfl ?_ (by rw[aaJ];omega) (aba _));refine aaa (ac6 ?_);refine aaa (afh Ly rfl ?_);refine aaa (adh Ly rfl ?_ (aba _) (by simp only[abO,if_false,aap];rw[aaJ];omega));rw[hf];simp only[bne_self_eq_false];have s2:=aaN (s.heap.update kS (abK λ_=>#v[])) a (abK λ_=>out.toArray);exact aae (h _ _ (acD Ly _) λb o h1 h2 g=>(s2.2 b h1).trans ((s1.2 b h2).trans g))
def mh:∀ad:Aaj,(∀a∈ad,∃k,Ci h a k)->∃fs:Aae,KatTups h (ad.map abe) fs/\fs.length=ad.length/\∀v∈fs,∃c t,v=.int c t
 |[],_=>#[[],trivial,rfl,λ_ z=>#[1]]
 |a::ad,hp=>by
  obtain⟨fs,h1,h2,h3⟩:=mh ad λb hb=>hp b (aam _ hb);obtain⟨k,o,n,t,u,e1,e2,e3⟩:=hp a aan;refine#[.int k.1 t::fs,#[#[a,o,_,n,rfl,e1,e2,e3,rfl],h1],#[1],λv hv=>?_];rcases List.mem_cons.mp hv with rfl|hv
  .exact#[_,_,rfl]
  .exact h3 v hv
variable{ad:Aaj}{vs:Aae}{i:Nat}
theorem lA(hl:ad.length=vs.length)(hi:i<vs.length):aeu ((ad.map abe).toArray.zip vs.toArray) i=(.ref (ad.getD i 0),vs.getD i abb):=by
 unfold aeu;have FQ:i<ad.length:=by omega
 have hz:i<((ad.map abe).toArray.zip vs.toArray).size:=by simp_all
 rw[Array.getD,dif_pos hz];show ((ad.map abe).toArray.zip vs.toArray)[i]=_;rw[Array.getElem_zip,List.getElem_toArray,ae6,aaq,aaq,aab FQ,aab hi];rfl
theorem zA{kS:Addr}{e:Nat}(hk:s.heap.get? kS=some (seqObj "list" (ad.map abe).toArray e))(ha:s.heap.get? a=some (seqObj "list" #v[] e1))(hne:kS≠a)
  (l1:ad.length=vs.length) (l2:ks.length=vs.length) (EJ:vs.length<64) (nd:(ks.map (·.2)).Nodup) (hp:∀i,i<vs.length->Ci s.heap (ad.getD i 0) (ks.getD i (0,#[#v[]])))
  (h:∀(h':Heap) (c:Nat) (ix:Aan),ix.length=vs.length->ix.Nodup->(∀i∈ix,i<vs.length)->ix.Pairwise (λi j=>HW ks i j=true)->h'.get? a=some (seqObj "list" (ix.map λi=>vs.getD i abb).toArray c)->(∀b o,b≠a->b≠kS->s.heap.get? b=some o->h'.get? b=some o)->P (.done (.ret .none)) {s with heap:=h'}) :
  wpAny (model prog w) A (ksk_end a false vs.toArray e1 (.ref kS) (ad.map abe).toArray) P E s:=by
 have kz:(ad.map abe).toArray.size<=100:=by rw[aap,aac];omega
 unfold ksk_end;dsimp only;simp only[abO,if_false];by_cases h2:vs.toArray.size<2
 .rw[if_pos h2,if_pos h2];rw[aap]at h2;refine aaa (aae ?_);rw[StateT.run_pure];refine aaa (aae ?_);dsimp only;have ei:(abd vs.length).map (λi=>vs.getD i abb)=vs:=by
   apply ab2;intro i;rw[aal];by_cases hi:i<vs.length
   .rw[acq hi];simp[hi]
   .rw[aao (by simpa using hi),aao #[]];rfl
  refine qj (out:=vs) (n:=0) hk ha hne kz ?_ rfl #[] λh' c g1 g2=>?_
  .apply Array.toList_inj.mp;rw[Array.toList_map,Array.toList_zip];show ((ad.map abe).zip vs).map (·.2)=vs;exact ae5 (by rw[aac];omega)
  .refine h h' c (abd vs.length) #[0] ad1 (λi hi=>List.mem_range.mp hi) ?_ (by rw[ei];exact g1) g2
   match hv:vs.length,h2 with
   |0,_=>simp
   |1,_=>simp[aft]
 .rw[if_neg h2,if_neg h2];rw[aap]at h2;obtain⟨fs,f1,f2,f3⟩:=mh ad λb hb=>by obtain⟨i,hi,rfl⟩:=List.mem_iff_getElem.mp hb;have:=hp i #[];rw[aaq,aab hi]at this;exact#[_,this]
  refine aaa (kat_kind (T:=.type "int") f1 #[] (λv hv=>?_) rfl ?_)
  .obtain⟨c,t,rfl⟩:=f3 v hv;exact Looks.of_pure rfl
  have hT:((aci "int") != (aci "tuple"))=true:=by decide
  rw[hT];have Yo:((ad.map abe).toArray.zip vs.toArray).size=vs.length:=by rw[Array.size_zip,aap,aap,aac];omega
  have ZH:SortSt.mk' (afc true) ((ad.map abe).toArray.zip vs.toArray) #v[] 7 none=kas_st (afc true) ((ad.map abe).toArray.zip vs.toArray) (aeX (abd vs.length)):=by have q:=kas_range ((ad.map abe).toArray.zip vs.toArray);rw[Yo]at q;show _=SortSt.mk' (afc true) ((aeX (abd vs.length)).map (aeu _)) #v[] 7 none;rw[q]
  have o:Srt.Ord (HW ks) vs.length:=l2 ▸ qd nd;have Ny:∀i j,i<vs.length->j<vs.length->i≠j->(ks.getD i (0,#[#v[]])).2≠(ks.getD j (0,#[#v[]])).2:=λi j hi hj ne q=>by
   have a:(ks.map (·.2))[i]'(by rw[aac];omega)=(ks.map (·.2))[j]'(by rw[aac];omega):=by simp_all
   exact ne ((abD nd).mp a)
  have ask:(kas_sort vs.length).kasWp (kas_cmp prog w A (afc true) ((ad.map abe).toArray.zip vs.toArray)) (λp z=>z=s/\Srt.Pm p vs.length/\Srt.Lg (HW ks) p vs.length) s:=by refine Srt.pw_wp (lt:=HW ks) (n:=vs.length) (J:=λz=>z=s) ?_ (λp z hz q=>#[hz,q]) (kas_sort vs.length) _ rfl (Srt.pN o #[] λp a b=>#[a,b]);rintro i j C z hi hj ne rfl hC;show wpAny _ _ (keyLt' (afc true) (aeu _ i).1 (aeu _ j).1) _ _ _;rw[lA l1 hi,lA l1 hj];exact xj (hp i hi) (hp j hj) (Ny i j hi hj ne) (hC _ rfl)
  have run:=kas_runs (E:=E) (Q:=λ_ Gn z=>∃p:Array Nat,p.size=vs.length/\arrOf Gn=p.map (aeu ((ad.map abe).toArray.zip vs.toArray))/\failedOf Gn=none/\z=s/\Srt.Pm p vs.length/\Srt.Lg (HW ks) p vs.length)
   #[] EJ (λp' Gn z a1 a2 a3 a4=>#[p',a1,a2,a3,a4]) ask
  rw[<- ZH]at run;refine aaa (aay run ?_ λ_ _ q=>q);rintro⟨⟨⟩,Gn⟩ z ⟨p,Wo,Zi,hf,rfl,Pm,As⟩;dsimp only;have Cn:∀i∈p.toList,i<vs.length:=λi hi=>by obtain⟨j,hj,rfl⟩:=Array.mem_iff_getElem.mp (Array.mem_toList_iff.mp hi);have:=Pm.lt j (by rw[<- Pm.sz];exact hj);rw[Srt.aK]at this;simpa only[abT hj,Option.getD_some]using this
  refine qj (st:=Gn) (out:=p.toList.map λi=>vs.getD i abb) (n:=0) hk ha hne kz ?_ hf (by rw[aac,aaK,Wo];omega) λh' c g1 g2=>h h' c p.toList (by rw[aaK,Wo]) ?_ Cn ?_ g1 g2
  .apply Array.toList_inj.mp;rw[Zi,Array.map_map,Array.toList_map];exact abJ λi hi=>by show (aeu _ i).2=_;rw[lA l1 (Cn i hi)]
  .rw[ab8,ace];intro i j hi hj Ew q;have FQ:i<p.size:=by simpa using hi
   have Ho:j<p.size:=by simpa using hj
   have:=Pm.nd i j (by rw[<- Pm.sz];exact FQ) (by rw[<- Pm.sz];exact Ho) (by rw[Srt.aK,Srt.aK];simpa[FQ,Ho]using q);omega
  .rw[ace];intro i j hi hj Ew;have FQ:i<p.size:=by simpa using hi
   have Ho:j<p.size:=by simpa using hj
   have:=As i j Ew (by rw[<- Pm.sz];exact Ho);rw[Srt.aK,Srt.aK]at this;simpa[FQ,Ho]using this
def iB(prog:aaD)(w:World)(A:Around)(s:Shared)(f:Value)(keep:Addr->Prop)(v:Value)(a:Addr):Prop :=
 ∀(h:Heap) (tk:Nat),(∀b o,keep b->s.heap.get? b=some o->h.get? b=some o)->wpAny (model prog w) A (call f [v]) (λr z=>r=.ref a/\∃h' Qh,z={s with heap:=h',toks:=Qh}/\∀b o,h.get? b=some o->h'.get? b=some o) (λ_ _=>False) {s with heap:=h,toks:=tk}
variable{f:Value}
theorem xS{kS:Addr}(hk:s.heap.get? kS=some (seqObj "list" #v[] 0))(ha:s.heap.get? a=some (seqObj "list" #v[] e1))(hne:kS≠a)
  (l1:ad.length=vs.length) (l2:ks.length=vs.length) (EJ:vs.length<64) (nd:(ks.map (·.2)).Nodup) (hp:∀i,i<vs.length->Ci s.heap (ad.getD i 0) (ks.getD i (0,#[#v[]]))) (YJ:∀i,i<vs.length->ad.getD i 0≠kS)
  (turn:∀i,i<vs.length->iB prog w A s f (λb=>b≠kS) (vs.getD i .none) (ad.getD i 0))
  (h:∀(h':Heap) (tk c:Nat) (ix:Aan),ix.length=vs.length->ix.Nodup->(∀i∈ix,i<vs.length)->ix.Pairwise (λi j=>HW ks i j=true)->h'.get? a=some (seqObj "list" (ix.map λi=>vs.getD i abb).toArray c)->(∀b o,b≠a->b≠kS->s.heap.get? b=some o->h'.get? b=some o)->P (.done (.ret .none)) {s with heap:=h',toks:=tk}) :
  wpAny (model prog w) A (ksk_rest a f false vs.toArray e1 (.ref kS)) P E s:=by
 unfold ksk_rest;refine aaa (acs ?_);rw[List.forIn_toArray];refine aaa (ksk_fold (λi z=>∃h' tk e,z={s with heap:=h',toks:=tk}/\(∀b o,b≠kS->s.heap.get? b=some o->h'.get? b=some o)/\h'.get? kS=some (seqObj "list" ((ad.take i).map abe).toArray e)) vs 0 s
  #[s.heap,s.toks,0,rfl,λb o _ g=>g,hk] ?_ ?_)
 .rintro j x z hx ⟨h',tk,e,rfl,g1,g2⟩;rw[aaP]at g2 ⊢;have hj:j<vs.length:=(List.getElem?_eq_some_iff.mp hx).1;have ev:vs.getD j .none=x:=by rw[aaq,hx];rfl
  have t:=turn j hj h' tk λb o hb g=>g1 b o hb g;rw[ev]at t;refine aaa (aes (aay t (λv z hz=>?_) λ_ _ q=>q.elim));obtain⟨rfl,h2,TJ,rfl,g3⟩:=hz;dsimp only;have gk:=g3 _ _ g2;have s1:=aaN h2 kS (abK (·.push (.ref (ad.getD j 0))));refine aaa (adh gk rfl ?_ (by rw[aap,aac,abj,aaJ];omega) (aaX (aeW (Array.size_push ..)) (by rw[aap,aac,abj,aaJ];omega)));have ej:(((ad.take j).map abe).toArray.push (.ref (ad.getD j 0)))=((ad.take (j+1)).map abe).toArray:=by
   have W1:j<ad.length:=by omega
   apply Array.toList_inj.mp;rw[aeR];show (ad.take j).map abe++[.ref (ad.getD j 0)]=(ad.take (j+1)).map abe;rw[abI,aab W1,aaq,aab W1,aaM];rfl
  obtain⟨c2,O7⟩:∃c2,(h2.update kS (abK (·.push (.ref (ad.getD j 0))))).get? kS=some (seqObj "list" (((ad.take j).map abe).toArray.push (.ref (ad.getD j 0))) c2):=#[_,acD gk (·.push (.ref (ad.getD j 0)))]
  rw[ej]at O7;exact aae #[rfl,_,TJ,c2,rfl,λb o hb g=>(s1.2 b hb).trans (g3 b o (g1 b o hb g)),O7]
 .rintro z ⟨h',tk,e,rfl,g1,g2⟩;rw[aaP,ab7 #[]]at g2;refine aaa (listItems_at g2 rfl ?_);refine zA (s:={s with heap:=h',toks:=tk}) g2 (g1 a _ hne.symm ha) hne l1 l2 EJ nd (λi hi=>(hp i hi).mono λo q=>g1 _ o (YJ i hi) q) λh2 c ix i1 i2 i3 i4 i5 i6=>h h2 tk c ix i1 i2 i3 i4 i5 λb o b1 b2 g=>i6 b o b1 b2 (g1 b o b2 g)
variable{n:Nat}
theorem xR(ha:s.heap.get? a=some (seqObj "list" vs.toArray n))
  (l1:ad.length=vs.length) (l2:ks.length=vs.length) (EJ:vs.length<64) (nd:(ks.map (·.2)).Nodup) (hp:∀i,i<vs.length->Ci s.heap (ad.getD i 0) (ks.getD i (0,#[#v[]]))) (YL:∀i,i<vs.length->ad.getD i 0≠a)
  (turn:∀i,i<vs.length->iB prog w A s f (λb=>b≠a) (vs.getD i .none) (ad.getD i 0))
  (h:∀(h':Heap) (tk c:Nat) (ix:Aan),ix.length=vs.length->ix.Nodup->(∀i∈ix,i<vs.length)->ix.Pairwise (λi j=>HW ks i j=true)->h'.get? a=some (seqObj "list" (ix.map λi=>vs.getD i abb).toArray c)->(∀b o,b≠a->s.heap.get? b=some o->h'.get? b=some o)->P (.done (.ret .none)) {s with heap:=h',toks:=tk}) :
  wpAny (model prog w) A (ksk_tree a f false) P E s:=by
 have s1:=aaN s.heap a (abK λ_=>#v[]);have Ly:=acD ha λ_=>#v[];refine aaa (listItems_at ha rfl ?_);refine aaa (adh ha rfl ?_ (by rw[aap,aaJ];omega) (aba _));refine aaa (afh Ly rfl ?_);refine aaa (afC ?_ (by show vs.length<=_;rw[aaJ];omega));refine aaa (acI ?_ (aba _));refine aaY ?_;generalize hH:((s.heap.update a _).push _)=H1;have kz:H1.objs.size=s.heap.objs.size+1:=by rw[<- hH,size_push',Heap.size_update]
 have old:∀b o,b≠a->s.heap.get? b=some o->(H1.push (seqObj "list" #v[] 0)).get? b=some o:=λb o hb g=>by rw[<- hH];exact aad _ (aad _ ((s1.2 b hb).trans g))
 have lt:∀b o,s.heap.get? b=some o->b≠H1.objs.size:=λb o g=>by have:=aah g;rw[kz];exact aas (abk this)
 refine xS (aag _ rfl) ?_ ?_ l1 l2 EJ nd (λi hi=>?_) (λi hi=>?_) (λi hi=>?_) λh' tk c ix i1 i2 i3 i4 i5 i6=>h h' tk c ix i1 i2 i3 i4 i5 λb o hb g=>i6 b o hb (lt b o g) (old b o hb g)
 .rw[<- hH];exact aad _ (aad _ Ly)
 .exact(lt a _ ha).symm
 .exact(hp i hi).mono λo q=>old _ o (YL i hi) q
 .obtain⟨o,_,_,_,g,_⟩:=hp i hi;exact lt _ o g
 .exact λh2 tk g=>turn i hi h2 tk λb o hb q=>g b o (lt b o q) (old b o hb q)
variable{l q:Addr}{ob:Obj}
theorem tP{n0:Nat}{Q:Aab}(ho:s.heap.get? l=some ob)(hc:ob.cls=.type "tuple")(hd:ob.data=.seq vs.toArray n0)
  (l1:ad.length=vs.length) (l2:ks.length=vs.length) (EJ:vs.length<64) (nd:(ks.map (·.2)).Nodup) (hp:∀i,i<vs.length->Ci s.heap (ad.getD i 0) (ks.getD i (0,#[#v[]])))
  (turn:∀i,i<vs.length->iB prog w A.in1.in1 s (.ref q) (λ_=>True) (vs.getD i .none) (ad.getD i 0))
  (h:∀(D:Addr) (h1 h':Heap) (tk c:Nat) (ix:Aan),(∀b o,s.heap.get? b=some o->h1.get? b=some o)->h1.objs.size<=D->ix.length=vs.length->ix.Nodup->(∀i∈ix,i<vs.length)->ix.Pairwise (λi j=>HW ks i j=true)->h'.get? D=some (seqObj "list" (ix.map λi=>vs.getD i abb).toArray c)->(∀b o,s.heap.get? b=some o->h'.get? b=some o)->Q (.ref D) {s with heap:=h',toks:=tk}) :
  wpAny (model prog w) A (call (.builtin "sorted") [.ref l] [(aaE "key",.ref q)]) Q E s:=by
 refine call_function_entry_kw afi aeS aeT (ksk_s1 _ _) ?_;unfold adx.«sorted»;refine aaa (m:=checkCount "sorted" 1 1 _) (aae ?_);refine aaa (wpAny_collect_seq l (.inr rfl) ho hc hd (λh1 kk=>?_) (by rw[aap,aaJ];omega));refine aaa (acI ?_ (by show vs.length<=_;rw[aaJ];omega));have JB:(h1.push (seqObj "list" vs.toArray 0)).get? h1.objs.size=some (seqObj "list" vs.toArray 0):=aag _ rfl;have old:∀b o,s.heap.get? b=some o->(h1.push (seqObj "list" vs.toArray 0)).get? b=some o:=λb o g=>aad _ (kk b o g);have ne  := λb o g=>aas (aah (kk b o g));refine aaa (aaY (wpAny_call_entry_kw adF #[_,JB,rfl] adq ?_ (ksk_l1 _ _)));rw[ksk_t1];refine xR JB l1 l2 EJ nd (λi hi=>(hp i hi).mono λo g=>old _ o g) (λi hi=>?_) (λi hi h2 tk g=>turn i hi h2 tk λb o _ z=>g b o (ne b o z) (old b o z)) λh' tk c ix i1 i2 i3 i4 i5 i6=>#[_,rfl,?_]
 .obtain⟨o,_,_,_,g,_⟩:=hp i hi;exact ne _ o g
 .exact aae #[_,rfl,h h1.objs.size h1 h' tk c ix kk (aaj _) i1 i2 i3 i4 i5 λb o g=>i6 b o (ne b o g) (old b o g)]
structure Gb(x d:Str)(params:Arguments)(scope:Scope):Prop where
 kind:scope.kind=.function
 co:scope.isCoroutine=false
 gen:scope.isGenerator=false
 nc:∀y∈scope.names,y.2≠.cell
 lx:scope.names.lookup x=some .local
 ld:scope.names.lookup d=some .free
 ne:(x==d)=false
 dx:(x==("__debug__" : Str))=false
 dd:(d==("__debug__" : Str))=false
 dc:(d==("__classdict__" : Str))=false
 bd:∀(qual:Str) (body:Expr) (cl:List (Str×Addr)) (pm BI ct v:Value),ada (kla_fn "<lambda>" qual params body scope cl pm BI ct) #[[v],[]]=pure [(x,v)]
variable{X:Cx}{pins:Aac}{U:St}{H:Hp}{z:Shared}{B:Around}
variable{scope:Scope}{qual:Str}{pm:Value}{eQ:List (Key×V)}
def om{c' cell dd:Addr}{x d nm:Str}{params:Arguments}{p1 p2 p3:Pos}{Mc:Value}{t:Tok}(S:Gb x d params scope)(I:Inv X pins U H z)(Kw:B.depth<recursionLimit)
  (ho:z.heap.get? q=some (kla_obj "<lambda>" qual params (.Subscript (.Name d p1) (.Name x p2) p3) scope [(d,cell)] pm c' Mc)) (FT:z.heap.CodeRec (.ref c') qual) (Oa:z.heap.NoLimit) (Dk:z.heap.IsCell cell (some (.ref dd)))
  (hD:H dd=some (.dK eQ)) (hv:Cz eQ (aaU nm)=some (.ref a)) :
  wpAny (model X.prog X.w) B (call (.ref q) [.str nm t]) (λv z'=>v=.ref a/\∃h' Qh,z'={z with heap:=h',toks:=Qh}/\∀b o,z.heap.get? b=some o->h'.get? b=some o) (λ_ _=>False) z:=by
 refine wpAny_call (kla_callFunE Kw ho rfl S.co S.gen rfl FT ?_);rw[S.bd];refine aae (adf S.nc (λy hy=>by rw[ac0]at hy;subst hy;exact S.lx) (λh1 Lp YE=>?_) S.kind);have kk:∀b o,z.heap.get? b=some o->h1.get? b=some o:=λb o g=>(YE.2 b (aas (aah g))).trans (aad _ g);refine#[Oa.keeps kk,kla_codeExpr ?_];have I1:Inv X pins U H {z with heap:=h1,toks:=z.toks+1}:=I.kept kk;obtain⟨z1,z2,vs,rel,dD⟩:=ku I1.Bv hD;obtain⟨u,hu,ru⟩:=Fo.some_of (by rw[<- hv];exact rel.val _);cases ru;have Of:h1.IsCell cell (some (.ref dd)):=by obtain⟨o,e,r⟩:=Dk;exact#[o,kk _ _ e,r]
 refine Subscript_ ?_;refine aeF (wpAny_loadName_free S.kind S.ld (show adY d [(d,cell)]=some cell by simp) Of ?_ S.dc) S.dd;refine aeF (wpAny_loadName_local S.kind S.lx Lp (show adY x _=some (ad7 nm t)by simp) ?_) S.dx;refine tail_any dD.typeIs PySem.F.slot_dict_getitem.lookup (wpAny_getItem_of (dX (k:=aaU nm) (#[t,rfl])) dD.mapOf hu ?_) rfl;exact#[rfl,h1,_,rfl,kk]
noncomputable def Fk(f:Addr)(ob:Obj):HO:=.ext λh=>h.get? f=some ob
def tN{P:aaD}(e:h.get? a=some ob):BG P w H h a (Fk a ob):=#[e,#[_,e],λh1 h2 x k=>k _ x]
def yK{P:aaD}{lq:Str}(e:h.CodeRec (.ref a) lq):BG P w H h a (CW a lq):=by
 refine#[e,?_,λh1 h2 x k=>?_]
 .obtain⟨c,oc,vs,tq,hc,O3,r⟩:=e;cases hc;exact#[_,O3]
 .obtain⟨c,oc,vs,tq,hc,O3,r⟩:=x;cases hc;exact#[_,oc,vs,tq,rfl,k _ O3,r]
structure GX(X:Cx)(lq d:Str)(params:Arguments)(body:Expr)(scope:Scope)(c':Addr)(ob:Obj):Prop where
 ex:∃cell Mc,X.env.cells.lookup d=some cell/\ob=kla_obj "<lambda>" lq params body scope [(d,cell)] ((X.mg "__name__").getD .none) c' Mc
def Jp(X:Cx)(lq d:Str)(Bx:Pos)(P:Addr)(params:Arguments)(body:Expr)(scope:Scope):TE:=λ_ H Q=>∃ps:Aam,H P=some (CJ P ps)/\TriplesOk ps.toList /\
 ((acP Bx ps.toList=none/\∀c' f ob,H c'=none->H f=none->c'≠f->c'≠P->f≠P->GX X lq d params body scope c' ob->Q (.ref f) (upd (upd (upd H P (CJ P (ps++#v[rawInt Bx.line,rawInt Bx.col,.ref c']))) c' (CW c' lq)) f (Fk f ob))) \/
  (∃c',acP Bx ps.toList=some (.ref c')/\H c'=some (CW c' lq)/\∀f ob,H f=none->GX X lq d params body scope c' ob->Q (.ref f) (upd H f (Fk f ob))))
structure BMain(mg:Aag)(h:Heap):Prop where
 ex:∃bm o,mg "__builtins__" = some (.ref bm)/\bm≠aeJ/\h.get? bm=some o/\o.cls=.type "module" /\ o.dict=some aeJ/\o.data=.plain
structure Gc(d:Str)(params:Arguments)(scope:Scope):Prop where
 df:∀env,defaultsOf params env=([],[])
 cl:∀(env:Env) (cell:Addr),env.cells.lookup d=some cell->aeH scope env=pure [(d,cell)]
variable{lq d:Str}{Bx:Pos}{P c:Addr}{params:Arguments}{body:Expr}
def sK(S:Gc d params scope)(hq:X.env.qual ++ "<lambda>" = lq)(Ed:X.env.code=.ref c)(hC:abq X.K c P=true)(hB:BMain X.mg X.base)(hd:X.env.kindOf d=some .cell):PE X (.Lambda params body scope Bx) (Jp X lq d Bx P params body scope):=by
 intro pins s U H Q I h;obtain⟨ps,eP,ht,h⟩:=h;obtain⟨cell,Dk⟩:=I.ok.has d (.inl hd);have hP  := (I.Bv P _ eP).1;have hg:s.heap.Ns aaR X.mg:=I.mod.glob.keeps I.bk;have C:CodeHd s.heap c P:=PySem.W.codeHd_of_K I.G8 hC;have Y6:aaR≠P:=λe=>by obtain⟨o,es,ep,g1,g2,_⟩:=hg;rw[e,hP]at g1;cases g1;cases g2
 have hb:s.heap.BuiltinsAt X.mg P:=by
  obtain⟨bm,o,b1,b2,b3,b4,b5,b6⟩:=hB.ex;refine#[bm,o,b1,b2,λe=>?_,λe=>?_,I.bk _ _ b3,b4,b5,b6]
  .obtain⟨o',es,ep,g1,g2,_⟩:=hg;rw[<- e,I.bk _ _ b3]at g1;cases g1;rw[b6]at g2;cases g2
  .have:=I.bk _ _ b3;rw[e,hP]at this;cases this;cases b4
 refine kla_eval (S.df _) ?_;rw[hq];rcases h with ⟨YR,h⟩|⟨c',hf,Ft,h⟩
 .refine kla_makeFunction (mg:=X.mg) (S.cl _ _ Dk) I.ok.glob hg Ed C hP ht YR Y6 hb λc' Mc h' tk hx ID Cn UM Rv=>?_;have MO:H c'=none:=I.Bv.fresh ID;have nP:∀b,H b=none->b≠P:=λb n z=>by simp_all
  have nc:∀b o,s.heap.get? b=some o->b≠c':=λb o g=>aas (aaz (aah g) ID);have Yk:c'≠P:=λz=>by simp_all
  have un:Un X.fs [] H (upd (upd H P (CJ P (ps++#v[rawInt Bx.line,rawInt Bx.col,.ref c']))) c' (CW c' lq)) s.heap h':=by
   refine#[λb o q n _ _=>hx b o (nP b n) q,λb o q n _ _=>#[o.slots,hx b o (nP b n) q],λb o q n _=>?_,λb o q _=>?_,λb xs q=>?_,λb o u q=>?_,λb qs q=>?_]
   .rw[af (nc b o q),af (nP b n)];exact n
   .by_cases z:b=P
    .subst z;exact#[_,Rv]
    .exact#[o,hx b o z q]
   .rw[af (ao q MO),af (λz=>by rw[z,eP]at q;cases q)];exact q
   .rw[af (ao q MO),af (λz=>by rw[z,eP]at q;cases q)];exact q
   .rw[af (ao q MO),af (λz=>by rw[z,eP]at q;cases q),q];simp
  have Bv:D4 X.prog X.w (upd (upd H P (CJ P (ps++#v[rawInt Bx.line,rawInt Bx.col,.ref c']))) c' (CW c' lq)) h':=λb u q=>by
   by_cases z:b=c'
   .subst z;rw[ah]at q;cases q;exact yK UM
   .rw[af z]at q;by_cases z2:b=P
    .subst z2;rw[ah]at q;cases q;exact nq Rv
    .rw[af z2]at q;refine(I.Bv b u q).G1 (λe o he g=>hx e o (λy=>?_) g) (λe he=>?_) λe xs he=>?_
     .subst y;rcases he with y|y
      .exact z2 y.symm
      .rw[eP]at y;cases y
     .rw[af (ao he MO),af (λy=>by rw[y,eP]at he;cases he)];exact he
     .rw[af (ao he MO),af (λy=>by rw[y,eP]at he;cases he)];exact he
  have I1:Inv X pins U _ {s with heap:=h',toks:=tk}:=I.un un Bv;have W6:=I1.Bv.fresh (a:=h'.objs.size) (aaj _);have fc:h'.objs.size≠c':=abL Cn;have fP:h'.objs.size≠P:=abL (aah Rv);have Lu:H h'.objs.size=none:=by rw[af fc,af fP]at W6;exact W6
  refine#[.ref h'.objs.size,_,I1.laid (t':=tk) (a:=h'.objs.size) (λb u g=>aad _ g) (aaj _) (tN (aag _ rfl)),rfl,h c' _ _ MO Lu (abE fc) Yk fP #[cell,Mc,Dk,rfl]]
 .refine kla_makeFunctionHit (mg:=X.mg) (S.cl _ _ Dk) I.ok.glob hg Ed C hP ht hf hb λMc h' tk kk hsz=>?_;exact#[.ref h'.objs.size,_,I.laid (t':=tk) (a:=h'.objs.size) (λb u g=>aad _ (kk b u g)) hsz (tN (aag _ rfl)),rfl,h _ _ (I.Bv.fresh hsz) #[cell,Mc,Dk,rfl]]
structure Mh(ks:List (Int×Str))(n:Nat)(ix:Aan):Prop where
 len:ix.length=n
 nd:ix.Nodup
 lt:∀i∈ix,i<n
 up:ix.Pairwise λi j=>HW ks i j=true
noncomputable abbrev k0:Int×Str:=(0,#[#v[]])
def J6(X:Cx)(lq d:Str)(Bx:Pos)(P:Addr)(params:Arguments)(body:Expr)(scope:Scope)(i:Nat)(U:St)(Q:VK):VK:=λv H1=>∃(l:Addr) (ss:Aaa) (dd:Addr) (eQ:List (Key×V)) (ad:Aaj) (ks:List (Int×Str)),
 v=.ref l/\C3 X.K H1 l (ss.map V.str)/\ss.length<64/\U[i]?=some (some (.ref dd))/\H1 dd=some (.dK eQ)/\ad.length=ss.length/\ks.length=ss.length/\(ks.map (·.2)).Nodup /\
 (∀j,j<ss.length->Cz eQ (aaU (ss.getD j #[#v[]]))=some (.ref (ad.getD j 0))/\C3 X.K H1 (ad.getD j 0) [.int (ks.getD j k0).1,.str (ks.getD j k0).2]) /\
 Jp X lq d Bx P params body scope U H1 λ_ H2=>∀D ix,H2 D=none->Mh ks ss.length ix->Q (.ref D) (upd H2 D (.lst (ix.map λj=>V.str (ss.getD j #[#v[]]))))
def Nq(X:Cx)(lq d:Str)(Bx:Pos)(P:Addr)(params:Arguments)(body:Expr)(scope:Scope)(i:Nat)(te:TE):TE:=λU H Q=>te U H (J6 X lq d Bx P params body scope i U Q)
variable{K:aaf}{xs:Aai}{ps:Aam}
def ig{H2:Hp}(eP:H P=some (CJ P ps))(k:∀b o,H b=some o->b≠P->H2 b=some o)(h:C3 K H a xs):C3 K H2 a xs:=by
 rcases h with (h|⟨o,h⟩)|h
 .exact .inl (.inl (k a _ h λz=>by rw[z,eP]at h;cases h))
 .exact .inl (.inr #[o,k a _ h λz=>by rw[z,eP]at h;cases h])
 .exact .inr h
variable{x:Str}{p p1 p2 p3 DS pos:Pos}{e:Expr}{te:TE}{k:Nat}
variable{gE:Aae}
def ik{m:Int}{s:Str}(rv:AS [.int m,.str s] gE)(t:IsTup h a gE.toArray):Ci h a (m,s):=by
 obtain⟨o,g1,g2,n,g3⟩:=t;cases rv with
 |cons r1 r2=>
  cases r2 with
  |cons r2 r3=>cases r3;obtain⟨t,rfl⟩:=r1;obtain⟨u,rfl⟩:=r2;exact#[o,n,t,u,g1,g2,g3]
theorem u5(S:Gb x d params scope)(S2:Gc d params scope)(hr:BS k X.A)(hg:Gl X "sorted")(hm:X.mg "sorted" = none)(hq:X.env.qual ++ "<lambda>" = lq)(Ed:X.env.code=.ref c)(hC:abq X.K c P=true)(hB:BMain X.mg X.base)
  (hi:X.N[i]?=some d) (hd:X.env.kindOf d=some .cell) (hv:Hq X.env.scope d) (he:PE X e te)
  (hs:autoParam (aai [e] X.env=(false,eval e X.env)::aai [] X.env) oR)
  (h1:autoParam (backTo pos (aai [e] X.env)=(false,eval e X.env)::backTo pos (aai [] X.env)) oR) (h2:autoParam ((backTo pos (aai [e] X.env)).any (·.1)=false) oR) :
  PE X (.Call (.Name "sorted" p) [e] [#[some "key",.Lambda params (.Subscript (.Name d p1) (.Name x p2) p3) scope Bx,DS]] pos) (Nq X lq d Bx P params (.Subscript (.Name d p1) (.Name x p2) p3) scope i te):=by
 intro pins s U H Q I h;refine acB (bV I hg hm afm ?_);refine callWith_kw (BZ ((aD he aN hs) pos pins s U H (λvs H1=>match vs with|[v]=>J6 X lq d Bx P params (.Subscript (.Name d p1) (.Name x p2) p3) scope i U Q v H1|_=>False) I h) λus s1 #[vs,H1,I1,r1,q1]=>?_) h1 h2;dsimp only at q1;split at q1;case h_2=>exact q1.elim
 obtain⟨l,ss,dd,eQ,ad,ks,rfl,hl,EJ,hh,JG,l1,l2,nd,hk,hL⟩:=q1;obtain⟨u,rfl,ru⟩:=r1.one;cases ru;obtain⟨ps,eP,hL⟩:=hL;have VA:dd≠P:=λz=>by rw[z,eP]at JG;cases JG
 have lam:Jp X lq d Bx P params (.Subscript (.Name d p1) (.Name x p2) p3) scope U H1 λfv H2=>∃f c' ob,fv=.ref f/\H2 f=some (Fk f ob)/\GX X lq d params (.Subscript (.Name d p1) (.Name x p2) p3) scope c' ob/\H2 c'=some (CW c' lq)/\(∀b o,H1 b=some o->b≠P->H2 b=some o) /\
   ∀D ix,H2 D=none->Mh ks ss.length ix->Q (.ref D) (upd H2 D (.lst (ix.map λj=>V.str (ss.getD j #[#v[]])))):=by
  refine#[ps,eP,hL.1,?_];rcases hL.2 with ⟨g1,g2⟩|⟨c',g1,g2,g3⟩
  .refine .inl #[g1,λc' f ob a1 a2 a3 a4 a5 a6=>#[f,c',ob,rfl,ah,a6,?_,λb o hb hP=>?_,g2 c' f ob a1 a2 a3 a4 a5 a6]]
   .rw[af a3,ah]
   .rw[af (ao hb a2),af (ao hb a1),af hP];exact hb
  .refine .inr #[c',g1,g2,λf ob a1 a2=>#[f,c',ob,rfl,ah,a2,?_,λb o hb _=>?_,g3 f ob a1 a2]]
   .rw[af (ao g2 a1)];exact g2
   .rw[af (ao hb a1)];exact hb
 refine BZ ((lh (sK S2 hq Ed hC hB hd) sB) pos pins s1 U H1 (λvs H2=>match vs with|[fv]=>∃f c' ob,fv=.ref f/\H2 f=some (Fk f ob)/\GX X lq d params (.Subscript (.Name d p1) (.Name x p2) p3) scope c' ob/\H2 c'=some (CW c' lq)/\(∀b o,H1 b=some o->b≠P->H2 b=some o) /\
   (∀D ix,H2 D=none->Mh ks ss.length ix->Q (.ref D) (upd H2 D (.lst (ix.map λj=>V.str (ss.getD j #[#v[]])))))|_=>False) I1 lam) λws s2 #[zs,H2,I2,rz,q2]=>?_
 dsimp only at q2;split at q2;case h_2=>exact q2.elim
 obtain⟨f,c',ob,rfl,ef,⟨cell,Mc,Dk,rfl⟩,ec,keep,hQ⟩:=q2;obtain⟨u,rfl,ru⟩:=rz.one;cases ru;show wpAny _ _ (call (.builtin "sorted") [.ref l] [(aaE "key",.ref f)]) _ _ _;obtain⟨gE,rv,⟨o,g1,g2,n0,g3⟩,hz⟩:=I2.tuple (ig eP keep hl);have hlen:gE.length=ss.length:=by have:=rv.length;rw[aac]at this;exact this.symm
 have SV:∀j,j<ss.length->∃t,gE.getD j abb=.str (ss.getD j #[#v[]]) t:=λj hj=>by obtain⟨u,hu,ru⟩:=rv.get (i:=j) (show (ss.map V.str)[j]?=some (.str (ss.getD j #[#v[]]))by rw[aal,aab hj,aaq,aab hj];rfl);obtain⟨t,rfl⟩:=ru;exact#[t,by rw[aaq,hu];rfl]
 have cellAt:s2.heap.IsCell cell (some (.ref dd)):=by
  obtain⟨m,_,N9⟩:=I2.loc;obtain⟨u,ru,lk⟩:=N9 i d _ hi hh hv;cases ru;rcases lk with ⟨y,_⟩|⟨_,c2,y1,y2⟩
  .rw[hd]at y;cases y
  .rw[Dk]at y1;cases y1;exact y2
 have lim:s2.heap.NoLimit:=I2.mod.nolimit.keeps I2.bk;refine tP (vs:=gE) (ad:=ad) (ks:=ks) g1 g2 g3 #[] #[] #[] nd (λj hj=>?_) (λj hj h tk kk=>?_) λD hh1 h' tk cc ix k1 k2 i1 i2 i3 i4 i5 i6=>?_
 .obtain⟨CQ,Lj,Qg,_⟩:=I2.tuple (ig eP keep (hk j #[]).2);exact ik Lj Qg
 .obtain⟨t,et⟩:=SV j #[];rw[et];have Jx:∀b o,s2.heap.get? b=some o->h.get? b=some o:=λb o g=>kk b o trivial g;have I3:Inv X pins U H2 {s2 with heap:=h,toks:=tk}:=I2.kept Jx;refine om (z:={s2 with heap:=h,toks:=tk}) S I3 ?_ (Jx _ _ (I2.Bv f _ ef).1) ?_ (lim.keeps Jx) ?_ (keep _ _ JG VA) (hk j #[]).1
  .have:=hr.dp;show X.A.depth<recursionLimit;omega
  .exact(I2.Bv c' _ ec).2.2 _ _ (I2.Bv c' _ ec).1 λo g=>Jx _ _ g
  .obtain⟨o,y,r⟩:=cellAt;exact#[o,Jx _ _ y,r]
 .have MQ:s2.heap.get? D=none:=by
   cases y:s2.heap.get? D with
   |none=>rfl
   |some o=>exact absurd (aaz (aah (k1 D o y)) k2) (abv _)
  have J:Inv X pins U H2 {s2 with heap:=s2.heap,toks:=tk}:=I2.kept λ_ _ g=>g;obtain⟨m,hm,_⟩:=I2.loc;have Cn:∀y∈ix,y<ss.length:=λy hy=>by have:=i3 y hy;omega
  have pick:=rv.pick ix λy hy=>by rw[aac];exact Cn y hy
  have ep:(ix.map λy=>(ss.map V.str).getD y V.Bw)=ix.map λj=>V.str (ss.getD j #[#v[]]):=abJ λy hy=>by simp_all
  rw[ep]at pick;refine#[.ref D,_,J.MH (xs:=ix.map λj=>V.str (ss.getD j #[#v[]])) hm (hm.keeps i6) (λb o _ g=>i6 b o g) MQ #[?_,ix.map λy=>gE.getD y abb,cc,pick,i5],rfl,hQ D ix (I2.Bv.dead MQ) #[#[],i2,Cn,i4]];rw[aac,i1,aaJ];omega
open PySem PySem.Spec PyProof.Rows
variable{P:aaD}{w:World}{K:aaf}{mg:Aag}{base:Heap}
variable{x qual:Str}{st:Stmt}{f:Addr}{fd:abM}{N ps:Aaa}{k:Nat}{sp:Sp}
def H0.Yf(F:H0 K x qual st f fd)(S:ap N ps (ak st))(len:∀vs H Q E,sp vs H Q E->vs.length=ps.length)
  (HE:∀(BI:Value),fd.code=BI->∀(A:Around) (outer:List Env) (s:Shared) (H:Hp) (vs:Aai) (Q:VK) (E:XK),BS k (A.deeper (envOfC qual (ak st) s.heap.objs.size f BI))->sp vs H Q E ->
   ∃t,IT (E3 Cu P w K mg base N qual (ak st) f BI A outer s H E).JQ (aP st) t/\t {nx:=λ_ H'=>Q .Bw H',rt:=Q} (start N vs) H):BD P w K mg base Cu (k+1) f fd ps sp:=by
 obtain⟨oc,od,kV,doc,pm,an,BI,ct,LI,rfl,lk,FT⟩:=F.ex;refine wC lk FT S len λA outer s H vs Q E hr Ln=>?_;obtain⟨t,h,q⟩:=HE BI rfl A outer s H vs Q E hr Ln;exact#[t,h.JQ,q]
variable{X:Cx}{pins:Aac}{U:St}{H:Hp}{s:Shared}{n:Nat}{v:V}
def Inv.hide(I:Inv X pins U H s){nm:Str}(hN:X.N[n]?=some nm)(hv:¬ Hq X.env.scope nm):Inv X pins (U.set n (some v)) H s:=by
 refine#[I.ok,I.os,I.bare,I.base,?_,I.cell,I.free,I.Dl,I.pin,I.Bv,by rw[afu];exact I.len];obtain⟨m,hn,hl⟩:=I.loc;refine#[m,hn,λi x u e1 e2 e3=>?_];by_cases z:n=i
 .subst z;rw[hN]at e1;cases e1;exact absurd e3 hv
 .rw[aaw z]at e2;exact hl i x u e1 e2 e3
end L2
namespace Q
open PySem L2 PyProof.Rows
noncomputable def JT(n:Nat)(c:PV)(xs:Aad):En:=Cf n xs++[some #[2,c]]
def SM(n:Nat)(P:Aap)(e:En):Prop:=match e[n]? with
 |some (some #[2,c])=>P c
 |_=>False
noncomputable def OC(n:Nat)(P:Aaq):Wd:={nx:=λe=>SM n (P .Bw) e,rt:=λx e=>SM n (P x) e}
def EO(n:Nat)(u:WS):Eu:=λc xs P=>u (OC n P) (JT n c xs)
def spT(M:Md)(n:Nat)(D:Eu):Sp:=λvs H Q _=>∃(F:Hp) (a:Addr) (l:Aaj) (c:PV) (xs:Aad) (P:Aaq),dO F H/\rW M.K F vs xs/\xs.length=n /\
 M.ob.P F H a l c/\(∀b∈l,H b≠none/\F b=none)/\D c xs P /\
 ∀r c' v F' H' l',P r c'->(∀b o,H b=some o->b∉l->H' b=some o)->(∀b,H b≠none->H' b≠none)->dO F F'->dO F' H'->(∀a,F' a≠none->F a≠none\/H a=none)->M.ob.P F' H' a l' c'->(∀b∈l',H' b≠none/\F' b=none)->(∀b∈l',b∈l\/H b=none)->Rep M.K F' v r->Q v H'
variable{M:Md}{F H:Hp}{N:Aaa}{ws:Aai}{xs:Aad}{a:Addr}{l:Aaj}{c:PV}{n:Nat}
theorem qN(sF:dO F H)(r:rW M.K F ws xs)(hN:N.length=n+1)(hl:xs.length<=n)(ho:M.ob.P F H a l c)(hb:∀b∈l,H b≠none/\F b=none):
  tO M #[H,F,l,λi=>if i=n then some a else none,λb h=>(hb b h).1] F ((start N ws).set n (some (.ref a))) H (JT n c xs):=by
 have HC:ws.length<=n:=by rw[r.len];exact hl
 have hs:(start N ws).length=n+1:=by rw[gH #[],hN]
 have he  := fM hl;refine#[sF,λb o h _=>h,λb h=>h,aj,λa h=>.inl h,?_,λi=>if i=n then l else [],λi s h=>?_,λi b h=>?_,λi j b Ew h z=>?_,λi b s h _ _=>?_]
 .unfold JT;rw[aav,he,afu,hs];rfl
 .rcases adO i n with z|z|z
  .unfold JT at h;rw[aat #[]]at h;obtain⟨x,hx,rfl⟩:=fN h;obtain⟨v,hv,rv⟩:=r.get hx;refine#[v,?_,.inl #[rfl,if_neg #[],rv]];rw[aaw #[]];exact cA hv
  .subst z;unfold JT at h;rw[adz #[],he]at h;have h:s=#[2,c]:=by simp_all
   subst h;refine#[.ref a,?_,.inr (.inr (.inl #[.inl rfl,a,rfl,λc hc=>.inl #[1],#[1]]))];rw[acy #[]]
  .unfold JT at h;rw[aao #[3]]at h;cases h
 .split at h
  .exact hb b h
  .simp at h
 .split at h
  .split at z
   .rename_i h1 h2;exact Ew (h1.trans h2.symm)
   .simp at z
  .simp at h
 .dsimp only at h;split at h
  .rename_i e;subst e;cases h;rw[acy #[]]
  .cases h
variable{P:aaD}{w:World}{K:aaf}{mg:Aag}{base:Heap}{ob:Ct}
variable{x qual:Str}{st:Stmt}{f:Addr}{fd:abM}{ps:Aaa}{k:Nat}{u:WS}
theorem fy{nm:Str}(F:H0 K x qual st f fd)(S:ap N ps (ak st))(hN:N.length=n+1)(hn:ps.length<=n)(YO:N[n]?=some nm)(hv:¬ Hq (ak st) nm)
  (hb:∀(BI:Value),fd.code=BI->∀(A:Around) (outer:List Env) (s:Shared) (H:Hp) (E:XK),BS k (A.deeper (envOfC qual (ak st) s.heap.objs.size f BI))->EG ob (E3 Cu P w K mg base N qual (ak st) f BI A outer s H E).JQ (aP st) u) :
  BD P w K mg base Cu (k+1) f fd ps (spT #[P,w,K,ob] ps.length (EO n u)):=by
 refine F.Yf S (λvs H Q E h=>?_) (λBI Ha A outer s H vs Q E hr h=>?_)
 .obtain⟨F,a,l,c,xs,P,_,r,hl,_⟩:=h;rw[r.len];exact hl
 .obtain⟨F,a,l,c,xs,P',sF,r,hl,ho,HZ,hD,kk⟩:=h;obtain⟨t,ht,kt⟩:=(hb BI Ha A outer s H E hr).ex;have fin:∀(x:PV) (env:En) (v:V) (U:L2.St) (F' H':Hp),SM n (P' x) env->dO F F'->tO #[P,w,K,ob] #[H,F,l,λi=>if i=n then some a else none,λb h=>(HZ b h).1] F' U H' env->Rep K F' v x->Q v H':=λx env v U F' H' p s1 K1 rv=>by
   unfold SM at p;split at p
   .rename_i c' e;obtain⟨fp,L⟩:=K1.sl;obtain⟨v0,Fs,ok⟩:=L.at' n _ e;have hh:=L.oa n a _ (if_pos rfl) e rfl;rw[hh]at Fs;cases Fs;rcases ok with ⟨k0,_⟩|⟨k0,_⟩|⟨_,a',e',h1,h2⟩|⟨k0,_⟩
    .cases k0
    .cases k0
    .cases e';exact kk x _ v F' H' (fp n) p (λb o h1 h2=>K1.sG b o h1 h2) (λb h=>K1.pr b h) s1 K1.sF K1.nw h2 (λb hb=>L.al n b hb) (λb hb=>h1 b hb) rv
    .cases k0
   .exact p.elim
  refine#[λD U H=>t D (U.set n (some (.ref a))) H,λpins s' U H' D I q=>ht pins s' _ H' D (I.hide YO hv) q,kt #[H,F,l,λi=>if i=n then some a else none,λb h=>(HZ b h).1] F ((start N vs).set n (some (.ref a))) H (JT n c xs) (OC n P') _ (qN (M:=#[P,w,K,ob]) sF r hN #[] ho HZ) hD #[λenv U F' H' p s1 K1=>?_,λx env v U F' H' p s1 K1 rv=>?_,λ_ _ _ _ p=>p.elim,λ_ _ _ _ p=>p.elim,λ_ _ _ _ _ _ p=>p.elim,λ_ _ _ _ _ _ _ p=>p.elim]]
  .exact fin .Bw env .Bw U F' H' p s1 K1 .Bw
  .exact fin x env v U F' H' p s1 K1 rv
variable{C6:Addr}{D D':Eu}
def fz(F:BD P w K mg base Cu k C6 fd ps (spT #[P,w,K,ob] n D))(h:∀c xs P,D' c xs P->D c xs P):BD P w K mg base Cu k C6 fd ps (spT #[P,w,K,ob] n D') :=
 F.imp λvs H Q E q=>by obtain⟨F,a,l,c,xs,P,a1,a2,a3,a4,a5,a6,a7⟩:=q;exact#[F,a,l,c,xs,P,a1,a2,a3,a4,a5,h _ _ _ a6,a7]
def C9(D:Eu)(j:Nat)(fa:WA):WE:=λenv P=>fa env λxs e=>match e[j]? with
 |some (some #[2,c])=>D c xs λr c'=>P r (e.set j (some #[2,c']))
 |some (some #[4,c])=>D c xs λr c'=>P r (e.set j (some #[4,c']))
 |_=>False
variable{X:Cx}{DO:Eu}{p pos:Pos}{e:Expr}{es:Aak}{fa:WA}
def vU(j:Nat)(F:BD X.prog X.w X.K X.mg X.base Cu k C6 fd ps (spT (md ob X) n DO))(hr:BS k X.A)(hm:X.mg x=some (.ref C6))(hk:abN X.K (.ref C6)=true)(hb:Binds X.K fd ps [])(ha:GG ob X (e::es) fa)(hn:autoParam (es.length+1=n) oR)(hg:autoParam (Gl X x) oR)
  (D7:autoParam ((x==("__debug__" : Str))=false) on) (he:autoParam (aai (e::es) X.env=(false,eval e X.env)::aai es X.env) oR) (CM:autoParam ((backTo pos (aai es X.env)).any (·.1)=false) oR) :
  BH ob X (.Call (.Name x p) (e::es) [] pos) (C9 DO j fa):=by
 obtain⟨t,ht,kt⟩:=ha.ex;refine#[_,cW (E:=E0) F hr hg hm hk hb .nil GI ht D7 he CM,λZ F U H env P Q K hf kk=>?_];refine kt Z F U H env _ _ K hf λxs e1 vs F1 H1 p hl s1 K1 r1=>?_;show spT (md ob X) n DO (vs++[]) H1 Q E0;rw[aa9];have fin:∀(kd:Nat) (c:PV),kd=2\/kd=4->e1[j]?=some (some #[kd,c])->DO c xs (λr c'=>P r (e1.set j (some #[kd,c'])))->spT (md ob X) n DO vs H1 Q E0:=λkd c IA ei p=>by
  obtain⟨fp,L⟩:=K1.sl;obtain⟨v0,Fs,ok⟩:=L.at' j _ ei;rcases ok with ⟨k0,_⟩|⟨k0,_⟩|⟨_,a,rfl,_,ho⟩|⟨k0,_⟩
  .rcases IA with rfl|rfl<;>cases k0
  .rcases IA with rfl|rfl<;>cases k0
  .refine#[F1,a,fp j,c,xs,_,K1.sF,r1,by rw[hl];exact hn,ho,λb hb=>L.al j b hb,p,λr c' v F' H' l' pr kp pre sF Ka nw EI HC Ji rv=>?_];exact kk r _ v F' H' pr (ag s1 sF) (K1.Kj IA L ei Fs kp pre sF Ka nw EI HC Ji).1 rv
  .rcases IA with rfl|rfl<;>cases k0
 split at p
 .rename_i ei;exact fin _ _ (.inl rfl) ei p
 .rename_i ei;exact fin _ _ (.inr rfl) ei p
 .exact p.elim
open PySem L2 PyProof.Rows PySem.W
variable{p:Pos}
def jf{q:Pos}(h1:p.line=q.line)(h2:p.col=q.col)(l:Aae):acP p l=acP q l:=by
 fun_induction acP p l with
 |case1 line t col u c rest h=>rw[acP,<- h1,<- h2,if_pos h]
 |case2 line t col u c rest h ih=>rw[acP,<- h1,<- h2,if_neg h];exact ih
 |case3 l h=> 
  unfold acP;split
  .exact absurd rfl (h _ _ _ _ _ _)
  .rfl
variable{α:Type}{j:Nat}
def uM{l:List α}{y:α}(h:l[j]?=some y):l.set j y=l:=by
 apply ab2;intro i;by_cases z:j=i
 .subst z;rw[acy (List.getElem?_eq_some_iff.mp h).1,h]
 .rw[aaw z]
variable{lq:Str}{ln co:Nat}{a b:Addr}
theorem pG{Up:Str}{Ww Xt:Nat}(h:Cj lq ln co a=Cj Up Ww Xt b):lq=Up/\ln=Ww/\co=Xt/\a=b:=by injection h with h;injection h with h1 h;injection h with h2 h;injection h with h3 h;injection h with h4 _;injection h1 with h1;injection h2 with h2;injection h3 with h3;injection h4 with h4;exact#[h1,#[],#[],Int.ofNat.inj h4]
variable{X:Cx}{d x:Str}{Bx p1 p2 p3 DS pos:Pos}{T c:Addr}{params:Arguments}{scope:Scope}{e:Expr}{f:WE}{i k:Nat}{ob:Ct}
end Q
namespace L2
open PySem PySem.Spec PyProof.Rows
end L2
namespace Q
open PySem L2 PyProof.Rows
end Q
namespace L2
open PySem PySem.Spec PyProof.Rows
variable{X:Cx}{pins:Aac}{U:St}{H:Hp}{s:Shared}{d:Addr}{eQ:List (Key×V)}{o:Obj}
def Inv.NA(I:Inv X pins U H s)(e:H d=some (.dK eQ))(ho:s.heap.get? d=some o):Inv X pins U (upd H d (.D1 o (.dK eQ))) s:=by
 have un:Un X.fs [] H (upd H d (.D1 o (.dK eQ))) s.heap s.heap:=by
  refine#[λb u q n _ _=>q,λb u q n _ _=>#[u.slots,q],λb u q n _=>?_,λb u q _=>#[u,q],λb xs q=>?_,λb u v q=>?_,λb qs q=>#[#v[],?_]]
  .rw[af (λz=>by rw[z,e]at n;cases n)];exact n
  .rw[af (λz=>by rw[z,e]at q;cases q)];exact q
  .rw[af (λz=>by rw[z,e]at q;cases q)];exact q
  .rw[af (λz=>by rw[z,e]at q;cases q),q];simp
 have Bv:D4 X.prog X.w (upd H d (.D1 o (.dK eQ))) s.heap:=λb u q=>by
  have st:∀c v,H c=some v->BG X.prog X.w (upd H d (.D1 o (.dK eQ))) s.heap c v:=λc v hc=>(I.Bv c v hc).G1 (λ_ _ _ g=>g) (λx hx=>by rw[af (λz=>by rw[z,e]at hx;cases hx)];exact hx) λx xs hx=>by rw[af (λz=>by rw[z,e]at hx;cases hx)];exact hx
  by_cases z:b=d
  .subst z;rw[ah]at q;cases q;exact#[ho,st b _ e]
  .rw[af z]at q;exact st b u q
 have:=I.un (t':=s.toks) un Bv;exact this
noncomputable def VL(d:Addr)(o:Obj)(eQ:List (Key×V)):It :=
 #[λi H=>H d=some (.D1 o (.dK eQ))/\i<eQ.length,
  λi H v H'=>∃p k x,v=.ref p/\H p=none/\H'=upd H p (.tup [kV k,x])/\eQ[i]?=some (k,x),
  λi H=>H d=some (.D1 o (.dK eQ))/\eQ.length<=i]
variable{vs:List (Key×Value)}
def zx(r:KV eQ vs):∀{i:Nat} {k:Key} {x:V},eQ[i]?=some (k,x)->∃u,vs[i]?=some (k,u)/\RelV x u:=by
 induction r with
 |nil=>intro i k x e;simp at e
 |@cons p q ps qs h t ih=>
  intro i k x e;cases i with
  |zero=>simp only[ac1,aeL]at e;subst e;obtain⟨k',u⟩:=q;obtain⟨h1,h2⟩:=h;subst h1;exact#[u,rfl,h2]
  |succ i=>exact ih e
variable{P:aaD}{w:World}{K:aaf}{elts:Aak}{pos:Pos}{it:Addr}{ep:Nat}
theorem qI{x1:_}{es:Array DictEntry}(r:KV eQ vs)(hx:o.ExactDict)(Kz:o.data=.dict es ep)(hk:KeysOf (ay P w) es)(hp:Pairs (ay P w) es.toList vs)(hn:(vs.map (·.1)).Nodup):
  Turn P w K (.Tuple elts x1 pos) (VL d o eQ) [it] it (λn h=>∃a b,IsItemIter h it d n vs.length ep a b) where
 mem:=by simp
 obj:=λn h #[a,b,Z] c hc=>by rw[List.mem_singleton.mp hc];exact#[_,Z,λv e=>by cases (show Data.fields _=afy v from e)]
 keep:=λn h h' #[a,b,Z] k=>#[a,b,k it #[0] _ Z]
 item:=by
  intro X hP hw hK hc n pins s U H E I hf Z hg;subst hP hw hK;obtain⟨ka,kb,Z⟩:=Z;obtain⟨hd,Cn⟩:=hg;have ho:s.heap.get? d=some o:=(I.Bv d _ hd).1;have D:s.heap.DictAt (ay X.prog X.w) d vs ep:=#[o,es,ho,hx,Kz,hk,hp,hn]
  obtain⟨⟨k,x⟩,WV⟩:∃q,eQ[n]?=some q:=#[_,aab Cn]
  obtain⟨u,hu,ru⟩:=zx r WV;have Fb:H s.heap.objs.size=none:=I.Bv.fresh (aaj _);have Te:it<s.heap.objs.size:=aah Z;have YQ:s.heap.objs.size≠it:=abL Te;refine wpAny_pyNext_items_item Z D hu λkey h' q1 q2 q3 q4 kk=>?_;have rk:RelV (kV k) key:=by
   rcases aJ q1 with ⟨i,t,rfl,rfl⟩|⟨y,t,rfl,rfl⟩
   .exact#[t,rfl]
   .exact#[t,rfl]
  refine#[_,rfl,wpAny_letOwnedTupleGo_items (s:={s with heap:=h'}) q2 λh2 w1 w2=>?_];have I1:Inv X pins U (upd H s.heap.objs.size (.tup [kV k,x])) {s with heap:=s.heap.push {cls:=.type "tuple",data:=.seq #v[key,u]}} :=
   I.laid (t':=s.toks) (λb u e=>aad _ e) (aaj _) #[by show 2<=sizeLine;decide,[key,u],.cons rk (.cons ru .nil),#[_,aag _ rfl,rfl,_,rfl]]
  have Lu:∀c∈[it],Dz X pins (upd H s.heap.objs.size (.tup [kV k,x])) c:=λc hc=>by rw[List.mem_singleton.mp hc];have:=hf it #[0];exact#[by rw[af (abE YQ)];exact this.1,this.2]
  have I2:Inv X pins U (upd H s.heap.objs.size (.tup [kV k,x])) {s with heap:=h2}:=by
   refine I1.DZ (t':=s.toks) (h':=h2) (λc q hc e=>?_) Lu;have Tg:c≠it:=λe=>hc (by simp[e]);refine w2.extBut _ _ Tg ?_;by_cases JH:c=s.heap.objs.size
   .subst JH;have:(s.heap.push {cls:=.type "tuple",data:=.seq #v[key,u]}).get? s.heap.objs.size=some {cls:=.type "tuple",data:=.seq #v[key,u]}:=aag _ rfl;have e':some {cls:=.type "tuple",data:=.seq #v[key,u]}=some q:=this.symm.trans e;rw[<- e'];exact q3
   .exact kk c q Tg ((aeQ _ _ _ JH).symm.trans e)
  exact#[.ref s.heap.objs.size,_,I2,rfl,#[_,k,x,rfl,Fb,rfl,WV],#[_,_,w1],λc hc=>(Lu c hc).1]
 done:=by
  intro X hP hw hK hc n pins s U H E I hf Z hg;subst hP hw hK;obtain⟨ka,kb,Z⟩:=Z;obtain⟨hd,hle⟩:=hg;have ho:s.heap.get? d=some o:=(I.Bv d _ hd).1;have D:s.heap.DictAt (ay X.prog X.w) d vs ep:=#[o,es,ho,hx,Kz,hk,hp,hn]
  have hl:=r.length;refine wpAny_pyNext_items_end (I.ok.hd hc) Z D (aao #[]) λh' kk=>#[rfl,I.DZ (t':=s.toks) (λc q hc e=>kk c q (λz=>hc (by simp[z])) e) hf]
 self:=λ_ _ _ _ _ #[_,_,Z] h=>PySem.W.kcp_self Z h
def N3(to:TE):TI:=λU H R=>to U H λv H1=>∃d eQ,v=.ref d/\H1 d=some (.dK eQ)/\∀o,R (VL d o eQ) (upd H1 d (.D1 o (.dK eQ)))
variable{EL:Pos}{to:TE}
theorem u4{x1:_}{o:Expr}{apos:Pos}(ho:PE X o to)
  (Cb:autoParam (abS o "items" X.env (eval o X.env)=eval o X.env) oR) (Ca:autoParam ((apos.endLine==pos.line)=true) oR) :
  PI X (.Tuple elts x1 EL) (.Call (.Attribute o "items" apos) [] [] pos) (N3 to):=by
 intro pins s U H R I h;refine wpAny_Call_method0_late Cb Ca (BZ (ho pins s U H _ I h) λv s1 #[x,H1,I1,r1,q1]=>?_);obtain⟨d,eQ,ex,hd,q1⟩:=q1;subst ex;cases r1;obtain⟨t1,t2,t3⟩:=zP I1 (.inl #[eQ,.inl hd]);refine#["dict", "dict.items",PySem.F.plainAttrs_dict,PySem.F.slot_dict_items,PySem.F.type_dict_items,t1,t2,ac5 rfl (PySem.evalArgs_none ?_)];obtain⟨hz,_,vs,rel,dd⟩:=ku I1.Bv hd;refine call_meetsIn PySem.F.slot_dict_items dd.typeIs PySem.F.entry_dict_items (PySem.F.args_dict_items_1 _) (meets_dict_items (ay X.prog X.w) d t3) #[#[vs,dd],?_];obtain⟨o,es,ep,ho,hx,Kz,hk,hp,hn⟩:=dd;have D:s1.heap.DictAt (ay X.prog X.w) d vs ep:=#[o,es,ho,hx,Kz,hk,hp,hn]
 refine wpAny_pyIter_items (v:=s1.heap.objs.size) (d:=d) #[_,aag _ rfl,rfl,rfl] (D.push _) ?_;have I2:Inv X pins U H1 {s1 with heap:=(s1.heap.push {cls:=.type "dict_items",data:=.fields #v[.ref d]}).push {cls:=.type "dict_itemiterator",data:=.fields #v[.none,.bool false,.ref d,.int 0 0,.int vs.length 0,.int ep 0,.none,.none]}} :=
  I1.kept (t':=s1.toks) λb u e=>aad _ (aad _ e)
 have I3:=I2.NA hd (o:=o) (aad _ (aad _ ho));have hsz:(s1.heap.push {cls:=.type "dict_items",data:=.fields #v[.ref d]}).objs.size=s1.heap.objs.size+1:=abn ..;have ID:s1.heap.objs.size<=(s1.heap.push {cls:=.type "dict_items",data:=.fields #v[.ref d]}).objs.size:=by omega
 have Ls  := I1.Bv.fresh ID;refine#[_,[_],_,_,_,rfl,I3,qI rel hx Kz hk hp hn,#[_,_,aag _ rfl],λb hb=>?_,q1 o];rw[List.mem_singleton.mp hb];exact I1.HH ID (by rw[af (λz=>by rw[z,hd]at Ls;cases Ls)];exact Ls)
end L2
namespace Q
open PySem L2 PyProof.Rows
noncomputable def kP:Key->PV
 |.inl i=>.int i
 |.inr x=>.str x
noncomputable def MC(q:Key×PV):PV:=.tup [kP q.1,q.2]
variable{K:aaf}{F:Hp}
def zG:∀k:Key,Rep K F (kV k) (kP k)
 |.inl i=>.int i
 |.inr x=>.str x
variable{vs:List (Key×V)}{xs:List (Key×PV)}
def Bo.get(h:Bo K F vs xs):∀{i:Nat} {k:Key} {x:PV},xs[i]?=some (k,x)->∃v,vs[i]?=some (k,v)/\Rep K F v x:=by
 induction h using Bo.ind with
 |nil=>intro i k x e;simp at e
 |cons a r ih=>
  intro i k x e;cases i with
  |zero=>simp only[ac1,aeL,Prod.mk.injEq]at e ⊢;obtain⟨rfl,rfl⟩:=e;exact#[_,#[rfl,rfl],a]
  |succ i=>exact ih e
variable{M:Md}
def zN{d:Addr}{o:Obj}(h:F d=some (.D1 o (.dK vs)))(r:Bo M.K F vs xs):Fp M (VL d o vs) F (xs.map MC):=by
 refine#[λZ i U env F' H x s K e=>?_,λZ i U env F' H s K hl=>#[K.sF _ _ (s _ _ h),by rw[r.len];simpa using hl]];rw[aal]at e;cases ez:xs[i]? with
 |none=>rw[ez]at e;cases e
 |some q=>
  rw[ez]at e;obtain⟨k,y⟩:=q;have e  := (aar e).symm;subst e;obtain⟨v,hv,rv⟩:=r.get ez;refine#[#[K.sF _ _ (s _ _ h),(List.getElem?_eq_some_iff.mp hv).1],λv' H' y'=>?_];obtain⟨p,k',x',rfl,hp,rfl,q⟩:=y';rw[hv]at q;cases q;have hF  := dO.none_of K.sF hp;refine#[_,aq hF,K.lay hp,.tup (.inl (.inl ah)) (.cons (zG k) (.cons ((rv.mono s).mono (aq hF)) .nil)),aq hp,λc hc=>?_];by_cases z:c=p
  .subst z;exact .inr hp
  .rw[af z]at hc;exact .inl hc
noncomputable def lD(i:Nat):WA:=λenv P=>match env[i]? with
 |some (some #[1,.Cd eQ])=>P (eQ.map MC) (env.set i none)
 |_=>False
variable{Z:Zn}{H:Hp}{U:L2.St}{env:En}{i:Nat}
def tO.NA{eQ:List (Key×PV)}(K:tO M Z F U H env)(hi:env[i]?=some (some #[1,.Cd eQ])):
  ∃d vs,U[i]?=some (some (.ref d))/\H d=some (.dK vs)/\F d=none/\Bo M.K F vs eQ/\∀o,tO M Z (upd F d (.D1 o (.dK vs))) U (upd H d (.D1 o (.dK vs))) (env.set i none):=by
 obtain⟨fp,L⟩:=K.sl;obtain⟨v,hv,ok⟩:=L.at' i _ hi;rcases ok with ⟨e,_⟩|⟨_,d,rfl,hf,h0,vs,hd,rk⟩|⟨e,_⟩|⟨e,_⟩
 .cases e
 .have ha:=L.al i d #[1];refine#[d,vs,hv,hd,ha.2,rk,λo=>?_];have s1:dO F (upd F d (.D1 o (.dK vs))):=aq ha.2;have ot:∀j b,j≠i->b∈fp j->b≠d:=λj b hj hb z=>L.dj j i b hj hb #[1];refine#[λb u e=>?_,λb u e hb=>?_,λb e=>?_,ag K.gr s1,λb e=>?_,by simp[K.len],λj=>if j=i then []else fp j,λj s h=>?_,λj b h=>?_,λj k b IB h z=>?_,λj b t e1 e2 e3=>?_]
  .by_cases z:b=d
   .subst z;rw[ah]at e ⊢;exact e
   .rw[af z]at e ⊢;exact K.sF b u e
  .rw[af (λz=>#[1])];exact K.sG b u e hb
  .by_cases z:b=d
   .subst z;rw[ah];simp
   .rw[af z];exact K.pr b e
  .by_cases z:b=d
   .subst z;exact .inr h0
   .rw[af z]at e;exact K.nw b e
  .by_cases z:j=i
   .subst z;rw[abt]at h;simp only[if_true]at h;split at h<;>cases h
   .rw[aaw (abE z)]at h;rw[if_neg z];obtain⟨v,g1,g2⟩:=L.at' j s h;exact#[v,g1,g2.mono s1 λc hc=>af (ot j c z hc)]
  .split at h
   .simp at h
   .rename_i z;have:=L.al j b h;rw[af (ot j b z h),af (ot j b z h)];exact this
  .split at h
   .simp at h
   .split at z
    .simp at z
    .exact L.dj j k b IB h z
  .by_cases z:j=i
   .subst z;rw[abt]at e2;simp only[if_true]at e2;split at e2<;>cases e2
   .rw[aaw (abE z)]at e2;exact L.oa j b t e1 e2 e3
 .rcases e with e|e<;>cases e
 .cases e
variable{ob:Ct}{X:Cx}{x:Str}{p apos EL:Pos}{elts:Aak}
def ui(i:Nat){pos:Pos}{x1:_}(ho:PE X (.Name x p) (B2 i))
  (Cb:autoParam (abS (.Name x p) "items" X.env (eval (.Name x p) X.env)=eval (.Name x p) X.env) oR) (Ca:autoParam ((apos.endLine==pos.line)=true) oR) :
  Hl ob X (.Tuple elts x1 EL) (.Call (.Attribute (.Name x p) "items" apos) [] [] pos) (lD i):=by
 refine#[_,u4 ho Cb Ca,λZ F U H env P R K hf kk=>?_];unfold lD at hf;split at hf
 .rename_i eQ ei;obtain⟨d,vs,hv,hd,hF,rk,kz⟩:=K.NA ei;exact#[_,hv,d,vs,rfl,hd,λo=>kk _ _ _ _ _ hf (aq hF) (kz o) (zN ah (rk.mono (aq hF)))]
 .exact hf.elim
end Q
namespace L2
open PySem PySem.Spec PyProof.Rows PySem.W
variable{prog:aaD}{w:World}{A:Around}{E:Aab}{s:Shared}
end L2
namespace Q
open PySem L2 PyProof.Rows
variable{ob:Ct}{X:Cx}{e:Expr}{f:WE}{p pos DS p1:Pos}{kd:Nat}
end Q
namespace L2
open PySem PySem.Spec PyProof.Rows
def Sk(A:Around)(s:Shared)(y x:Value)(b:Bool):Prop :=
 ∀(prog:aaD) (w:World) (E:Aab) (Q:Aab),Q (.bool b) s->wpAny (model prog w) A (richCompare .Lt y x) Q E s
inductive HU (A:Around) (s:Shared):Aae->List Value->Bool->Prop where
 |nn:HU A s [] [] false
 |nc {y ys}:HU A s [] (y::ys) true
 |cn {x xs}:HU A s (x::xs) [] false
 |eq {x y xs ys b}:SeqAt.EqAt A s x y true->HU A s xs ys b->HU A s (x::xs) (y::ys) b
 |lt {x y xs ys b}:SeqAt.EqAt A s x y false->Sk A s x y b->HU A s (x::xs) (y::ys) b
section
open PySem.SeqAt
open PySem.AutoSeq1 (wpAny_loadPart')
open PySem.MeetsSeq PySem.MeetsSeq2 PySem.MeetsSeq3
theorem sf(l b:Addr)(items ES:Aam)(n n2:Nat)(dd Pf:Option Addr)(sl OW:Array (Option Value))(r:Bool):
  Meets (adx.«tuple.__lt__» #[[.ref l,.ref b],[]])
   (λA R s=>s.heap.get? l=some {cls:=.type "tuple",dict:=dd,data:=.seq items n,slots:=sl}/\s.heap.get? b=some {cls:=.type "tuple",dict:=Pf,data:=.seq ES n2,slots:=OW}/\HU A.in1 s items.toList ES.toList r/\R (.ok (.ret (.bool r))) s) :=
 .of_wp λprog w A R s h=>by
  obtain⟨hp,g,d,tk,os⟩:=s;obtain⟨hl,hb,lx,h⟩:=h;have f2:=AutoSeq1.sub_tuple_tuple
  wp_walk using wpAny_loadPart' hl,wpAny_loadPart' hb,wpAny_forIn_list _ (λrest b s'=>b.1=none/\s'=#[hp,g,d,tk,os]/\∃(vs ws:Aae),rest=vs.zip ws /\
   vs.length+ES.size=ws.length+items.size/\HU A.in1 #[hp,g,d,tk,os] vs ws r) _
  case turn=>
   rintro⟨y,x⟩ rest b s' ⟨Lx,rfl,vs,ws,hz,hlen,hR⟩;cases hR with
   |nn=>rw[List.zip_nil_left]at hz;cases hz
   |nc=>rw[List.zip_nil_left]at hz;cases hz
   |cn=>rw[List.zip_nil_right]at hz;cases hz
   |eq e MP=>
    rw[abX]at hz;injection hz with hyx ML;injection hyx with hy hx;subst hy hx;simp only[aaG]at hlen;refine aaa (e prog w _ _ ?_)
    wp_walk
    exact#[rfl,rfl,_,_,ML,#[],MP]
   |lt e e2=>
    rw[abX]at hz;injection hz with hyx ML;injection hyx with hy hx;subst hy hx;simp only[aaG]at hlen;refine aaa (e prog w _ _ ?_);have YF:=e2 prog w
    wp_walk using YF
    exact#[_,rfl,by simpa using h]
  case fin=>
   rintro⟨b1,b2⟩ s' ⟨Lx,rfl,vs,ws,hz,hlen,hR⟩;simp only at Lx;subst Lx;have hv:r=decide (items.size<ES.size):=by
    cases hR with
    |nn=>simp only[ab4]at hlen;exact(decide_eq_false #[]).symm
    |nc=>simp only[ab4,aaG]at hlen;exact(decide_eq_true #[]).symm
    |cn=>simp only[ab4,aaG]at hlen;exact(decide_eq_false #[]).symm
    |eq=>rw[abX]at hz;cases hz
    |lt=>rw[abX]at hz;cases hz
   rw[hv]at h
   wp_walk
   exact#[_,rfl,by simpa[Builtin.Tuple.tupleCompareSizes]using h]
  case h=>exact#[rfl,rfl,items.toList,ES.toList,rfl,#[3],lx]
end
end L2
namespace Q
open PySem L2 PyProof.Rows
variable{X:Cx}{pins:Aac}{U:L2.St}{H F:Hp}{s:Shared}
variable{ob:Ct}
end Q
namespace L2
open PySem PySem.Spec PyProof.Rows
variable{prog:aaD}{w:World}{A:Around}{E:Aab}{s:Shared}{a0:Array Keyed}{O:KeyKind}
variable{X:Cx}
end L2
namespace Q
open PySem L2 PyProof.Rows
variable{ob:Ct}{X:Cx}{a b c e:Expr}{es:Aak}{f g h:WE}{fa:WA}{pos p p1:Pos}{x:Str}
def T8:V->Option Int->Option Int->Hp->VK->Prop:=λx lo hi H Q=>∃s:Str,x=.str s/\s.length<=1000/\Q (.str (adr s lo hi)) H
theorem yV:LD X T8:=by
 intro pins s U H x v vl vu lo hi sl Q I rx hs pl pu h;obtain⟨y,rfl,hl,q⟩:=h;obtain⟨t,rfl⟩:=rx;obtain⟨l,el,rfl⟩:∃l:Option (Int×Tok),partValue l=vl/\l.map (·.1)=lo:=by
  cases pl with
  |none=>exact#[none,rfl,rfl]
  |int i t=>exact#[some (i,t),rfl,rfl]
 obtain⟨u,eu,rfl⟩:∃u:Option (Int×Tok),partValue u=vu/\u.map (·.1)=hi:=by
  cases pu with
  |none=>exact#[none,rfl,rfl]
  |int i t=>exact#[some (i,t),rfl,rfl]
 subst el eu;refine#["str",_,F.slot_str_getitem.lookup,typeIs_str _ _ _,wpAny_getItem_str_slice (l:=l) (u:=u) (st:=none) hs rfl (post_val_or_str #[?_,λt' k=>?_])]
 .exact aaX (Txt.slice_le y (l.map (·.1)) (u.map (·.1))) (by rw[aaJ];omega)
 .exact#[.str (adr y (l.map (·.1)) (u.map (·.1))),H,I.kept (t':=k) (λb o e=>e),#[t',rfl],q]
noncomputable def Ms:PV->Option Int->Option Int->Option PV
 |.str s,lo,hi=>if s.length<=1000 then some (.str (adr s lo hi))else none
 |_,_,_=>none
def Mb(a:WE)(lo hi:WO):WE:=λenv P=>a env λx e1=>lo e1 λl e2=>hi e2 λu e3=>opt (Ms x l u) λz=>P z e3
def Ah{l u:Option Expr}{lo hi:WO}{p2:Pos}(ha:BH ob X a f)(hl:Pn ob X l lo)(hu:Pn ob X u hi):BH ob X (.Subscript a (.Slice l u none p2) pos) (Mb f lo hi):=by
 obtain⟨t,ht,k⟩:=ha.ex;obtain⟨t1,Kv,k1⟩:=hl.ex;obtain⟨t2,LR,k2⟩:=hu.ex;refine#[_,jt yV ht Kv LR,λZ F U H env P Q K hf kk=>k Z F U H env _ _ K hf λx e1 v F1 H1 p s1 K1 r1=>?_];refine k1 Z F1 U H1 e1 _ _ K1 p λi e2 F2 H2 p2 s2 K2=>k2 Z F2 U H2 e2 _ _ K2 p2 λj e3 F3 H3 p3 s3 K3=>?_;obtain⟨z,hz,p3⟩:=p3;have r3:=(r1.mono s2).mono s3;have s4:=ag s1 (ag s2 s3);unfold Ms at hz;split at hz
 .split at hz
  .rename_i hl;cases hz;cases r3;exact#[_,rfl,hl,kk _ e3 _ F3 H3 p3 s4 K3 (.str _)]
  .cases hz
 .cases hz
end Q
namespace L2
open PySem PySem.Spec PyProof.Rows
variable{X:Cx}{o e:Expr}{to te:TE}{apos pos:Pos}
section
open Builtin Builtin.Str
variable{prog:aaD}{w:World}{A:Around}{E:Aab}{s:Shared}
end
def Qo(K:aaf)(to te:TE):TE:=λU H Q=>to U H λx H1=>∃a:Str,x=.str a/\te U H1 λy H2=>∃(p:Addr) (ss:Aaa),y=.ref p/\CN K H2 p (ss.map V.str)/\JoinOk a ss=true/\Q (.str (Txt.join a ss)) H2
def jQ:∀{ss:Aaa} {us:Aae},AS (ss.map V.str) us->∃l:List (Str×Tok),l.map (·.1)=ss/\strValues l=us
 |[],_,h=>by cases h;exact#[[],rfl,rfl]
 |s::ss,_,h=>by
  cases h with
  |cons a b=>obtain⟨t,rfl⟩:=a;obtain⟨l,e1,e2⟩:=jQ b;exact#[(s,t)::l,#[1],by rw[<- e2];rfl]
def xc(ho:PE X o to)(he:PE X e te)(Cb:autoParam (abS o "join" X.env (eval o X.env)=eval o X.env) oR)(hs:autoParam (aai [e] X.env=[(false,eval e X.env)]) oR)(Ca:autoParam ((apos.endLine==pos.line)=true) oR):
  PE X (.Call (.Attribute o "join" apos) [e] [] pos) (Qo X.K to te):=by
 refine λpins s U H Q I h=>Call_method1 Cb hs Ca (BZ (ho pins s U H _ I h) λv s1 #[x,H1,I1,r1,a,e1,q1]=>?_);subst e1;obtain⟨t,rfl⟩:=r1;refine SB.join (BZ (he pins s1 U H1 _ I1 q1) λu s2 #[y,H2,I2,r2,p,ss,e2,hp,hj,q2]=>?_);subst e2;cases r2;obtain⟨gE,rv,pl,_⟩:=I2.list hp;obtain⟨l,e1,e2⟩:=jQ rv;refine#[p,l,rfl,by rw[e2];exact pl.isList,ss,e1,hj,λt' k=>?_];exact#[.str _,H2,I2.kept (λb o e=>e),#[t',rfl],q2]
end L2
namespace Q
open PySem L2 PyProof.Rows
variable{ob:Ct}{X:Cx}{a b e:Expr}{f g:WE}{apos pos:Pos}
noncomputable def KR(f g:WE):WE:=λenv P=>f env λx e1=>match x with
 |.str a=>g e1 λy e2=>match y with
  |.lst ys=>∃ss,ys.mapM Fy=some ss/\JoinOk a ss=true/\P (.str (Txt.join a ss)) e2
  |_=>False
 |_=>False
def yi(ha:BH ob X a f)(hb:Gh ob X b g)(Cb:autoParam (abS a "join" X.env (eval a X.env)=eval a X.env) oR)(hs:autoParam (aai [b] X.env=[(false,eval b X.env)]) oR)(Ca:autoParam ((apos.endLine==pos.line)=true) oR):
  BH ob X (.Call (.Attribute a "join" apos) [b] [] pos) (KR f g):=by
 obtain⟨ta,ha,ka⟩:=ha.ex;obtain⟨tb,hb,kb⟩:=hb.ex;refine#[_,xc ha hb Cb hs Ca,λZ F U H env P Q K hf kk=>ka Z F U H env _ _ K hf λx e1 v F1 H1 p s1 K1 r1=>?_];split at p
 .cases r1;refine#[_,rfl,kb Z F1 U H1 e1 _ _ K1 p λy e2 u F2 H2 p2 s2 K2 r2=>?_];split at p2
  .obtain⟨ss,es,hj,p2⟩:=p2;obtain⟨q,vs,rfl,h1,h2⟩:=r2.lst K2.sF;have:=bj cT es h2;subst this;exact#[q,ss,rfl,.inl (.inl h1),hj,kk _ e2 _ F2 H2 p2 (ag s1 s2) K2 (.str _)]
  .exact p2.elim
 .exact p.elim
end Q
namespace L2
open PySem PySem.Spec PyProof.Rows
variable{prog:aaD}{w:World}{A:Around}{E:Aab}{s:Shared}{l b:Addr}{items ES:Aam}{n n2:Nat}
variable{X:Cx}
end L2
namespace Q
open PySem L2 PyProof.Rows
variable{ob:Ct}{X:Cx}{e:Expr}{g:WE}{pos pos':Pos}
end Q
set_option maxHeartbeats 400000
namespace L2
open PySem PySem.Spec PyProof.Rows
noncomputable def VM(K:aaf)(l:Addr):It :=
 #[λi H=>∃xs x,CN K H l xs/\xs[i]?=some x,
  λi H v H'=>∃p x,v=.ref p/\H p=none/\H'=upd H p (.tup [.int i,x])/\∀xs,CN K H l xs->xs[i]?=some x,
  λi H=>∃xs,CN K H l xs/\xs.length<=i]
structure EnT(h:Heap)(e it l:Addr)(i:Nat):Prop where
 en:∃old,IsEnum h e it i old
 li:h.IsListIter it l i
variable{P:aaD}{w:World}{K:aaf}{elts:Aak}{pos:Pos}
theorem se{x1:_}(l e it:Addr)(hne:e≠it):
  Turn P w K (.Tuple elts x1 pos) (VM K l) [e,it] e (λn h=>EnT h e it l n) where
 mem:=by simp
 obj:=λn h Z c hc=>by
  obtain⟨⟨old,ee⟩,o,eo,r1,r2⟩:=Z;simp only[abf,abA,or_false]at hc;rcases hc with rfl|rfl
  .exact#[_,ee,λv q=>(by cases (show Data.fields _=afy v from q))]
  .exact#[_,eo,λv q=>(by rw[r2]at q;cases q)]
 keep:=λn h h' Z k=>by obtain⟨⟨old,ee⟩,o,eo,r⟩:=Z;exact#[#[old,k e #[0] _ ee],o,k it #[0] _ eo,r]
 item:=by
  intro X hP hw hK hc n pins s U H E I hf Z hg;subst hP hw hK;obtain⟨⟨old,ee⟩,RD⟩:=Z;obtain⟨xs,x,hx,ex⟩:=hg;obtain⟨gE,rv,pl,hz⟩:=I.list hx;obtain⟨v,ev,r⟩:=rv.get ex;have Fb:H s.heap.objs.size=none:=I.Bv.fresh (aaj _);have ol:∀c∈[e,it],c<s.heap.objs.size:=λc hc=>by
   obtain⟨o,eo,r⟩:=RD;simp only[abf,abA,or_false]at hc;rcases hc with rfl|rfl
   .exact aah ee
   .exact aah eo
  have nze:s.heap.objs.size≠e:=abL (ol e #[0]);have nzi:s.heap.objs.size≠it:=abL (ol it #[0]);refine wpAny_pyNext_enum_item ee RD pl.isList (x:=v) (by simpa using ev) hne λh' q1 q2 q3 q4 kk=>?_;refine#[_,rfl,wpAny_letOwnedTupleGo_enum (s:={s with heap:=h',toks:=s.toks+1}) q1 λh2 w1 w2=>?_];have I1:Inv X pins U (upd H s.heap.objs.size (.tup [.int n,x])) {s with heap:=s.heap.push {cls:=.type "tuple",data:=.seq #v[.int n s.toks,v]}} :=
   I.laid (t':=s.toks) (λb u e=>aad _ e) (aaj _) #[by show 2<=sizeLine;decide,[.int n s.toks,v],.cons #[s.toks,rfl] (.cons r .nil),#[_,aag _ rfl,rfl,_,rfl]]
  have Lu:∀c∈[e,it],Dz X pins (upd H s.heap.objs.size (.tup [.int n,x])) c:=λc hc=>#[by rw[af (aas (ol c hc))];exact(hf c hc).1,(hf c hc).2]
  have I2:Inv X pins U (upd H s.heap.objs.size (.tup [.int n,x])) {s with heap:=h2,toks:=s.toks+1}:=by
   refine I1.DZ (t':=s.toks+1) (h':=h2) (λc q hc eq=>?_) Lu;have W7:c≠e:=λz=>hc (by simp[z]);have Ze:c≠it:=λz=>hc (by simp[z]);refine w2.extBut _ _ W7 ?_;by_cases JH:c=s.heap.objs.size
   .subst JH;have:(s.heap.push {cls:=.type "tuple",data:=.seq #v[.int n s.toks,v]}).get? s.heap.objs.size=some {cls:=.type "tuple",data:=.seq #v[.int n s.toks,v]}:=aag _ rfl;have e':some {cls:=.type "tuple",data:=.seq #v[.int n s.toks,v]}=some q:=this.symm.trans eq;rw[<- e'];exact q3
   .exact kk c q W7 Ze ((aeQ _ _ _ JH).symm.trans eq)
  refine#[.ref s.heap.objs.size,_,I2,rfl,#[_,x,rfl,Fb,rfl,λXC g=>?_],?_,λc hc=>(Lu c hc).1]
  .rw[I.EA g hx];exact ex
  .refine#[#[_,w1],?_];obtain⟨o,eo,r⟩:=q2;exact#[o,w2.extBut _ _ (abE hne) eo,r]
 done:=by intro X hP hw hK hc n pins s U H E I hf Z hg;subst hP hw hK;obtain⟨⟨old,ee⟩,RD⟩:=Z;obtain⟨xs,hx,hl⟩:=hg;obtain⟨gE,rv,pl,hz⟩:=I.list hx;have l1:=rv.length;refine wpAny_pyNext_enum_end (I.ok.hd hc) ee RD pl.isList #[3] λh' kk=>#[rfl,I.DZ (t':=s.toks) (λc q hc eq=>kk c q (λz=>hc (by simp[z])) eq) hf]
 self:=λA i s Q E Z h=>by obtain⟨⟨old,ee⟩,_⟩:=Z;exact wpAny_pyIter_enum ee h
variable{X:Cx}
def Rt(K:aaf)(ta:TA):TI:=λU H R=>ta U H λvs H1=>∃l xs,vs=[.ref l]/\CN K H1 l xs/\R (VM K l) H1
variable{EL p:Pos}{a:Expr}{ta:TA}
def xa{x1:_}(hg:Gl X "enumerate")(hm:X.mg "enumerate" = none)(ha:PA X [a] ta)(hs:autoParam (aai [a] X.env=[(false,eval a X.env)]) oR):
  PI X (.Tuple elts x1 EL) (.Call (.Name "enumerate" p) [a] [] pos) (Rt X.K ta):=by
 refine λpins s U H R I h=>Call_ (bV I hg hm boot_enumerate (acE (BZ (ha pos pins s U H _ I h) λus s1 #[vs,H1,I1,r1,q1]=>?_) (by rw[hs];rfl) rfl));obtain⟨l,xs,e,hx,q⟩:=q1;subst e;cases r1 with
 |cons ra rr=>
  cases rr;cases ra;obtain⟨gE,rv,pl,hz⟩:=I1.list hx;refine call_enumerate_list pl.isList λh' he hi sz kk=>?_;have I2  := I1.kept (t':=s1.toks) kk;refine wpAny_pyIter_enum he #[_,_,_,_,H1,rfl,I2,se l _ _ (Nat.succ_ne_self _),#[#[_,he],hi],λb' hb=>?_,q];have ID:s1.heap.objs.size<=b':=by
   simp only[abf,abA,or_false]at hb;rcases hb with rfl|rfl
   .exact ads _
   .exact aaj _
  exact I1.HH ID (I1.Bv.fresh ID)
end L2
namespace Q
open PySem L2 PyProof.Rows
noncomputable def Fc(xs:Aad):Aad:=xs.zipIdx.map λp=>.tup [.int p.2,p.1]
variable{M:Md}{F:Hp}{a:Addr}{vs:Aai}{xs:Aad}
theorem zO(h1:CN M.K F a vs)(r1:rW M.K F vs xs):Fp M (VM M.K a) F (Fc xs):=by
 refine#[λZ i U env F' H x s K e=>?_,λZ i U env F' H s K hl=>#[vs,aZ K.sF (aZ s h1),?_]]
 .unfold Fc at e;rw[aal,List.getElem?_zipIdx]at e;cases ez:xs[i]? with
  |none=>rw[ez]at e;cases e
  |some x1=>
   rw[ez]at e;have e  := (aar e).symm;rw[aaP]at e;subst e;obtain⟨v1,q1,q2⟩:=r1.get ez;have g1:=aZ K.sF (aZ s h1);refine#[#[vs,v1,g1,q1],λv' H' y=>?_];obtain⟨p,w1,rfl,hp,rfl,y⟩:=y;have y1:=y vs g1;rw[q1]at y1;cases y1;have hF  := dO.none_of K.sF hp;refine#[_,aq hF,K.lay hp,.tup (.inl (.inl ah)) (.cons (.int _) (.cons ((q2.mono s).mono (aq hF)) .nil)),aq hp,λc hc=>?_];by_cases z:c=p
   .subst z;exact .inr hp
   .rw[af z]at hc;exact .inl hc
 .have:=r1.len;simp only[Fc,aac,List.length_zipIdx]at hl;omega
variable{ob:Ct}{X:Cx}{a:Expr}{fa:WA}{p pos:Pos}
def iE(a:WA):WA:=λenv P=>a env λxs e=>match xs with
 |[.lst xs]=>P (Fc xs) e
 |_=>False
variable{elts:Aak}{EL:Pos}
def yx{x1:_}(hg:Gl X "enumerate")(hm:X.mg "enumerate" = none)(ha:GG ob X [a] fa)(hs:autoParam (aai [a] X.env=[(false,eval a X.env)]) oR):
  Hl ob X (.Tuple elts x1 EL) (.Call (.Name "enumerate" p) [a] [] pos) (iE fa):=by
 obtain⟨t,ht,k⟩:=ha.ex;refine#[_,xa hg hm ht hs,λZ F U H env P R K hf kk=>k Z F U H env _ _ K hf λxs e1 vs F1 H1 p _ s1 K1 r1=>?_];split at p
 .cases r1 with
  |cons r1 r2=>
   cases r2;cases r1 with
   |lst g1 g2=>exact#[_,_,rfl,aZ K1.sF (.inl (.inl g1)),kk _ e1 _ F1 H1 p s1 K1 (zO (.inl (.inl g1)) g2)]
 .exact p.elim
variable{p2:Pos}{x:Str}
end Q
namespace Pre
open PySem L2
def pK:Sp:=λvs H Q _=>∃(a b:Addr) (m:Int) (f:Nat),vs=[.ref a,.int m]/\Ph H a b (f+1)/\0<m/\m<1073741824/\∀(r:Int) (H':Hp),0<=r->r<m->Ph H' a b f->IU a b H H'->Q (.int r) H'
def fO(K:aaf):Sp:=λvs H Q _=>∃(s:Addr) (ns:Aas),vs=[.ref s]/\CN K H s (ns.map V.int)/\ns.length<=63/\∀(a b:Addr) (H':Hp),H a=none->H b=none->Ph H' a b 1000000->dO H H'->Q (.ref a) H'
end Pre
namespace Q
open PySem L2 PyProof.Rows
def mJ:Eu:=λc xs P=>∃(f:Nat) (m:Int),c=.int ((f+1:Nat):Int)/\xs=[.int m]/\0<m/\m<1073741824/\∀r:Int,0<=r->r<m->P (.int r) (.int (f:Int))
variable{H:Hp}{a b:Addr}
def pH{f:Nat}(s:Pre.Ph H a b f):H a≠none/\H b≠none:=by obtain⟨ns,_,_,_,h1,h2,_⟩:=s.st;exact#[by rw[h1];simp,by rw[h2];simp]
variable{P:aaD}{w:World}{K:aaf}{mg:Aag}{base:Heap}{k:Nat}{C6:Addr}{fd:abM}{ps:Aaa}
theorem tw(F:BD P w K mg base Cu k C6 fd ps Pre.pK):BD P w K mg base Cu k C6 fd ps (Li #[P,w,K,DE K] 2 mJ):=by
 refine F.imp λvs H Q E h=>?_;obtain⟨F,a,l,c,ws,xs,P',rfl,sF,r,hl,ho,hb,⟨f,m,rfl,rfl,m0,m1,hP⟩,kk⟩:=h;obtain⟨b,rfl,S⟩:∃b,l=[a,b]/\Pre.Ph H a b (f+1):=by
  rcases ho with (⟨h,_⟩|⟨g,b,h,h2,h3⟩)|⟨ks,h,_⟩|⟨_,_,_,_,h,_⟩|⟨_,_,_,_,_,h,_⟩
  .cases h
  .injection h with h;have e:f+1=g:=by omega
   subst e;exact#[b,h2,h3]
  .cases h
  .cases h
  .cases h
 cases r with
 |cons r1 r2=>
  cases r2;cases r1;refine#[a,b,m,f,rfl,S,m0,m1,λr H' r0 r1 S' hB=>?_];have two:=pH S';have keep:∀c o,H c=some o->c∉[a,b]->H' c=some o:=λc o h hn=>by simp at hn;exact hB c o h hn.1 hn.2
  refine kk (.int r) (.int (f:Int)) (.int r) F H' [a,b] (hP r r0 r1) keep (λc h=>?_) aj (λc o h=>?_) (λc h=>.inl h) (.inl (.inr #[f,b,rfl,rfl,S'])) (λc hc=>?_) (λc hc=>.inl hc) (.int r)
  .by_cases q:c∈[a,b]
   .simp at q;rcases q with rfl|rfl
    .exact two.1
    .exact two.2
   .obtain⟨o,ho⟩:=bK h;rw[keep c o ho q];simp
  .refine keep c o (sF c o h) λq=>?_;have:=(hb c q).2;rw[h]at this;cases this
  .refine#[?_,(hb c hc).2];simp at hc;rcases hc with rfl|rfl
   .exact two.1
   .exact two.2
noncomputable def fm(i j:Nat):WS:=λP env=>match env[j]? with
 |some (some #[0,x])=>(∃ns:Aas,(x=.D5 ns\/x=.lst (ns.map .int))/\ns.length<=63)/\P.nx (env.set i (some #[4,.int ((1000000:Nat):Int)]))
 |_=>False
variable{X:Cx}{x y:Str}{p p1 pos pos':Pos}
theorem uc(i j:Nat)(hN:X.N.Nodup)(hi:X.N[i]?=some y)(hx:Loc X.env.scope y)(F:BD X.prog X.w X.K X.mg X.base Cu k C6 fd ps (Pre.fO X.K))(hr:BS k X.A)(hm:X.mg "_law_begin" = some (.ref C6))(hk:abN X.K (.ref C6)=true)(hb:Binds X.K fd ps [])(ho:PE X (.Name x p1) (B2 j))
  (hg:autoParam (Gl X "_law_begin") oR) (he:autoParam (aai [.Name x p1] X.env=(false,eval (.Name x p1) X.env)::aai [] X.env) oR) (CM:autoParam ((backTo pos (aai [] X.env)).any (·.1)=false) oR)
  {B3:Pos} (hs:autoParam (abU (.Call (.Name "_law_begin" p) [.Name x p1] [] pos) (some (.Name y pos')) B3.line X.env=pure false) oR) (hf:autoParam (X.fn y=true\/X.env.scope.names.lookup y=some .local) ge) :
  E6 (DE X.K) X (.Assign [.Name y pos'] (.Call (.Name "_law_begin" p) [.Name x p1] [] pos) B3) (fm i j):=by
 refine#[_,bu hN hi hx (cW (E:=E0) F hr hg hm hk hb .nil GI (aD ho aN he) #[2] he CM) hs hf,λZ F U H env P D K hf L=>?_];unfold fm at hf;split at hf
 .rename_i v ej;obtain⟨⟨ns,hv,hn⟩,hp⟩:=hf;obtain⟨w,hw,r⟩:=K.val ej;obtain⟨s,rfl,hs⟩:∃s,w=.ref s/\CN X.K H s (ns.map V.int):=by
   rcases hv with rfl|rfl
   .cases r with
    |D5 h=>exact#[_,rfl,aZ K.sF h.sq]
   .cases r with
    |lst h1 h2=>have:=nL h2;subst this;exact#[_,rfl,.inl (.inl (K.sF _ _ h1))]
  refine#[_,hw,s,ns,rfl,hs,hn,λa b H' ha hb S sH=>?_];have Zv:F a=none:=dO.none_of K.sF ha;have Zu:F b=none:=dO.none_of K.sF hb;have K1:tO (md (DE X.K) X) Z F U H' env:=K.move aj (ag K.sF sH) sH λ_ h=>.inl h;obtain⟨fp,L0⟩:=K.sl;have L1:Slots (md (DE X.K) X) Z F U H' env fp:=L0.move aj (λ_ c o _ e=>sH c o e) λ_ h=>.inl h;have two:=pH S;refine L.nx _ _ F H' hp aj ?_;rcases aaQ i env.length with Cn|ID;case inr=>rw[aby ID,aby (by have:=K.len;omega)];exact K1
  refine K1.slots (by simp[K.len]) (L1.put (l:=[a,b]) #[0] (by have:=K.len;omega) (.inr (.inr (.inl #[.inr rfl,a,rfl,λc hc=>.inr ?_,   .inl (.inr #[1000000,b,rfl,rfl,S])]))) (λc hc=>?_) λj c _ hc hj=>?_)
  .simp at hc;rcases hc with rfl|rfl
   .exact K.h0 ha
   .exact K.h0 hb
  .simp at hc;rcases hc with rfl|rfl
   .exact#[two.1,Zv]
   .exact#[two.2,Zu]
  .have:=(L0.al j c hj).1;simp at hc;rcases hc with rfl|rfl
   .exact this ha
   .exact this hb
 .exact hf.elim
variable{ob:Ct}
def rF(i j:Nat)(hN:X.N.Nodup)(hi:X.N[i]?=some y)(hx:Loc X.env.scope y)(F:BD X.prog X.w X.K X.mg X.base Cu k C6 fd ps (Pre.fO X.K))(hr:BS k X.A)(hm:X.mg "_law_begin" = some (.ref C6))(hk:abN X.K (.ref C6)=true)(hb:Binds X.K fd ps [])(ho:PE X (.Name x p1) (B2 j))
  (JA:autoParam (ob=DE X.K) oR) (hg:autoParam (Gl X "_law_begin") oR) (he:autoParam (aai [.Name x p1] X.env=(false,eval (.Name x p1) X.env)::aai [] X.env) oR) (CM:autoParam ((backTo pos (aai [] X.env)).any (·.1)=false) oR)
  {B3:Pos} (hs:autoParam (abU (.Call (.Name "_law_begin" p) [.Name x p1] [] pos) (some (.Name y pos')) B3.line X.env=pure false) oR) (hf:autoParam (X.fn y=true\/X.env.scope.names.lookup y=some .local) ge) :
  E6 ob X (.Assign [.Name y pos'] (.Call (.Name "_law_begin" p) [.Name x p1] [] pos) B3) (fm i j):=by
 subst JA;exact uc i j hN hi hx F hr hm hk hb ho hg he CM hs hf
variable{g:WG}{c:WT}{f:WE}{js:Aah}
theorem gX{P:Aal}(I:Nat->List PV->En->Prop):∀{xs:Aad} {i:Nat} {acc:Aad} {env:En},I i acc env->acc.length<=i->i+xs.length<=100000 ->
  (∀(j:Nat) (x:PV) (acc:Aad) (env:En) (R:Aaw->En->Prop),xs[j]?=some x->I (i+j) acc env->(∀(o:Aaw) (aT:En),I (i+j+1) (acc++o.toList) aT->R o aT)->g x (EE js env) λb1=>c b1 λok b2=>if ok=true then f b2 λy b3=>R (some y) (Ce js env b3)else R none (Ce js env b2)) ->
  (∀acc env,I (i+xs.length) acc env->acc.length<=i+xs.length->P (.lst acc) env)->CD g c f js P xs env acc
 |[],i,acc,env,h0,hl,_,_,hd=>hd acc env (by simpa using h0) (by simpa using hl)
 |x::xs,i,acc,env,h0,hl,hb,hs,hd=>by
  have Lx:i+xs.length+1<=100000:=by simpa[abF]using hb
  refine hs 0 x acc env (λo e=>(match o with|some y=>acc.length<=100000/\CD g c f js P xs e (acc++[y])|none=>CD g c f js P xs e acc)) rfl h0 λo e' ho=>?_;have rest:∀F9,I (i+1) F9 e'->F9.length<=i+1->CD g c f js P xs e' F9:=λF9 h1 h2=>gX I (i:=i+1) h1 h2 #[] (λj y a env R hj hI k=>hs (j+1) y a env R (by simpa using hj) (by rwa [abF,aco 1 j]at hI) λo e h=>k o e (by rwa [abF i 1 j,aco 1 j])) λa e h h'=>hd a e (by rwa [aaG,aco xs.length 1,<- abF]) (by rw[aaG];omega);cases o with
  |none=>exact rest acc (by simpa using ho) #[]
  |some y=>exact#[#[],rest (acc++[y]) (by simpa using ho) #[3]]
variable{pins:Aac}{s:Shared}{U:L2.St}
end Q
namespace L2
open PySem PySem.Spec PyProof.Rows PySem.W
variable{prog:aaD}{w:World}{A:Around}{E:Aab}{s:Shared}
end L2
namespace Q
open PySem L2 PyProof.Rows
variable{ob:Ct}{X:Cx}{e:Expr}{es:Aak}{fa:WA}{pos p:Pos}
end Q
set_option maxHeartbeats 1000000
namespace L2
open PySem PySem.Spec PyProof.Rows
open AutoSeq1 (wpAny_loadPart')
variable{prog:aaD}{w:World}{A:Around}{E:Aab}{s:Shared}
variable{X:Cx}
end L2
namespace Q
open PySem L2 PyProof.Rows
variable{ob:Ct}{X:Cx}{a:Expr}{fa:WA}{p pos:Pos}
end Q
namespace L2
open PySem PySem.Spec PyProof.Rows
def pf(t:adV)(n:Nat):(t.orStandIn n).led=t.led:=by
 unfold SetTable.orStandIn ae3
 split<;>rfl
def rj(t:adV)(es:Array (Int×Value))(h:Int)(x:Value):(layNew t es h x).2.1.led=t.led:=by
 unfold layNew;split
 .exact pf _ _
 .rfl
variable{t:adV}{n:Nat}
def i7{t':adV}{hs:Array Int}{o:Array Nat}(e:t.relaid hs n=some (t',o)):t'.led=t.led/\t'.plain=t.plain:=by
 unfold SetTable.relaid SetTable.laid at e;cases q:SetTable.layClean _ hs with
 |none=>rw[q]at e;cases e
 |some ow=>rw[q]at e;have e':=aar e;cases e';exact#[rfl,rfl]
def nQ(t:adV)(es:Array (Int×Value))(n:Nat):(aeg t es n).2.1.led=t.led:=by
 unfold aeg ae3;split
 .rename_i e;dsimp only;split
  .exact(i7 e).1
  .rfl
 .rfl
def lb(t:adV)(es:Array (Int×Value))(n:Nat)(h:t.plain=false):(aeg t es n).2.1.plain=false:=by
 unfold aeg ae3;split
 .rename_i e;dsimp only;split
  .exact(i7 e).2.trans h
  .rfl
 .rfl
def CS(P:aaD)(w:World)(h:Heap)(a:Addr)(ss:Aaa):Prop :=
 ∃o es ep t ks,h.get? a=some o/\o.ExactSet/\o.data=.set es ep t/\ElemsOf (strKind P w) es.toList/\acw (es.toList.map (·.2)) ks/\ks.Perm ss/\es.size<scanBound/\t.fits es.size=true /\
  (w.params.followText "set-order" = false->t.led=true)/\(es.size≠0->t.plain=false)
variable{P:aaD}{w:World}{h h':Heap}{a:Addr}{ss:Aaa}
def CS.keep(x:CS P w h a ss)(k:∀o,h.get? a=some o->h'.get? a=some o):CS P w h' a ss:=by obtain⟨o,es,ep,t,ks,a1,r⟩:=x;exact#[o,es,ep,t,ks,k o a1,r]
variable{vs:Aae}
def bT{ks:Aaa}{Ib:Aae}(p:Ib.Perm vs):acw vs ks->∃Wy,acw Ib Wy/\Wy.Perm ks:=by
 induction p generalizing ks with
 |nil=>exact λh=>#[ks,h,.refl _]
 |cons x p ih=>
  intro h;cases h with
  |cons s t r=>obtain⟨k1,h1,p1⟩:=ih r;exact#[_,.cons s t h1,p1.cons _]
 |swap x y l=>
  intro h;cases h with
  |cons s t r=>cases r with|cons s' t' r'=>exact#[_,.cons s' t' (.cons s t r'),.swap ..]
 |trans p1 p2 Rn Rm=>intro h;obtain⟨k2,h2,q2⟩:=Rm h;obtain⟨k1,h1,q1⟩:=Rn h2;exact#[k1,h1,q1.trans q2]
def er{k:Str}:∀{es:List (Int×Value)} {ks:Aaa},acw (es.map (·.2)) ks->(k∈ks↔∃e∈es,(strKind P w).is k e.2=true)
 |[],ks,h=>by cases h;simp
 |e::es,ks,h=>by
  obtain⟨hh,v⟩:=e;cases h with
  |cons s t r=>
   rw[abf,er r];constructor
   .rintro(rfl|⟨e,he,q⟩)
    .exact#[_,aan,aef _ _ _ _]
    .exact#[e,aam _ he,q]
   .rintro⟨e,he,q⟩;rcases List.mem_cons.mp he with rfl|he
    .obtain⟨t',e'⟩:=aen (v:=ad7 s t) q;cases e';exact .inl rfl
    .exact .inr #[e,he,q]
variable{prog:aaD}{A:Around}{E:Aab}{s:Shared}
variable{o:Obj}{es:Array (Int×Value)}{ep:Nat}
def CS.stored{ks:Aaa}(ho:h.get? a=some o)(hex:o.ExactSet)(hd:o.data=.set es ep t)
  {HI:Array (Int×Value)} {t':adV} (Od:ElemsOf (strKind prog w) HI.toList) (HY:acw (HI.toList.map (·.2)) ks) (p:ks.Perm ss) (hb:HI.size<scanBound) (hf:t'.fits HI.size=true)
  (Gw:w.params.followText "set-order" = false->t'.led=true) (CM:HI.size≠0->t'.plain=false) :
  (h.update a (Obj.putSet HI t')).get? a=some {o with data:=.set HI (ep+1) t'}/\CS prog w (h.update a (Obj.putSet HI t')) a ss:=by
 have hg:=abo (Obj.putSet HI t') ho (by rw[putSet_of HI t' hd];rfl);rw[putSet_of HI t' hd]at hg;exact#[hg,_,HI,ep+1,t',ks,hg,hex,rfl,Od,HY,p,hb,hf,Gw,CM]
variable{Q:Bool->Shared->Prop}
def VE{k:Str}{tk:Tok}(hS:CS prog w s.heap a ss)(Kw:ss.length+1<scanBound)
  (h:∀b h',abV a s.heap h'->CS prog w h' a (if k∈ss then ss else ss++[k])->Q b {s with heap:=h'}) :
  wpAny (model prog w) A (setAddHashed a (.str k tk) ((strKind prog w).hash k)) Q E s:=by
 obtain⟨o,es,ep,t,ks,ho,hex,hd,Od,HY,p,hb,hf,Gw,CM⟩:=hS;have HD:(strKind prog w).is k (.str k tk)=true:=aef _ _ _ _;have hlen:es.size=ss.length:=by have:=HY.length;rw[aac,aaK]at this;rw[this,p.length_eq]
 unfold setAddHashed setAddHashedIn;refine aaY (aaa (acG ho hd hf ?_));dsimp only;rw[byScan_of (knd:=strKind prog w) rfl hb Od];simp only[↓reduceIte];unfold setAddByScan;refine aaa (aaa (acs (aaa (wpAny_setScan_of HD ho hd hf Od ?_))));cases hr:List.findIdx? _ es.toList with
 |some j=>obtain⟨hj,YK,_⟩:=List.findIdx?_eq_some_iff_getElem.mp hr;have hm:k∈ss:=p.mem_iff.mp ((er HY).mpr #[_,abQ hj,YK]);have q:=h false s.heap (Heap.SameBut.refl a s.heap);rw[if_pos hm]at q;exact aae (aae (q #[o,es,ep,t,ks,ho,hex,hd,Od,HY,p,hb,hf,Gw,CM]))
 |none=>
  have hm:k∉ss:=λhk=>by obtain⟨e,he,q⟩:=(er (P:=prog) (w:=w) HY).mp (p.mem_iff.mpr hk);have:=List.findIdx?_eq_none_iff.mp hr e he;rw[q]at this;cases this
  rw[if_neg hm]at h;dsimp only;have a1:=layNew_perm t es ((strKind prog w).hash k) (.str k tk);have a2:=layNew_fits t es ((strKind prog w).hash k) (.str k tk);have a3:=rj t es ((strKind prog w).hash k) (.str k tk);generalize layNew t es ((strKind prog w).hash k) (.str k tk)=L at a1 a2 a3 ⊢;obtain⟨FX,t1,wd,gave⟩:=L;dsimp only at a1 a2 a3 ⊢;rw[aeR]at a1;have RG:ElemsOf (strKind prog w) FX.toList:=(Od.push HD rfl).perm a1;obtain⟨k1,WY,p1⟩:=bT (ks:=ks++[k]) (a1.map (·.2)) (by
   rw[aaM];have:∀{vs:Aae} {ks:Aaa},acw vs ks->acw (vs++[ad7 k tk]) (ks++[k]):=λ{vs ks} z=>by
    induction z with
    |nil=>exact .cons _ _ .nil
    |cons s t r ih=>exact .cons s t ih
   exact this HY)
  have p2:k1.Perm (ss++[k]):=p1.trans (p.append_right [k]);have z1:FX.size=ss.length+1:=by rw[<- aaK,a1.length_eq,aav,aaK,hlen];rfl
  have b1:FX.size<scanBound:=by rw[z1];exact Kw
  have gw:∀(b:Bool) {sc:Shared} {Q':Unit->Shared->Prop},Q' () sc->wpAny (model prog w) A (match b with|true=>rule "set.scan.the-table-gave-way" |false=>pure ()) Q' E sc :=
   λb _ _ z=>by cases b<;>first|exact aae z|exact acs z
  have tail:∀t2:adV,t2.fits FX.size=true->t2.led=t.led->t2.plain=false->wpAny (model prog w) A (do
    storeSet a FX t2
    if (!wd && t2.tooFull)=true then do
      (match (aeg t2 FX (acv FX.size)).2.2 with|true=>rule "set.scan.the-table-gave-way" |false=>pure ())
      storeSet a (aeg t2 FX (acv FX.size)).1 (aeg t2 FX (acv FX.size)).2.1
      pure (some true)
     else pure (some true)) (λr s'=>∃h',r=some true/\s'={s with heap:=h'}/\abV a s.heap h'/\CS prog w h' a (ss++[k])) E s:=by
   intro t2 f2 l2 q2;refine aaa (wpAny_storeSet_of ho hd ?_ (aeG b1));obtain⟨Lo,Zl⟩:=CS.stored (prog:=prog) (w:=w) ho hex hd RG WY p2 b1 f2 (λe=>l2.trans (Gw e)) (λ_=>q2);have Wf:=aaN s.heap a (Obj.putSet FX t2);split
   .have c1:=relayAll_perm t2 FX (acv FX.size);have c2:=relayAll_fits t2 FX (acv FX.size);have c3:=nQ t2 FX (acv FX.size);have c4:=lb t2 FX (acv FX.size) q2;generalize aeg t2 FX (acv FX.size)=Rl at c1 c2 c3 c4 ⊢;obtain⟨Xo,t3,g2⟩:=Rl;dsimp only at c1 c2 c3 c4 ⊢;obtain⟨k2,Y0,p3⟩:=bT (c1.map (·.2)) WY;have z2:Xo.size=FX.size:=by rw[<- aaK,c1.length_eq,aaK]
    have b2:Xo.size<scanBound:=by rw[z2];exact b1
    refine aaa (gw _ ?_);refine aaa (wpAny_storeSet_of Lo rfl ?_ (aeG b2));obtain⟨_,Tj⟩:=CS.stored (prog:=prog) (w:=w) Lo hex rfl (RG.perm c1) Y0 (p3.trans p2) b2 c2 (λe=>c3.trans (l2.trans (Gw e))) (λ_=>c4);exact aae #[_,rfl,rfl,Wf.trans (aaN _ a _),Tj]
   .exact aae #[_,rfl,rfl,Wf,Zl]
  have done:∀r s',(∃h',r=some true/\s'={s with heap:=h'}/\abV a s.heap h'/\CS prog w h' a (ss++[k]))->wpAny (model prog w) A (match r with|some added=>pure added|none=>setAddHashedIn a (.str k tk) ((strKind prog w).hash k) 99999) Q E s':=by rintro _ _ ⟨h',rfl,rfl,sb,x⟩;exact aae (h true h' sb x)
  refine aaa (gw _ ?_);split
  .refine aaa ?_;refine aae ?_;exact aay (tail _ (SetTable.fits_plain_off a2) a3 rfl) done λ_ _ e=>e
  .rename_i hp;refine aaa (aae ?_);simp only[↓reduceIte];exact aay (tail _ a2 a3 (by simpa using hp)) done λ_ _ e=>e
noncomputable def Gg(ss:Aaa):Aaa:=ss.foldl (λacc k=>if k∈acc then acc else acc++[k]) []
def fW(ss:Aaa)(k:Str):Gg (ss++[k])=if k∈Gg ss then Gg ss else Gg ss++[k]:=by unfold Gg;rw[List.foldl_append];rfl
variable{j:Nat}
def wa(hj:j<ss.length):Gg (ss.take (j+1))=if ss[j]∈Gg (ss.take j)then Gg (ss.take j)else Gg (ss.take j)++[ss[j]]:=by rw[abI,aab hj,Option.toList_some,fW]
variable{α:Type}
def kK{p:List α->Prop}(h0:p [])(h1:∀xs k,p xs->p (xs++[k]))(l:List α):p l:=by
 rw[<- List.reverse_reverse l];induction l.reverse with
 |nil=>exact h0
 |cons a r ih=>rw[List.reverse_cons];exact h1 _ _ ih
def qr(x:Str)(ss:Aaa):x∈Gg ss↔x∈ss:=by
 induction ss using kK with
 |h0=>rfl
 |h1 xs k ih=>
  rw[fW];split
  .rename_i h;rw[aa7,ac0,<- ih];exact#[.inl,λq=>q.elim id λe=>e ▸ h]
  .rw[aa7,aa7,ih]
def mB(ss:Aaa):(Gg ss).Nodup:=by
 induction ss using kK with
 |h0=>exact .nil
 |h1 xs k ih=>
  rw[fW];split
  .exact ih
  .rename_i h;rw[abG];exact#[ih,List.nodup_cons.mpr #[abA,.nil],λa ha b hb e=>h #[1]]
def yB(ss:Aaa):(Gg ss).length<=ss.length:=by
 induction ss using kK with
 |h0=>exact aaj _
 |h1 xs k ih=>
  rw[fW,aav];split
  .exact aaX ih (ad0 ..)
  .rw[aav];exact Nat.add_le_add_right ih _
variable{R:Result->Shared->Prop}{d:Addr}{fp:Aaj}
theorem so{I:Addr}{wr:Aaj}{G:Array GenState->Array GenState->Prop}{P:Nat->Value->Prop}{St:Nat->Shared->Prop}(hb:ss.length+1<scanBound)
  (W:WalksS prog w A.in1 I fp wr G ss.length P St) (hd:d∉fp) (hP:∀i v (hi:i<ss.length),P i v->∃t,v=.str ss[i] t) :
  ∀(m j:Nat) (z:Shared),ss.length - j=m->j<=ss.length->St j z->CS prog w z.heap d (Gg (ss.take j)) ->
   (∀z',Moved (d::wr) G z z'->CS prog w z'.heap d (Gg (ss.take ss.length))->R (.ok (.ret .none)) z') ->
   acS (model prog w) A (.builtin "set.update.loop" #[[.ref d,.ref I],[]]) R z:=by
 have dw:d∉wr:=λh=>hd (W.sub _ h);have inc:∀b∈wr,b∈d::wr:=λb hb=>aam _ hb;intro m;induction m with
 |zero=>
  intro j z hm hj st hs hR;obtain rfl:j=ss.length:=by omega
  refine ach F.entry_set_update_loop ?_;exact aaa (W.done z _ _ st λz' mv=>aae (hR z' (mv.mono inc) (hs.keep λo g=>mv.heap d _ dw g)))
 |succ m ih=>
  intro j z hm hj st hs hR;have hl:j<ss.length:=by omega
  refine ach F.entry_set_update_loop ?_;refine aaa (W.item j z _ _ hl st λv z' hv Gn mv=>?_);obtain⟨t,rfl⟩:=hP j v hl hv;refine aaa (aaY ?_);unfold setAdd;refine aaY (aaa ((strKind prog w).pyHash (k:=ss[j]) (aef _ _ _ _) ?_));have lz:(Gg (ss.take j)).length+1<scanBound:=by
   have q1:=yB (ss.take j);have q2:(ss.take j).length<=ss.length:=by rw[abj];omega
   omega
  refine VE (hs.keep λo g=>mv.heap d _ dw g) lz λb h' sb Jf=>?_;rw[<- wa hl]at Jf;refine aae #[acK F.plain_set_update_loop _,ih (j+1) _ #[] hl (W.frame _ z' _ _ Gn (ads _) λb hb o e=>?_) Jf λXA Yl WI=>?_]
  .rw[sb.2 b λq:b=d=>hd (q ▸ hb)];exact e
  .refine hR XA (Moved.trans W.gtrans ((mv.mono inc).then_heap (ads _) λb o hb e=>?_) Yl) WI;rw[sb.2 b λq:b=d=>hb (q ▸ aan)];exact e
def oZ(a:Value){Q:Aab}(h:Q (.ref s.heap.objs.size) {s with heap:=s.heap.push {cls:=.type "set",dict:=none,data:=.set #v[] 0 (.fresh 0 0 (!w.params.followText "set-order"))}}):
  acS (model prog w) A (.call (.builtin "set.__new__") #[[.type "set",a],[]]) (wants Q E) s:=by
 refine afk (aaa (ae8 (F.newCall_set_1 a) (aae #[acK F.plain_set_new _,ach F.entry_set_new ?_])));have q0:=sub_set_self
 wp_walk
 refine acr (aae ?_);exact aaa (wpAny_alloc (aae (aae h)))
variable{l:Addr}
theorem lK{items:Aam}{Q:Aab}(hh:A.handled=none)(hl:s.heap.IsList l items)(hi:acw items.toList ss)(hb:ss.length+1<scanBound)
  (h:∀(h':Heap) (tk:Nat),CS prog w h' s.heap.objs.size (Gg ss)->(∀b o,b<s.heap.objs.size->s.heap.get? b=some o->h'.get? b=some o)->s.heap.objs.size<h'.objs.size->Q (.ref s.heap.objs.size) {s with heap:=h',toks:=tk}) :
  wpAny (model prog w) A (call (.type "set") [.ref l]) Q E s:=by
 obtain⟨c,tl,YS⟩:=F.called_set.mro;have WQ:=F.called_set.made;have LS:=F.called_set.sub;have hsz:items.size=ss.length:=by rw[<- aaK];exact hi.length
 refine wpAny_call (afk (?_:wpAny _ _ (callAny (.type "set") _) _ _ _));refine aae #[Code.quiet_builtin _ (by decide +kernel),ach F.entry_type_call ?_];rw[Around.under_plain (weight_type_call_type "set" [.ref l] []) rfl];have h1:=F.called_set.notType;have h2:=F.called_set.canCreate;have hct:=F.typeCall_set_1 (.ref l)
 repeat (any_goals (first|assumption|wp_step))
 generalize Gw:(!w.params.followText "set-order")=led;refine adB (oZ (.ref l) (E:=E) (Q:=λobj z=>obj=.ref s.heap.objs.size/\z={s with heap:=s.heap.push {cls:=.type "set",dict:=none,data:=.set #v[] 0 (.fresh 0 0 led)}}) (by rw[Gw];exact#[rfl,rfl])) λr z hr=>?_;cases r with
 |error e=>exact hr
 |ok fl=>
 cases fl with
 |ret obj=>
  obtain⟨rfl,rfl⟩:=hr;have g0:(s.heap.push {cls:=.type "set",dict:=none,data:=.set #v[] 0 (.fresh 0 0 led)}).get? s.heap.objs.size=some {cls:=.type "set",dict:=none,data:=.set #v[] 0 (.fresh 0 0 led)}:=aag _ rfl;have hT:Shared.TypeIs {s with heap:=s.heap.push {cls:=.type "set",dict:=none,data:=.set #v[] 0 (.fresh 0 0 led)}} (.ref s.heap.objs.size) "set" := #[_,g0,rfl]
  have RD:=F.called_set.init.lookup;have hbi:=F.called_set.init.bind (.ref s.heap.objs.size)
  repeat (any_goals (first|assumption|wp_step))
  refine adB (codeAny_call_builtin (R:=wants (λr z=>r=.none/\∃h' tk,z={s with heap:=h',toks:=tk}/\CS prog w h' s.heap.objs.size (Gg ss)/\(∀b o,b<s.heap.objs.size->s.heap.get? b=some o->h'.get? b=some o)/\s.heap.objs.size<h'.objs.size) E)
   F.called_set.init.plain F.entry_set_init (check_set_init_1 hT ?_)) λr z hr=>?_
  .have tt:(s.heap.push {cls:=.type "set",dict:=none,data:=.set #v[] 0 (.fresh 0 0 led)}).IsList l items:=by obtain⟨o,e,r⟩:=hl;exact#[o,aad _ e,r]
   obtain⟨⟨Yg,Wp,Wq,Ud⟩,ho,hc,n0,hd⟩:=id tt;simp only at hc hd;subst hc hd;have a1:=F.sub_list_set;have a2:=F.sub_list_frozenset;have a3:(aci "list" == aci "dict")=false:=by decide
   unfold adx.«set.__init__» noKeywords Builtin.Frozenset.updateFrom;generalize Zp:pyIter=PI
   wp_walk
   subst Zp;refine acH (s:={s with heap:=s.heap.push {cls:=.type "set",dict:=none,data:=.set #v[] 0 (.fresh 0 0 led)}}) tt ?_;refine aaa (wpAny_runValue ?_);have Cn:l<s.heap.objs.size:=by obtain⟨o,e,_⟩:=hl;exact aah e
   have Tb:l≠(s.heap.push {cls:=.type "set",dict:=none,data:=.set #v[] 0 (.fresh 0 0 led)}).objs.size:=by rw[abn];exact aas (abk Cn)
   have UX:s.heap.objs.size∉[(s.heap.push {cls:=.type "set",dict:=none,data:=.set #v[] 0 (.fresh 0 0 led)}).objs.size,l]:=by
    rw[abn];intro q;rcases List.mem_cons.mp q with e|q
    .exact absurd e (aas (abP _))
    .exact absurd (List.mem_singleton.mp q) (abL Cn)
   have W:=(Walks.list (prog:=prog) (w:=w) (A:=A.in1.in1.in1) (by simp[hh]) (s.heap.push {cls:=.type "set",dict:=none,data:=.set #v[] 0 (.fresh 0 0 led)}).objs.size l Tb items).toS;rw[hsz]at W;refine so hb W UX (λi v FQ hv=>?_) (ss.length - 0) 0 _ #[] (aba _) #[#[_,aag _ rfl,rfl,rfl],#[_,aad _ ho,rfl,n0,rfl]] ?_ ?_
   .obtain⟨t,e⟩:=hi.get i _ (aab FQ);rw[abW]at e;exact#[t,aar (hv.symm.trans e)]
   .exact#[_,#v[],0,_,[],aad _ g0,#[rfl,rfl,rfl],rfl,λe he=>by simp at he,.nil,.nil,#[2],rfl,λe=>by rw[<- Gw,e];rfl,λe=>(e rfl).elim]
   .intro z mv q;rw[abi]at q;obtain⟨h',g',d',Qh,Gs⟩:=z;obtain rfl:g'=s.gens:=mv.gens;obtain rfl:d'=s.drawn:=mv.drawn;obtain rfl:Gs=s.os:=mv.os;refine aae (aae #[rfl,h',Qh,rfl,q,λb o hb e=>?_,?_])
    .refine mv.heap b o ?_ (aad _ (aad _ e));rw[abn];intro q;rcases List.mem_cons.mp q with e|q
     .exact absurd e (aas hb)
     .exact absurd (List.mem_singleton.mp q) (aas (abk hb))
    .obtain⟨o,_,_,_,_,e,_⟩:=q;exact aah e
  .cases r with
   |error e=>exact hr
   |ok fl=>
   cases fl with
   |ret r=>
    obtain⟨rfl,h',tk,rfl,q1,q2,q3⟩:=hr
    repeat (any_goals (first|assumption|wp_step))
    exact h _ _ q1 q2 q3
   |_=>exact hr.elim
 |_=>exact hr.elim
def Ck:Slot "set_iterator" "__next__" "set_iterator.__next__" :=
 .of (rfl) (rfl) (rfl) (rfl)
  (by first|exact .inl (rfl)|exact .inr _) (rfl)
def lH:entryFor table "set_iterator.__next__" = some adx.«set_iterator.__next__»:=entryFor_of_tree (by kernel_rfl)
def mW(a:Value):argsOk "set_iterator.__next__" #[[a],[]]:=by rfl
def lJ:entryFor table "set.__iter__" = some adx.«frozenset.__iter__»:=entryFor_alias (id' := "frozenset.__iter__") (by kernel_rfl) rfl (by decide +kernel) (by kernel_rfl)
def mK{src:Source}{Q:Nat->Shared->Prop}(hn:n≠0)(h:∀i,i<n->∀d,Q i {s with drawn:=d}):wpAny (model prog w) A (choose src n) Q E s :=
 λz p hz=>#[hn,h _ (Nat.mod_lt _ (Nat.pos_of_ne_zero hn)) _]
def jH:∀(l:List α) (i:Nat) (h:i<l.length),(l[i]::l.eraseIdx i).Perm l
 |x::r,0,_=>.refl _
 |x::r,i+1,h=>(List.Perm.swap ..).trans ((jH r i _).cons x)
def dL:∀(n:Nat) (xs:List α) (s:Shared) (Q:List α->Shared->Prop),xs.length=n->(∀ys d,ys.Perm xs->Q ys {s with drawn:=d})->wpAny (model prog w) A (drawOrder n xs) Q E s
 |0,xs,s,Q,hn,h=>by have  := List.length_eq_zero_iff.mp hn;subst this;exact aae (h [] s.drawn .nil)
 |n+1,[],s,Q,hn,h=>by simp_all
 |n+1,x::r,s,Q,hn,h=>by
  have hne:(x::r).length≠0:=by simp
  refine aaa (mK hne λi hi d=>?_);rw[aab hi];have hl:((x::r).eraseIdx i).length=n:=by rw[ady hi,hn];rfl
  refine aaa (dL n _ _ _ hl λys d' p=>aae (h _ d' ?_));exact(p.cons _).trans (jH _ _ hi)
theorem lY(f:Nat->Nat):∀(n k:Nat) (l:List α) (out:Array α),l.length=n->(pickOrder.go f n k l out).toList.Perm (out.toList++l)
 |0,k,l,out,hn=>by have  := List.length_eq_zero_iff.mp hn;subst this;unfold pickOrder.go;rw[aa9]
 |n+1,k,l,out,hn=>by unfold pickOrder.go;have hi:f k % l.length<l.length:=Nat.mod_lt _ #[];rw[aab hi];refine(lY f n _ _ _ (by rw[ady hi,hn];rfl)).trans ?_;rw[aeR,ac9];exact(jH _ _ hi).append_left _
def lj(f:Nat->Nat)(xs:Array α):(aet f xs).toList.Perm xs.toList:=by have:=lY f xs.size 0 xs.toList #v[] (aaK ..);simpa[aet]using this
def CH(h:Heap)(it:Addr)(f:Value)(i:Nat)(a:Addr)(n ep:Nat):Prop :=
 ∃o,h.get? it=some o/\o.cls=.type "set_iterator" /\ o.data=.fields #v[f,.int i 0,.ref a,.int n 0,.int ep 0]
variable{it:Addr}{f:Value}{i:Nat}
def CH.typeIs(x:CH s.heap it f i a n ep):s.TypeIs (.ref it) "set_iterator" := let #[o,ho,hc,_]:=x;#[o,ho,hc]
def C4(h:Heap)(a:Addr)(es:Array (Int×Value))(ep:Nat)(t:adV):Prop:=∃o,h.get? a=some o/\o.data=.set es ep t/\t.fits es.size=true
def fQ{Q:Aao}(x:CH s.heap it f i a n ep)
  (h:wpAny (model prog w) A.in1 (adx.«set_iterator.__next__» #[[.ref it],[]]) (λfin s'=>∃v,fin=.done (.ret v)/\Q (some v) s') (λe s'=>s'.TypeIs e "StopIteration" /\ Q none s') s) :
  wpAny (model prog w) A (pyNext (.ref it)) Q E s:=by
 refine aaa (aes (abp x.typeIs Ck (aa2 Ck x.typeIs lH (aay h ?_ ?_) (mW _))))
 .rintro fin s' ⟨v,rfl,q⟩;exact#[v,rfl,aae q]
 .rintro e s' ⟨hT,q⟩;exact aaa (aeZ hT isSubtype_stop (aae q))
variable{slot:Nat}{v:Value}
def lV{nx:Nat}{Q:Aao}(x:CH s.heap it (.int slot 0) i a n ep)(hS:C4 s.heap a es ep t)(hn:es.size=n)
  (hx:∀(Q:Option (Value×Nat)->Shared->Prop) (E:Aab),Q (some (v,nx)) s->wpAny (model prog w) A.in1 (setNext a slot i ep) Q E s)
  (k:∀h',CH h' it (.int nx 0) (i+1) a n ep->abV it s.heap h'->Q (some v) {s with heap:=h'}):wpAny (model prog w) A (pyNext (.ref it)) Q E s:=by
 refine fQ x ?_;obtain⟨o,ho,hc,hd⟩:=x;obtain⟨os,Jg,JF,hf⟩:=hS;refine aaa (aae ?_);refine aaa (aei ho hd ?_);refine aaa (acR Jg JF hf ?_);rw[if_neg #[1]];refine aaa (hx _ _ ?_);refine aaa (abY ho hd #[0] ?_);have h1:=abo (Obj.mapFields (·.setIfInBounds 0 (rawInt nx))) ho (ab9 (aa6 hd _));refine aaa (abY h1 (aa6 hd _) #[0] (aae #[v,rfl,k _ ?_ ?_]))
 .refine#[_,abo _ h1 (ab9 (aa6 (aa6 hd _) _)),(ac7 ..).trans ((ac7 ..).trans hc),?_];rw[aa6 (aa6 hd _)];simp[rawInt]
 .exact(aaN ..).trans (aaN ..)
def jU{h₁:Heap}{R:PySem.Fin->Shared->Prop}{Q:Aao}(hh:A.handled=none)(k:∀h',(∀b o,h₁.get? b=some o->h'.get? b=some o)->Q none {s with heap:=h'}):
  wpAny (model prog w) A.in1 (newExc (.type "StopIteration") [] >>= λe=>raiseNew e) R (λe s'=>s'.TypeIs e "StopIteration" /\ Q none s') {s with heap:=h₁}:=by
 refine aaa (aaa (m:=firstArgMember _ _) (ae8 (rfl) ?_));refine aa1 ?_ (by size_fits);refine aaa (wpAny_handled ?_);rw[hh];exact aaa (aae (wpAny_throw #[#[_,aag _ rfl,rfl],k _ λb o e=>aad _ (aad _ e)]))
def jl{Q:Aao}(hh:A.handled=none)(x:CH s.heap it (.int slot 0) i a n ep)(hS:C4 s.heap a es ep t)(hn:es.size=n)
  (hx:∀(Q:Option (Value×Nat)->Shared->Prop) (E:Aab),Q none s->wpAny (model prog w) A.in1 (setNext a slot i ep) Q E s)
  (k:∀h',adZ it s.heap h'->Q none {s with heap:=h'}):wpAny (model prog w) A (pyNext (.ref it)) Q E s:=by
 refine fQ x ?_;obtain⟨o,ho,hc,hd⟩:=x;obtain⟨os,Jg,JF,hf⟩:=hS;refine aaa (aae ?_);refine aaa (aei ho hd ?_);refine aaa (acR Jg JF hf ?_);rw[if_neg #[1]];refine aaa (hx _ _ ?_);refine aaa (abY ho hd #[0] ?_);exact jU hh λh' e=>k h' λb o hb g=>e b o ((aaN ..).extBut b o hb g)
def JM(h:Heap)(T:Addr)(pl:Aan):Prop:=∃o m,h.get? T=some o/\o.data=.seq (pl.map λ(i:Nat)=>rawInt i).toArray m
variable{T:Addr}{pl:Aan}
def sn{p:Nat}{hv:Int}{Q:Aao}(x:CH s.heap it (.ref T) i a n ep)(hS:C4 s.heap a es ep t)(hn:es.size=n)(hT:JM s.heap T pl)
  (hp:pl[i]?=some p) (he:es[p]?=some (hv,v))
  (k:∀h',CH h' it (.ref T) (i+1) a n ep->abV it s.heap h'->Q (some v) {s with heap:=h'}):wpAny (model prog w) A (pyNext (.ref it)) Q E s:=by
 refine fQ x ?_;obtain⟨o,ho,hc,hd⟩:=x;obtain⟨os,Jg,JF,hf⟩:=hS;obtain⟨oT,m,UT,Vb⟩:=hT;refine aaa (aae ?_);refine aaa (aei ho hd ?_);refine aaa (acR Jg JF hf ?_);rw[if_neg #[1]];refine aaa (abm UT Vb ?_);have e1:((pl.map λ(i:Nat)=>rawInt i).toArray)[(i:Int).toNat]?=some (.int p 0):=by rw[acL,List.getElem?_toArray,aal,hp];rfl
 dsimp only;rw[e1];refine aaa (aaa (acG Jg JF hf ?_));simp only[acL,bne_self_eq_false,he];refine aae (aaa (abY ho hd #[0] (aae #[v,rfl,k _ #[_,abo _ ho (ab9 (aa6 hd _)),(ac7 ..).trans hc,?_] (aaN ..)])));rw[aa6 hd];simp[rawInt]
def uL{Q:Aao}(hh:A.handled=none)(x:CH s.heap it (.ref T) i a n ep)(hS:C4 s.heap a es ep t)(hn:es.size=n)(hT:JM s.heap T pl)
  (hp:pl[i]?=none)
  (k:∀h',adZ it s.heap h'->Q none {s with heap:=h'}):wpAny (model prog w) A (pyNext (.ref it)) Q E s:=by
 refine fQ x ?_;obtain⟨o,ho,hc,hd⟩:=x;obtain⟨os,Jg,JF,hf⟩:=hS;obtain⟨oT,m,UT,Vb⟩:=hT;refine aaa (aae ?_);refine aaa (aei ho hd ?_);refine aaa (acR Jg JF hf ?_);rw[if_neg #[1]];refine aaa (abm UT Vb ?_);have e1:((pl.map λ(i:Nat)=>rawInt i).toArray)[(i:Int).toNat]?=none:=by simp_all
 dsimp only;rw[e1];refine aaa (abY ho hd #[0] ?_);have h1:=abo (Obj.mapFields (·.setIfInBounds 0 (rawInt 0))) ho (ab9 (aa6 hd _));refine aaa (abY h1 (aa6 hd _) #[0] ?_);exact jU hh λh' e=>k h' λb o hb g=>e b o (((aaN ..).trans (aaN ..)).extBut b o hb g)
def lZ{Q:Option (Value×Nat)->Shared->Prop}(ht:w.params.followText "set-order" = true)(hS:C4 s.heap a es ep t)
  (h:Q (((aet (w.params.setOrder a ep) es)[i]?).map λe=>(e.2,slot)) s):wpAny (model prog w) A (setNext a slot i ep) Q E s:=by
 obtain⟨o,ho,hd,hf⟩:=hS;refine aaa (acG ho hd hf ?_);refine aaa (aaa (acr (aae ?_)));rw[if_pos (show (model prog w).w.params.followText _=true from ht),if_neg #[0]];refine aaa (aaa (acG ho hd hf ?_));refine aaa (aaa (acr (aae ?_)));rw[if_pos (show (model prog w).w.params.followText _=true from ht)];exact aaa (acr (aae (aae h)))
theorem jz{Q:Option (Value×Nat)->Shared->Prop}(ht:w.params.followText "set-order" = false)(hS:C4 s.heap a es ep t)(hl:t.led=true)(hz:es.size<=1)
  (h:Q (match es[adb t.place slot]?,t.place[adb t.place slot]? with|some (_,x),some j=>some (x,j+1)|_,_=>none) s):wpAny (model prog w) A (setNext a slot i ep) Q E s:=by
 obtain⟨o,ho,hd,hf⟩:=hS;refine aaa (acG ho hd hf ?_);refine aaa (aaa (acr (aae ?_)));rw[if_neg (by show ¬ (w.params.followText _=true);rw[ht];exact aaF)];refine wpAny_ite_split (λ(W9:(!t.plain && decide _)=true)=>absurd W9 (by rw[decide_eq_false #[],afH];exact aaF)) (λ_=>?_);refine aaa (?_:wpAny _ _ (if (!t.led && !es.isEmpty)=true then unsupported _ else pure ()) _ _ _);rw[if_neg #[1]];refine aae (aae ?_);exact h
def gv:Slot "set_iterator" "__iter__" "set_iterator.__iter__" :=
 .of (rfl) (rfl) (rfl) (rfl)
  (by first|exact .inl (rfl)|exact .inr _) (rfl)
def lI:entryFor table "set_iterator.__iter__" = some adx.«dict_keyiterator.__iter__»:=entryFor_alias (id' := "dict_keyiterator.__iter__") (by kernel_rfl) rfl (by decide +kernel) (by kernel_rfl)
def mX(a:Value):argsOk "set_iterator.__iter__" #[[a],[]]:=by rfl
def jk{Q:Aab}(x:CH s.heap it f i a n ep)(h:Q (.ref it) s):wpAny (model prog w) A (pyIter (.ref it)) Q E s:=by refine adL x.typeIs gv (aa2 gv x.typeIs lI ?_ (mX _));exact aae #[_,rfl,_,_,x.typeIs,Ck.lookup,h]
def CH.keep(x:CH h it f i a n ep)(k:∀o,h.get? it=some o->h'.get? it=some o):CH h' it f i a n ep:=let #[o,e,r]:=x;#[o,k o e,r]
def C4.keep(x:C4 h a es ep t)(k:∀o,h.get? a=some o->h'.get? a=some o):C4 h' a es ep t:=let #[o,e,r]:=x;#[o,k o e,r]
def JM.keep(x:JM h T pl)(k:∀o,h.get? T=some o->h'.get? T=some o):JM h' T pl:=let #[o,m,e,r]:=x;#[o,m,k o e,r]
def Qb(hh:A.handled=none)(ht:w.params.followText "set-order" = true)(hne:a≠it):
  Walks prog w A it [it,a,it] [it] ((aet (w.params.setOrder a ep) es).toList.map (·.2)).length (λi v=>((aet (w.params.setOrder a ep) es).toList.map (·.2))[i]?=some v)
   (λi h=>CH h it (.int ((0:Nat):Int) 0) i a es.size ep/\C4 h a es ep t) where
 sub:=λb hb=>by simp_all
 frame:=λ_ _ _ st k=>#[st.1.keep λo e=>k it #[0] o e,st.2.keep λo e=>k a #[0] o e]
 item:=λi s Q E hi st k=>by
  have FQ  :=by rw[aac]at hi;exact hi
  refine lV (v:=((aet _ es).toList[i]).2) st.1 st.2 rfl (λQ E q=>lZ ht st.2 ?_) λh' x sb=>k _ h' s.toks ?_ #[x,st.2.keep λo e=>sb.extBut a o hne e] λb o hb e=>sb.extBut b o (λz=>hb #[1]) e
  .rw[<- abW,aab FQ];exact q
  .rw[aal,aab FQ];rfl
 done:=λs Q E st k=>by refine jl hh st.1 st.2 rfl (λQ E q=>lZ ht st.2 ?_) λh' x=>k h' s.toks λb o hb e=>x b o (λz=>hb #[1]) e;rw[aac,<- abW,aao (aaj _)];exact q
 self:=λi s Q E st h=>jk st.1 h
theorem yO(xs:Array Nat)(hz:xs.size<=1):adb xs 0=0:=by
 unfold adb;rcases aaQ xs.size 1 with h|h
 .have:xs.size=0:=by omega
  rw[this];rfl
 .have:xs.size=1:=by omega
  rw[this];rfl
def yN(xs:Array Nat)(p:Nat)(hz:xs.size=1)(hp:xs[0]?=some p):adb xs (p+1)=1:=by
 unfold adb;rw[hz];unfold SetTable.below.go;have e:xs.getD 0 (p+1)=p:=by simp_all
 simp only[Nat.zero_lt_one];rw[e,if_pos (abP p)];rfl
theorem walk1(hh:A.handled=none)(ht:w.params.followText "set-order" = false)(hne:a≠it)(hl:t.led=true)(hz:es.size<=1)(hf:t.fits es.size=true):
  Walks prog w A it [it,a,it] [it] (es.toList.map (·.2)).length (λi v=>(es.toList.map (·.2))[i]?=some v)
   (λi h=>CH h it (.int ((if i=0 then 0 else t.place.getD 0 0+1:Nat):Int) 0) i a es.size ep/\C4 h a es ep t):=by
 have hps:t.place.size=es.size:=by unfold SetTable.fits at hf;rw[aaS]at hf;exact eq_of_beq hf.1
 refine#[λb hb=>#[1],λ_ _ _ st k=>#[st.1.keep λo e=>k it #[0] o e,st.2.keep λo e=>k a #[0] o e],λi s Q E hi st k=>?_,λs Q E st k=>?_,λi s Q E st h=>jk st.1 h]
 .have h1:es.toList.length=1:=by rw[aac]at hi;rw[aaK]at hi ⊢;omega
  have UK:es.size=1:=by omega
  have Y4:i=0:=by simp_all
  subst Y4;have Cn:0<es.toList.length:=by omega
  obtain⟨p,hp⟩:∃p,t.place[0]?=some p:=#[_,abT #[]]
  have hg:t.place.getD 0 0=p:=by simp_all
  rw[if_pos rfl]at st;refine lV (nx:=p+1) (v:=(es.toList[0]).2) st.1 st.2 rfl (λQ E q=>jz ht st.2 hl hz ?_) λh' x sb=>k _ h' s.toks ?_ #[?_,st.2.keep λo e=>sb.extBut a o hne e] λb o hb e=>sb.extBut b o (λz=>hb (by simp[z])) e
  .rw[yO _ #[],hp,<- abW,aab Cn];exact q
  .rw[aal,aab Cn];rfl
  .rw[hg];exact x
 .rcases aaQ es.size 1 with h|h
  .have h0:es.size=0:=by omega
   rw[aac,aaK,h0,if_pos rfl]at st;refine jl hh st.1 st.2 h0 (λQ E q=>jz ht st.2 hl hz ?_) λh' x=>k h' s.toks λb o hb e=>x b o (λz=>hb (by simp[z])) e;rw[Array.getElem?_eq_none #[]];exact q
  .have UK:es.size=1:=by omega
   rw[aac,aaK,UK,if_neg #[2]]at st;obtain⟨p,hp⟩:∃p,t.place[0]?=some p:=#[_,abT #[]]
   have hg:t.place.getD 0 0=p:=by simp_all
   rw[hg]at st;refine jl hh st.1 st.2 UK (λQ E q=>jz ht st.2 hl hz ?_) λh' x=>k h' s.toks λb o hb e=>x b o (λz=>hb (by simp[z])) e;rw[yN _ p #[] hp,Array.getElem?_eq_none #[]];exact q
theorem Qc(hh:A.handled=none)(hne:a≠it)(hT:T≠it)(hv:vs.length=pl.length)(hp:∀i p:Nat,pl[i]?=some p->∃h v,es[p]?=some (h,v)/\vs[i]?=some v):
  Walks prog w A it [it,a,T] [it] vs.length (λi v=>vs[i]?=some v) (λi h=>CH h it (.ref T) i a es.size ep/\C4 h a es ep t/\JM h T pl) where
 sub:=λb hb=>by simp_all
 frame:=λ_ _ _ st k=>#[st.1.keep λo e=>k it #[0] o e,st.2.1.keep λo e=>k a #[0] o e,st.2.2.keep λo e=>k T #[0] o e]
 item:=λi s Q E hi st k=>by obtain⟨h,v,e1,e2⟩:=hp i _ (aab _);exact sn st.1 st.2.1 rfl st.2.2 (aab #[]) e1 λh' x sb=>k _ h' s.toks e2 #[x,st.2.1.keep λo e=>sb.extBut a o hne e,st.2.2.keep λo e=>sb.extBut T o hT e] λb o hb e=>sb.extBut b o (λz=>hb #[1]) e
 done:=λs Q E st k=>uL hh st.1 st.2.1 rfl st.2.2 (aao #[]) λh' x=>k h' s.toks λb o hb e=>x b o (λz=>hb #[1]) e
 self:=λi s Q E st h=>jk st.1 h
def sv(d:α):∀l:List α,(abd l.length).map (λp=>l.getD p d)=l:=λl=>by
 refine ab2 λi=>?_;rw[aal];rcases aaQ i l.length with h|h
 .rw[acq h,aea,aaq,aab h];rfl
 .rw[aao #[1],aao h];rfl
def CS.typeIs(x:CS prog w s.heap a ss):s.TypeIs (.ref a) "set" := let #[o,_,_,_,_,ho,hc,_]:=x;#[o,ho,hc.1]
theorem Rf{Q:Aab}(hh:A.handled=none)(hS:CS prog w s.heap a ss)
  (h:∀(h':Heap) (d:Drawn) (it T:Addr) (vs:Aae) (ks:Aaa) (St:Nat->Heap->Prop),s.heap.objs.size<=it->s.heap.objs.size<=T->acw vs ks->ks.Perm ss->(∀b o,s.heap.get? b=some o->h'.get? b=some o) ->
   Walks prog w A it [it,a,T] [it] vs.length (λi v=>vs[i]?=some v) St->St 0 h'->Q (.ref it) {s with heap:=h',drawn:=d}):wpAny (model prog w) A (pyIter (.ref a)) Q E s:=by
 have hT:=hS.typeIs;obtain⟨o,es,ep,t,ks,ho,hex,hd,Od,HY,p,hb,hf,Gw,CM⟩:=hS;have Cn:=aah ho;refine adL hT PySem.F.slot_set_iter (aa2 PySem.F.slot_set_iter hT lJ ?_ (PySem.F.args_set_iter_1 _));unfold adx.«frozenset.__iter__» Builtin.Frozenset.slot0 slotArgs;simp only[List.isEmpty_nil,aeD,abO,↓reduceIte,bind_assoc,ab4,bne_self_eq_false];unfold Builtin.Frozenset.addrOf Builtin.Frozenset.sizeOf;refine aaa (aae ?_);try dsimp only
 refine aaa (aae ?_);refine aaa (aaa (acR ho hd hf (aae ?_)));have hS:C4 s.heap a es ep t:=#[o,ho,hd,hf]
 have Za:∀(Q:Bool->Shared->Prop) (E:Aab),Q (!w.params.followText "set-order" && (!t.plain && decide (es.size > 1))) s->wpAny (model prog w) A.in1 (setDrawn a) Q E s:=λQ E q=>by unfold setDrawn;refine aaa (acG ho hd hf ?_);dsimp only;unfold setsByText;exact aaa (aaa (acr (aae (aae q))))
 refine aaa (Za _ _ ?_);have plain:∀(vs:Aae) (ks:Aaa) (St:Nat->Heap->Prop),acw vs ks->ks.Perm ss->Walks prog w A s.heap.objs.size [s.heap.objs.size,a,s.heap.objs.size] [s.heap.objs.size] vs.length (λi v=>vs[i]?=some v) St ->
   (∀h':Heap,CH h' s.heap.objs.size (.int ((0:Nat):Int) 0) 0 a es.size ep->C4 h' a es ep t->St 0 h')->wpAny (model prog w) A.in1 (do
     let first <- pure (rawInt 0)
     let e <- setEpoch a;let it <- newFields "set_iterator" [first,rawInt 0,abe a,rawInt es.size,rawInt e]
     ret it) (λfin s'=>∃v,fin=.done (.ret v)/\∃T' r,s'.TypeIs v T'/\typeLookup (.type T') (aaE "__next__")=pure (some r)/\Q v s') E s:=by
  intro vs ks St h1 h2 W GN;refine aaa (aae ?_);refine aaa (wpAny_setEpoch_of ho hd hf ?_);refine aaa (aa1 (aae #[_,rfl, "set_iterator",_,#[_,aag _ rfl,rfl],Ck.lookup,?_]));exact h _ s.drawn _ _ vs ks St (aaj _) (aaj _) h1 h2 (λb o e=>aad _ e) W (GN _ #[_,aag _ rfl,rfl,rfl] (hS.keep λo e=>aad _ e))
 cases ht:w.params.followText "set-order" with
 |true=>rw[aeD,Bool.false_and,if_neg aaF];obtain⟨k1,a1,a2⟩:=bT ((lj (w.params.setOrder a ep) es).map (·.2)) HY;exact plain _ k1 _ a1 (a2.trans p) (Qb hh ht (aas Cn)) λh' x y=>#[x,y]
 |false=>
  rcases aaQ 1 es.size with hz|hz
  .rw[CM #[],decide_eq_true hz];refine(?_:wpAny _ _ (if true=true then _ else _) _ _ _);rw[if_pos rfl];refine aaa (dL _ _ _ _ acl λpl d pp=>?_);refine aaa ?_;unfold newTuple;have hlen:pl.length=es.size:=by rw[pp.length_eq,acl]
   refine aa1 ?_ (by show ((pl.map λ(i:Nat)=>rawInt i).toArray).size<=sizeLine;rw[aap,aac,hlen];exact aeG hb)
   refine aaa (wpAny_setEpoch_of (aad _ ho) hd hf ?_);refine aaa (aa1 (aae #[_,rfl, "set_iterator",_,#[_,aag _ rfl,rfl],Ck.lookup,?_]));have e0:(pl.map (λp=>(es.toList.getD p (0,.none)).2)).Perm (es.toList.map (·.2)):=by have q:=pp.map (λp=>(es.toList.getD p (0,.none)).2);rw[<- aaK]at q;have e:=congrArg (List.map (·.2)) (sv ((0:Int),abb) es.toList);rw[aaL]at e;exact q.trans (by rw[<- e];exact .refl _)
   obtain⟨k1,a1,a2⟩:=bT e0 HY;refine h _ d _ s.heap.objs.size _ k1 _ ?_ (aaj _) a1 (a2.trans p) (λb o e=>aad _ (aad _ e))
    (Qc (t:=t) (ep:=ep) (es:=es) (pl:=pl) hh ?_ ?_ (aac ..) λi q hq=>?_) #[#[_,aag _ rfl,rfl,rfl],hS.keep λo e=>aad _ (aad _ e),#[_,_,aad _ (aag _ rfl),rfl]]
   .rw[abn];exact ads _
   .rw[abn];exact aas (abk Cn)
   .rw[abn];exact aas (abP _)
   .have hm:q∈abd es.size:=pp.mem_iff.mp (aaB hq);have Iz:q<es.toList.length:=by rw[aaK];exact List.mem_range.mp hm
    refine#[_,_,(by rw[<- abW];exact aab Iz),?_];rw[aal,hq,aea,aaq,aab Iz];rfl
  .rw[decide_eq_false #[],afH,afH,if_neg aaF];exact plain _ ks _ HY p (walk1 hh ht (aas Cn) (Gw ht) hz hf) λh' x y=>#[x,y]
open PySem PySem.Spec PyProof.Rows PySem.Calls PyProof.V
variable{prog:aaD}{w:World}{A:Around}{E:Aab}{s:Shared}
variable{r:Addr}{Q:Bool->Shared->Prop}
def vF(hT:s.TypeIs (.ref r) "set")(h:Q false s):wpAny (model prog w) A (Builtin.List.listLengthHint (.ref r)) Q E s:=by
 refine aaa (wpAny_specialOf hT PySem.F.slot_set_len.lookup ?_);generalize hn : "set.__len__" = nm
 wp_delta
 subst hn;refine aaa (aeZ hT (rfl) ?_);exact aaa (ad4 hT (aae h))
variable{R:Result->Shared->Prop}{ss:Aaa}
noncomputable def yb{S:Addr}(hh:A.handled=none)(hX:CS prog w s.heap r ss)(Xe:S≠r)(res:Value)(c0:Nat)(hS:s.heap.get? S=some {cls:=.type "list",data:=.seq #v[] c0})(hn:ss.length<=sizeLine)
  (hR:∀h' tk d acc c' ks,(∀b o,b≠S->s.heap.get? b=some o->h'.get? b=some o)->h'.get? S=some {cls:=.type "list",dict:=none,data:=.seq acc c',slots:=#v[]}->acw acc.toList ks->ks.Perm ss->R (.ok (.ret res)) {s with heap:=h',toks:=tk,drawn:=d}) :
  wpAny (model prog w) A.in1 (adw (.ref S) (.ref r) res)
   (λfin s'=>match fin with|.done f=>R (.ok f) s'|.again c'=>c'.quiet=true/\acS (model prog w) A c' R s') (λe s'=>R (.error e) s') s:=by
 have WU:=aah hS;unfold adw;refine aaa (ad4 (T := "set") hX.typeIs ?_);have h1:Builtin.List.listSameRef (.ref S) (.ref r)=false:=by simp[Builtin.List.listSameRef,Xe]
 have h2:(aci "set" == aci "list")=false:=by decide
 have h3:(aci "set" == aci "tuple")=false:=by decide
 simp only[h1,h2,h3,Bool.or_false,abO,if_false];refine aaa (Rf hh hX λhp d it T vs ks St l1 l2 a1 a2 kp W st=>?_);have hz:vs.length<=sizeLine:=by rw[a1.length,a2.length_eq];exact hn
 have Xf:S∉[it,r,T]:=by simp only[abf,abA,or_false,not_or];exact#[aas (aaz WU l1),Xe,aas (aaz WU l2)]
 have key:∀(h:Heap) (c1 tk:Nat),St 0 h->(∀b o,b≠S->s.heap.get? b=some o->h.get? b=some o)->h.get? S=some {cls:=.type "list",data:=.seq #v[] c1} ->
   acS (model prog w) A (.builtin "list.extend.loop" #[[.ref S,.ref it,res],[]]) R {s with heap:=h,toks:=tk,drawn:=d}:=by
  intro h c1 tk GN hk hS1;refine codeAny_extend_loopS W.toS hz S Xf res vs.length 0 _ #v[] c1 rfl (aba _) GN hS1 (ItemsOf.nil _) λs' acc c' hm Om Ol=>?_;rw[Moved.eq_with hm];have Y9:acc.toList=vs:=by
   refine ab2 λi=>?_;rcases aaQ i vs.length with q|q
   .have hi:i<acc.size:=by rw[Ol.1];exact q
    rw[abW,abT hi];exact(Ol.2 i _ (abT hi)).symm
   .rw[aao q,aao (by rw[aaK,Ol.1];exact q)]
  refine hR s'.heap s'.toks d acc c' ks (λb o hb e=>hm.heap b o (λq=>?_) (hk b o hb e)) Om (by rw[Y9];exact a1) a2;rcases List.mem_cons.mp q with z|q
  .exact hb z
  .exact absurd (aah e) (by rw[List.mem_singleton.mp q];exact Nat.not_lt.mpr l1)
 have hS1:=kp _ _ hS;have Zj:CS prog w hp r ss:=hX.keep λo e=>kp _ _ e;refine aaa (aaY (vF Zj.typeIs ?_));refine aaa (acs (aaa ?_));refine(?_:wpAny _ _ (afb S (·.push .none) >>= λ_=>afb S (·.pop)) _ _ _);refine aaa (adk hS1 rfl ?_);have hS2:=abo (abK (·.push abb)) hS1 rfl;refine adk (hz:=by seq_fits) hS2 rfl ?_;have hS3:=abo (abK (·.pop)) hS2 rfl;have Bp:∀b,b≠S->∀o,hp.get? b=some o->((hp.update S (abK (·.push abb))).update S (abK (·.pop))).get? b=some o:=λb hb o e=>(ac4 _ _ (abE hb)).trans ((ac4 _ _ (abE hb)).trans e)
 exact aae #[acK PySem.F.plain_extend_loop _,key _ _ _ (W.frame 0 _ _ st λb hb o e=>Bp b (λz=>Xf (z ▸ hb)) o e) (λb o hb e=>Bp b hb o (kp _ _ e)) hS3]
def wf{R:Aae->Shared->Prop}(hh:A.handled=none)(hX:CS prog w s.heap r ss)(hn:ss.length<=sizeLine)
  (h:∀(h':Heap) (tk:Nat) (d:Drawn) (vs:Aae) (ks:Aaa),(∀b o,s.heap.get? b=some o->h'.get? b=some o)->acw vs ks->ks.Perm ss->R vs {s with heap:=h',toks:=tk,drawn:=d}) :
  wpAny (model prog w) A (collect (.ref r)) R E s:=by
 have Cn:r<s.heap.objs.size:=by obtain⟨o,_,_,_,_,e,_⟩:=hX;exact aah e
 unfold collect;refine aaa (wpAny_runValue (ach entry_proto_collect' ?_));rw[adg PySem.F.plain_proto_collect _];refine(?_:wpAny _ A.in1 (newList [] >>= λl=>again (.builtin "list.__iadd__" #[[l,.ref r],[]])) _ _ s);refine aaa (aa1 (aae #[acK PySem.F.plain_list_iadd _,ach entry_list_iadd' ?_]));rw[adg PySem.F.plain_list_iadd _];have e1:(s.heap.push {cls:=.type "list",data:=.seq ([]:Aae).toArray}).get? s.heap.objs.size=some {cls:=.type "list",data:=.seq #v[]}:=aag _ rfl;refine(?_:wpAny _ A.in1 (adw (.ref s.heap.objs.size) (.ref r) (.ref s.heap.objs.size)) _ _ _);have key:=yb (A:=A) (s:={s with heap:=s.heap.push {cls:=.type "list",data:=.seq ([]:Aae).toArray}})
  (R:=λq s'=>∃h' tk d acc c' ks,q=.ok (.ret (.ref s.heap.objs.size))/\s'={s with heap:=h',toks:=tk,drawn:=d}/\(∀b o,s.heap.get? b=some o->h'.get? b=some o) /\
   h'.get? s.heap.objs.size=some {cls:=.type "list",dict:=none,data:=.seq acc c',slots:=#v[]}/\acw acc.toList ks/\ks.Perm ss)
  hh (hX.keep λo e=>aad _ e) (abL Cn) (.ref s.heap.objs.size) 0 e1 hn
  λh' tk d acc c' ks k1 k2 k3 k4=>#[h',tk,d,acc,c',ks,rfl,rfl,λb o e=>k1 b o (aas (aah e)) (aad _ e),k2,k3,k4]
 refine aay key (λfin s' x=>?_) λe s' x=>?_
 .cases fin with
  |done f=>obtain⟨h',tk,d,acc,c',ks,e,rfl,k1,k2,k3,k4⟩:=x;cases e;exact aaa (wpAny_load k2 (aae (h h' tk d _ ks k1 k3 k4)))
  |again c1=>refine#[x.1,adB x.2 λq st y=>?_];obtain⟨h',tk,d,acc,c',ks,rfl,rfl,k1,k2,k3,k4⟩:=y;exact aaa (wpAny_load k2 (aae (h h' tk d _ ks k1 k3 k4)))
 .obtain⟨_,_,_,_,_,_,e',_⟩:=x;cases e'
open PySem PySem.Spec PyProof.Rows
variable{prog:aaD}{w:World}{A:Around}{E:Aab}{s:Shared}
variable{x:Value}{Q:Aab}
theorem qL(hc:wpAny (model prog w) A.in1 (collect x) (λvs s1=>∃ss:Aaa,acw vs ss/\vs.length<64 /\
   (∀(h2:Heap) (out:Aae) (Fi:Aaa) (n:Nat),(∀b o,s1.heap.get? b=some o->h2.get? b=some o)->h2.get? s1.heap.objs.size=some (seqObj "list" out.toArray n)->acw out Fi->Fi.Perm ss->sortedS Fi=true->Q (.ref s1.heap.objs.size) {s1 with heap:=h2})) E s) :
  wpAny (model prog w) A (call (.builtin "sorted") [x]) Q E s:=by
 refine adJ afi aeS aeT (args_sorted1 _) ?_;unfold adx.«sorted»;refine aaa (m:=checkCount "sorted" 1 1 _) (aae (aaa (aay hc (λvs s1 hv=>?_) λ_ _ e=>e)));obtain⟨ss,hS,EJ,k⟩:=hv;refine aaa (acI ?_ (by rw[aaJ];omega));have OJ:(s1.heap.push (seqObj "list" vs.toArray 0)).get? s1.heap.objs.size=some (seqObj "list" vs.toArray 0):=aag _ rfl;refine aaa (aaY (aa2 adF #[_,OJ,rfl] adq (list_sort_treeK strKind_oneLt OJ hS.keysOf (λv1 v2 rest e=>keyKind_strs (by rw[<- e];exact hS)) EJ λst p q=>#[_,rfl,?_]) (aej _)));obtain⟨Fi,b1,b2,b3⟩:=sorted_out_str hS p q;obtain⟨n,at2⟩:=sortedHeap_at (out:=(arrOf st).map (·.2)) OJ;refine aae #[_,rfl,k _ ((arrOf st).map (·.2)).toList Fi n (λb o e=>?_) (by rw[Array.toArray_toList];exact at2) b1 b2 b3];have lt:=aah e;rw[sortedHeap_old (aas lt) (by rw[size_push'];exact abk lt)];exact aad _ e
variable{X:Cx}{pins:Aac}{H:Hp}
def Inv.ZQ{U:List (Aav)}(I:Inv X pins U H s)(d:Drawn):Inv X pins U H {s with drawn:=d} :=
 #[I.ok,I.os,I.bare,I.base,I.loc,I.cell,I.free,I.Dl,I.pin,I.Bv,I.len]
noncomputable def Ja(P:aaD)(w:World)(a:Addr)(ss:Aaa):HO:=.ext λh=>CS P w h a ss
variable{P:aaD}{h:Heap}{a:Addr}{ss:Aaa}
def NC(x:CS P w h a ss):BG P w H h a (Ja P w a ss) :=
 #[x,(by obtain⟨o,_,_,_,_,e,_⟩:=x;exact#[o,e]),λh1 h2 y k=>CS.keep y k]
def NP(P:aaD)(w:World):Aai->Hp->VK->Prop:=λxs H Q=>∃(p:Addr) (ss:Aaa),xs=[.ref p]/\H p=some (.lst (ss.map V.str))/\ss.length<=1000/\∀l,H l=none->Q (.ref l) (upd H l (Ja P w l (Gg ss)))
theorem rP(hc:X.calm=true):BM X (.type "set") (NP X.prog X.w):=by intro pins s U H xs us Q I r h;obtain⟨p,ss,rfl,hq,hl,k⟩:=h;obtain⟨u,rfl,ru⟩:=r.one;cases ru;obtain⟨_,gE,n,rv,g⟩:=I.Bv p _ hq;exact lK (I.ok.hd hc) #[_,g,rfl,n,rfl] (by simpa using jT rv) (by unfold scanBound;omega) λh' tk q1 q2 q3=>#[.ref s.heap.objs.size,_,I.laid (λb o e=>q2 b o (aah e) e) (aaj _) (NC q1),rfl,k _ (I.Bv.fresh (aaj _))]
def NL(P:aaD)(w:World):Aai->Hp->VK->Prop:=λxs H Q=>∃(a:Addr) (ss:Aaa),xs=[.ref a]/\H a=some (Ja P w a ss)/\ss.length<64 /\
 ∀(l:Addr) (ts:Aaa),H l=none->ts.Perm ss->ts.Pairwise (λa b=>¬ B0 b a)->Q (.ref l) (upd H l (.lst (ts.map V.str)))
theorem rL(hc:X.calm=true):BM X (.builtin "sorted") (NL X.prog X.w):=by intro pins s U H xs us Q I r h;obtain⟨a,ss,rfl,ha,EJ,k⟩:=h;obtain⟨u,rfl,ru⟩:=r.one;cases ru;obtain⟨x,_,_⟩:=I.Bv a _ ha;refine qL (wf (I.ok.hd hc) x (by rw[aaJ];omega) λh1 tk d vs ks kk a1 a2=>?_);refine#[ks,a1,by rw[a1.length,a2.length_eq];exact EJ,λh2 out Fi n k2 e2 o1 o2 o3=>?_];have I1:Inv X pins U H {s with heap:=h1,toks:=tk}:=I.kept kk;have I2:=I1.laid (t':=tk) (o:=.lst _) (λb o q=>k2 b o q) (aaj _) #[by rw[aac,o2.length_eq,a2.length_eq,aaJ];omega,out,n,dN o1,e2];exact#[.ref h1.objs.size,_,I2.ZQ d,rfl,k _ Fi (I1.Bv.fresh (aaj _)) (o2.trans a2) (eB o3)]
end L2
namespace Q
open PySem L2 PyProof.Rows
def jJ(fa:WA):WE:=λenv P=>fa env λxs e=>match xs with
 |[.lst ys]=>∃ss,ys.mapM Fy=some ss/\ss.length<=1000/\(Gg ss).length<64/\∀ts,Ga (Gg ss) ts->P (.lst (ts.map .str)) e
 |_=>False
variable{ob:Ct}{X:Cx}{a b c e:Expr}{es:Aak}{f g h:WE}{fa:WA}{pos Hw p p1 p2:Pos}{x:Str}
def rG(hc:X.calm=true)(hg:Gl X "sorted")(hm:X.mg "sorted" = none)(Lq:Gl X "set")(UY:X.mg "set" = none)(ha:JN ob X [e] fa)(Va:autoParam (aai [e] X.env=(false,eval e X.env)::aai [] X.env) oR)
  (he:autoParam (aai [.Call (.Name "set" p2) [e] [] Hw] X.env=(false,eval (.Call (.Name "set" p2) [e] [] Hw) X.env)::aai [] X.env) oR) (UQ:autoParam ((backTo Hw (aai [] X.env)).any (·.1)=false) oR) (CM:autoParam ((backTo pos (aai [] X.env)).any (·.1)=false) oR) :
  GD ob X (.Call (.Name "sorted" p) [.Call (.Name "set" p2) [e] [] Hw] [] pos) (jJ fa):=by
 obtain⟨t,ht,k⟩:=ha.ex;refine#[_,bB (rL hc) hg hm afm (aD (dU (rP hc) Lq UY PyProof.Rows.boot_set ht #[2] (rfl) Va UQ) aN he) #[2] (rfl) he CM,λZ F U H env P Q K hf kk=>k Z F U H env _ _ K hf λxs e1 vs F1 H1 p s1 K1 r1=>?_];split at p
 .obtain⟨ss,hs,hl,EJ,p⟩:=p;obtain⟨v,rfl,r⟩:=r1.one;obtain⟨q,vs,rfl,h1,h2⟩:=r.lst K1.sF;have:=bj cT hs h2;subst this;refine#[q,ss,rfl,h1,hl,λl hn=>#[l,_,rfl,ah,EJ,λm ts hm hp hw=>?_]];have sH:dO H1 (upd H1 l (Ja X.prog X.w l (Gg ss))):=aq hn;have K2:=K1.move aj (ag K1.sF sH) sH λ_ h=>.inl h;exact kk _ e1 _ F1 _ (p ts #[hp,hw]) s1 (λ_=>#[0]) (K2.own hm #[_,ah,dS ts])
 .exact p.elim
end Q
namespace L2
open PySem PySem.Spec PyProof.Rows PyProof.Rows.KTD
variable{prog:aaD}{w:World}{A:Around}{E:Aab}{s:Shared}
variable{X:Cx}
end L2
namespace Q
open PySem L2 PyProof.Rows PyProof.Rows.KTD
variable{ob:Ct}{X:Cx}{e ke:Expr}{es:Aak}{fk:WE}{fa:WA}{x y tb:Str}{p p1 p2 p3 py pos Ya Hw X9:Pos}
end Q
namespace L2
open PySem PySem.Spec PyProof.Rows
variable{X:Cx}
end L2
namespace Q
open PySem L2 PyProof.Rows
variable{ob:Ct}{X:Cx}{e ke:Expr}{es:Aak}{fa:WA}{fk:WE}{x:Str}{pos p p1 apos BQ Hw:Pos}
variable{P:aaD}{w:World}{K:aaf}{mg:Aag}{base:Heap}
variable{k:Nat}{C6:Addr}{fd:abM}{ps:Aaa}{DO:FdOT}
end Q
namespace L2
open PySem PySem.Spec PyProof.Rows
variable{X:Cx}{e st:Expr}{te XM:TE}{pos p2:Pos}
end L2
namespace Q
open PySem L2 PyProof.Rows
variable{ob:Ct}{X:Cx}{e:Expr}{f:WE}{pos:Pos}
end Q
namespace L2
open PySem PySem.Spec PyProof.Rows
variable{X:Cx}{o e:Expr}{to te:TE}{apos pos:Pos}
end L2
namespace Q
open PySem L2 PyProof.Rows
variable{ob:Ct}{X:Cx}{a b:Expr}{f g:WE}{apos pos:Pos}
end Q
namespace L2
open PySem PySem.Spec PyProof.Rows PySem.W
section
open PySem.SeqAt
open PySem.AutoSeq1 (wpAny_loadPart')
open PySem.MeetsSeq PySem.MeetsSeq2 PySem.MeetsSeq3
end
noncomputable def gtB(k l:Int×Str):Bool:=decide (l.1<k.1\/(l.1=k.1/\B0 l.2 k.2))
variable{prog:aaD}{w:World}{A:Around}{R:Result->Shared->Prop}
variable{E:Aab}{s:Shared}
variable{X:Cx}{lq d x:Str}{Bx p p1 p2 p3 p4 DS E8 pos:Pos}{P c:Addr}{params:Arguments}{scope:Scope}{e:Expr}{te:TE}{i k:Nat}{kd:Nat}
end L2
namespace Q
open PySem L2 PyProof.Rows PySem.W
variable{X:Cx}{lq d x:Str}{Bx p p1 p2 p3 p4 DS E8 pos:Pos}{T c:Addr}{params:Arguments}{scope:Scope}{e:Expr}{f:WE}{i j k:Nat}{ob:Ct}{kd:Nat}
end Q
namespace L2
open PySem PySem.Spec PyProof.Rows
variable{P:aaD}{w:World}{K:aaf}{mg:Aag}{k:Nat}{a:Addr}{fd:abM}{x:Str}{sp:Sp}{vs:Aae}
def rm{mb:Aag}{fa:Addr}{Ts:Aaj}{sc:Shared}{ns:Aas}
  (KX:K.In sc.heap) (Lp:sc.heap.Ns aaR mg) (hb:sc.heap.Ns aeJ mb) (RL:∀x:Str,x ≠ "__name__" -> mb x=acn x) (Oa:sc.heap.NoLimit) (hg:sc.gens=#v[])
  (ha:sc.heap.get? a=some {cls:=.type "list",data:=.seq vs.toArray}) (hi:IntsAre vs ns) (hl:ns.length<=sizeLine) (hr:BS k afl) (hC:∀T∈Ts,∃c,abq K c T=true) (hT:∀T∈Ts,sc.heap.get? T=some (adG #v[])) (Vi:∀T∈Ts,K.lookup T=none) (hB:BMain mg sc.heap)
  (F:∀base:Heap,K.In base->base.Ns aaR mg->BMain mg base->BD P w K mg base Cu k fa fd [x] sp) (RK:∀(s:Shared) (u:Value),BindsTo s fd #[[u],[]] [(x,u)])
  (Ln:∀H:Hp,CN K H a (ns.map V.int)->(∀T∈Ts,H T=some (CJ T #v[]))->sp [.ref a] H (λv H'=>v=.bl true/\∀T∈Ts,∃ps,H' T=some (CJ T ps)) λ_ _ _=>False) :
  acS (model P w) afl (.call (.ref fa) #[[.ref a],[]]) (λr s'=>r=.ok (.ret (.bool true))/\OldK sc.heap s'.heap/\s'.os=sc.os/\aep s'.gens) sc:=by
 have rv:=lR hi;have Uq:=hi.length;have Xa:a∉Ts:=λz=>by rw[hT a z]at ha;cases ha
 have core:∀H:Hp,(∀b,H b=none\/(∃o xs,H b=some (.D1 o (.lst xs)))\/b∈Ts)->CN K H a (ns.map V.int)->(∀T∈Ts,H T=some (CJ T #v[]))->D4 P w H sc.heap->(∀b,H b≠none->b=a\/b∈Ts)->(H a≠none->K.lookup a=none) ->
   acS (model P w) afl (.call (.ref fa) #[[.ref a],[]]) (λr s'=>r=.ok (.ret (.bool true))/\OldK sc.heap s'.heap/\s'.os=sc.os/\aep s'.gens) sc:=by
  intro H hO hS Vj Bv hA hK;have Hj:∀{b:Addr} {o:Obj},sc.heap.get? b=some o->H b=none->(Gx sc.heap H).get? b=some o:=λe n=>vG e n;have plain:∀{b:Addr} {o:Obj},sc.heap.get? b=some o->o≠{cls:=.type "list",data:=.seq vs.toArray}->o≠adG #v[]->H b=none:=λ{b o} e n1 n2=>by
   cases q:H b with
   |none=>rfl
   |some u=>
    rcases hA b (by rw[q];simp)with z|z
    .rw[z,ha]at e;cases e;exact absurd rfl n1
    .rw[hT b z]at e;cases e;exact absurd rfl n2
  have QV:∀{b:Addr} {o:Obj} {es:Array DictEntry} {ep:Nat},sc.heap.get? b=some o->o.data=.dict es ep->H b=none:=λ{b o es ep} e d=>plain e (λz=>by rw[z]at d;cases d) (λz=>by rw[z]at d;cases d);have SO:∀{b:Addr} {m:Aag},sc.heap.Ns b m->(Gx sc.heap H).Ns b m:=λ{b m} #[o,es,ep,e,d,r]=>#[o,es,ep,Hj e (QV e d),d,r]
  have Xg:K.In (Gx sc.heap H):=λb o e=>Hj (KX b o e) (by
   cases q:H b with
   |none=>rfl
   |some u=>
    rcases hA b (by rw[q];simp)with z|z
    .subst z;rw[hK (by rw[q];simp)]at e;cases e
    .rw[Vi b z]at e;cases e)
  have Zz:BMain mg (Gx sc.heap H):=by obtain⟨bm,o,b1,b2,b3,b4,b5,b6⟩:=hB.ex;exact#[bm,o,b1,b2,Hj b3 (plain b3 (λz=>by rw[z]at b6;cases b6) (λz=>by rw[z]at b6;cases b6)),b4,b5,b6]
  have hM:Mod K mg (Gx sc.heap H):=#[Xg,SO Lp,#[mb,SO hb,RL],let #[mc,h1,h2]:=Oa;#[mc,SO h1,h2]]
  have e0:Mk P w K mg (Gx sc.heap H) afl [] sc H:=#[rfl,hM,λb o e=>xC e,aeW (tX _ _),trivial,λb hb=>absurd (show b∈([]:Aaj)from hb) #[0],Bv,.of_eq hg]
  refine adB ((F _ Xg (SO Lp) Zz).run afl [] sc H #[[.ref a],[]] [.ref a] [.ref a] _ _ hr e0 (RK sc (.ref a)) (.cons rfl .nil) (Ln H hS Vj)) λr s' h=>?_;cases r with
  |error e=>exact(show False from h).elim
  |ok fl=>
   cases fl with
   |next=>exact acW h
   |brk=>exact acW h
   |cont=>exact acW h
   |ret u=>
    obtain⟨v,H',os,bare,un,Rz,r',q,Ti⟩:=h;subst q;obtain rfl:u=Value.bool true:=r';have gT:∀T∈Ts,∃ps,s'.heap.get? T=some (adG ps):=λT h=>by obtain⟨ps,e⟩:=Ti T h;exact#[ps,(Rz T _ e).1]
    have keep:∀b o,sc.heap.get? b=some o->b∉Ts->s'.heap.get? b=some o:=λb o e Ve=>by
     cases q:H b with
     |none=>exact un.keep b o e q (by intro z;exact absurd (show b∈([]:Aaj)from z) #[0]) #[0]
     |some u=>
      rcases hO b with z|⟨ob,xs,z⟩|z
      .rw[q]at z;cases z
      .have z2:=un.Hb b ob _ z;obtain⟨e1,_⟩:=Bv b _ z;obtain⟨e2,_⟩:=Rz b _ z2;rw[e]at e1;cases e1;exact e2
      .exact absurd z Ve
    refine#[rfl,#[λb o e=>?_,λb o e=>?_],os,bare]
    .by_cases z:b∈Ts
     .obtain⟨c,hc⟩:=hC b z;obtain⟨ps,g⟩:=gT b z;rw[hT b z]at e;cases e;exact .inr (.inl #[((PySem.W.codeHd_of_K KX hc).tab (hT b z)).isCodeTable,rfl,#v[],ps,rfl,by rw[Array.empty_append];exact g])
     .exact .inl (keep b o e z)
    .by_cases z:b∈Ts
     .obtain⟨ps,g⟩:=gT b z;exact#[_,g]
     .exact#[o,keep b o e z]
 cases hk:K.lookup a with
 |some o=>
  have e:=KX a o hk;rw[ha]at e;cases e;refine core (λb=>if b∈Ts then some (CJ b #v[])else none) (λb=>?_) (.inr #[_,vs.toArray,_,hk,rfl,rfl,rfl,by rw[aap,Uq];exact hl,by simpa using rv]) (λT h=>if_pos h) (λb u z=>?_) (λb z=>?_) λz=>absurd (if_neg Xa) z
  .by_cases hb:b∈Ts
   .exact .inr (.inr hb)
   .exact .inl (if_neg hb)
  .by_cases hb:b∈Ts
   .have z':=(if_pos hb).symm.trans z;cases z';exact nq (hT b hb)
   .have z':=(if_neg hb).symm.trans z;cases z'
  .by_cases hb:b∈Ts
   .exact .inr hb
   .exact absurd (if_neg hb) z
 |none=>
  refine core (λb=>if b∈Ts then some (CJ b #v[])else if b=a then some (.D1 {cls:=.type "list",data:=.seq vs.toArray} (.lst (ns.map V.int)))else none) (λb=>?_) (.inl (.inr #[{cls:=.type "list",data:=.seq vs.toArray},(if_neg Xa).trans (if_pos rfl)])) (λT h=>if_pos h) (λb u z=>?_) (λb z=>?_) λ_=>hk
  .by_cases hb:b∈Ts
   .exact .inr (.inr hb)
   .by_cases KA:b=a
    .exact .inr (.inl #[_,_,(if_neg hb).trans (if_pos KA)])
    .exact .inl ((if_neg hb).trans (if_neg KA))
  .by_cases hb:b∈Ts
   .have z':=(if_pos hb).symm.trans z;cases z';exact nq (hT b hb)
   .have z:=(if_neg hb).symm.trans z;by_cases KA:b=a
    .have z:=(if_pos KA).symm.trans z;cases z;subst KA;exact#[ha,by rw[aac];exact hl,vs,_,rv,ha]
    .have z:=(if_neg KA).symm.trans z;cases z
  .by_cases hb:b∈Ts
   .exact .inr hb
   .by_cases KA:b=a
    .exact .inl KA
    .exact absurd ((if_neg hb).trans (if_neg KA)) z
variable{n:Nat}
def rX{l:afq}{q:aaD}{loose:Aaa}{XP:(Str->Option Value)->Heap->Prop}{YP:World->Heap->Prop}{d:DefRec}{K:Params->aaf}{sp:World->Sp}{Ts:Aaj}
  (hn:l.most=some n) (UX:n<=sizeLine) (RI:d.params.defaults=[]) (hr:BS k afl)
  (hY:∀(w:World) (h:Heap),YP w h->(K w.params).In h/\∀T∈Ts,h.get? T=some (adG #v[])) (Vi:∀(w:World),∀T∈Ts,(K w.params).lookup T=none)
  (F:∀(w:World) (mg:Aag) (fa:Addr) (h:Heap),(K w.params).In h->h.Ns aaR mg->mg d.name=some (.ref fa) ->
   ∃fd:abM,(∀(s:Shared) (u:Value),BindsTo s fd #[[u],[]] [(x,u)])/\(∀T∈Ts,∃c,abq (K w.params) c T=true) /\
    ∀base:Heap,(K w.params).In base->base.Ns aaR mg->BMain mg base->BD l.prog w (K w.params) mg base Cu k fa fd [x] (sp w))
  (Ln:∀(w:World) (H:Hp) (a:Addr) (ns:Aas),ns.length<=n->CN (K w.params) H a (ns.map V.int)->(∀T∈Ts,H T=some (CJ T #v[]))->sp w [.ref a] H (λv H'=>v=.bl true/\∀T∈Ts,∃ps,H' T=some (CJ T ps)) λ_ _ _=>False) :
  PySem.W.WalkO q loose XP YP l.row.toRowW d [] (λf vs=>PySem.call f vs):=by
 refine Att.HN hn RI λw s0 sc mg mb fa o pm cd doc a vs ns G Y ho hd FT hmg N6 hints hlen hg=>?_;obtain⟨KX,hT⟩:=hY w _ Y;obtain⟨fd,hb,hC,hF⟩:=F w mg fa _ KX G.T.g hmg;have hB:BMain mg sc.heap:=by obtain⟨bm,ob,b1,b2,b3,b4,b5,b6⟩:=G.T.bmain;exact#[bm,ob,b1,b2,b3,b4,b5,b6]
 exact rm KX G.T.g G.T.b G.T.builtins G.T.nolimit hg N6 hints (aaX hlen UX) hr hC hT (Vi w) hB hF hb (λH hS Vj=>Ln w H a ns hlen hS Vj)
end L2
namespace Q
open PySem L2 PyProof.Rows PySem.W
inductive HP:PV->PV->Prop where
 |one (x:PV):HP x x
 |fst (x y:PV):HP (.tup [x,y]) x
 |snd (x y:PV):HP (.tup [y,x]) x
 |mid (x y z:PV):HP (.tup [y,.tup [x,z]]) x
 |XN (x y z:PV):HP (.tup [y,.tup [z,x]]) x
variable{lq:Str}{ln co:Nat}{T:Addr}{x y:PV}
def dg(h:Cj lq ln co T=.tup [x,y]):False:=by unfold Cj at h;simp at h
variable{H:Hp}{a:Addr}{l:Aaj}
def b7(h:TabAt H a l (Cj lq ln co T)):a=T:=by obtain⟨_,_,_,_,q,_⟩:=h;exact(pG q).2.2.2.symm
def ni(h:TabsAt H a l (Cj lq ln co T)):TabAt H a l (Cj lq ln co T):=by
 cases h with
 |one h=>exact h
def nh(h:TabsAt H a l (.tup [x,y])):∃(T:Addr) (l1 l2:Aaj),l=l1++l2/\TabAt H a l1 x/\TabAt H T l2 y/\∀b∈l1,b∉l2:=by
 cases h with
 |one h=>obtain⟨_,_,_,_,q,_⟩:=h;exact(dg q.symm).elim
 |two h1 h2 h3=>exact#[_,_,_,rfl,h1,h2,h3]
variable{K:aaf}{F:Hp}
def uH{cc:PV}(hc:HP cc (Cj lq ln co T))(ho:(DE K).P F H a l cc):
  ∃l0 rest:Aaj,TabAt H T l0 (Cj lq ln co T)/\(∀b,b∈l↔b∈l0\/b∈rest)/\(∀b∈l0,b∉rest)/\∀(H':Hp) (HA:Aaj),TabAt H' T HA (Cj lq ln co T)->(∀b∈rest,H' b=H b)->(∀b∈HA,b∉rest)->∃l',(DE K).P F H' a l' cc/\∀b,b∈l'↔b∈HA\/b∈rest:=by
 cases hc with
 |one=>
  rcases ho with (⟨q,_⟩|⟨_,_,q,_⟩)|⟨_,q,_⟩|ht|⟨_,_,_,_,_,q,_⟩
  .cases q
  .cases q
  .cases q
  .obtain rfl:=b7 ht;exact#[l,[],ht,λb=>#[0],λb _=>#[0],λH' HA h _ _=>#[HA,.inr (.inr (.inl h)),λb=>#[0]]]
  .exact(dg q).elim
 |fst _ y=>
  rcases ho with (⟨q,_⟩|⟨_,_,q,_⟩)|⟨_,q,_⟩|⟨_,_,_,_,q,_⟩|⟨x1,x2,T2,l1,l2,q,rfl,h1,h2,h3⟩
  .cases q
  .cases q
  .cases q
  .exact(dg q.symm).elim
  .injection q with q;injection q with q1 q;injection q with q2 _;subst q1 q2;obtain rfl:=b7 h1;exact#[l1,l2,h1,λb=>aa7,h3,λH' HA h e dj=>#[HA++l2,.inr (.inr (.inr #[_,_,T2,HA,l2,rfl,rfl,h,h2.mono e,dj])),λb=>aa7]]
 |snd _ y=>
  rcases ho with (⟨q,_⟩|⟨_,_,q,_⟩)|⟨_,q,_⟩|⟨_,_,_,_,q,_⟩|⟨x1,x2,T2,l1,l2,q,rfl,h1,h2,h3⟩
  .cases q
  .cases q
  .cases q
  .exact(dg q.symm).elim
  .injection q with q;injection q with q1 q;injection q with q2 _;subst q1 q2;replace h2:=ni h2;obtain rfl:=b7 h2;exact#[l2,l1,h2,λb=>by rw[aa7];exact Or.comm,λb hb z=>h3 b z hb,λH' HA h e dj=>#[l1++HA,.inr (.inr (.inr #[_,_,_,l1,HA,rfl,rfl,h1.mono e,.one h,λb hb z=>dj b z hb])),λb=>by rw[aa7];exact Or.comm]]
 |mid _ y z=>
  rcases ho with (⟨q,_⟩|⟨_,_,q,_⟩)|⟨_,q,_⟩|⟨_,_,_,_,q,_⟩|⟨x1,x2,T2,l1,l2,q,rfl,h1,h2,h3⟩
  .cases q
  .cases q
  .cases q
  .exact(dg q.symm).elim
  .injection q with q;injection q with q1 q;injection q with q2 _;subst q1 q2;obtain⟨T3,m1,m2,rfl,k1,k2,k3⟩:=nh h2;obtain rfl:=b7 k1;refine#[m1,l1++m2,k1,λb=>by simp only[aa7];exact#[λz=>z.elim (λz=>.inr (.inl z)) λz=>z.elim .inl λz=>.inr (.inr z),λz=>z.elim (λz=>.inr (.inl z)) λz=>z.elim .inl λz=>.inr (.inr z)],λb hb z=>(List.mem_append.mp z).elim (λz=>h3 b z (aaH _ hb)) (k3 b hb),λH' HA h e dj=>#[l1++(HA++m2),.inr (.inr (.inr #[_,_,_,l1,HA++m2,rfl,rfl,h1.mono λb hb=>e b (aaH _ hb),.two h (k2.mono λb hb=>e b (aak _ hb)) λb hb z=>dj b hb (aak _ z),λb hb z=>(List.mem_append.mp z).elim (λz=>dj b z (aaH _ hb)) λz=>h3 b hb (aak _ z)])),λb=>by simp only[aa7];exact#[λz=>z.elim (λz=>.inr (.inl z)) λz=>z.elim .inl λz=>.inr (.inr z),λz=>z.elim (λz=>.inr (.inl z)) λz=>z.elim .inl λz=>.inr (.inr z)]]]
 |XN _ y z=>
  rcases ho with (⟨q,_⟩|⟨_,_,q,_⟩)|⟨_,q,_⟩|⟨_,_,_,_,q,_⟩|⟨x1,x2,T2,l1,l2,q,rfl,h1,h2,h3⟩
  .cases q
  .cases q
  .cases q
  .exact(dg q.symm).elim
  .injection q with q;injection q with q1 q;injection q with q2 _;subst q1 q2;obtain⟨T3,m1,m2,rfl,k1,k2,k3⟩:=nh h2;obtain rfl:=b7 k2;refine#[m2,l1++m1,k2,λb=>by simp only[aa7];exact#[λz=>z.elim (λz=>.inr (.inl z)) λz=>z.elim (λz=>.inr (.inr z)) .inl,λz=>z.elim (λz=>.inr (.inr z)) λz=>z.elim .inl λz=>.inr (.inl z)],λb hb z=>(List.mem_append.mp z).elim (λz=>h3 b z (aak _ hb)) λz=>k3 b z hb,λH' HA h e dj=>#[l1++(m1++HA),.inr (.inr (.inr #[_,_,_,l1,m1++HA,rfl,rfl,h1.mono λb hb=>e b (aaH _ hb),.two (k1.mono λb hb=>e b (aak _ hb)) h λb hb z=>dj b z (aak _ hb),λb hb z=>(List.mem_append.mp z).elim (λz=>h3 b hb (aaH _ z)) λz=>dj b z (aaH _ hb)])),λb=>by simp only[aa7];exact#[λz=>z.elim (λz=>.inr (.inl z)) λz=>z.elim (λz=>.inr (.inr z)) .inl,λz=>z.elim (λz=>.inr (.inr z)) λz=>z.elim .inl λz=>.inr (.inl z)]]]
variable{X:Cx}{Z:Zn}{F1:Hp}{U:L2.St}{j:Nat}
def pF{H1:Hp}{e1:En}{cc:PV}{d:Str}{Bx:Pos}{params:Arguments}{body:Expr}{scope:Scope}{R:Hp->Prop}(K1:tO (md (DE X.K) X) Z F1 U H1 e1)(ej:e1[j]?=some (some #[2,cc]))(hc:HP cc (Cj lq Bx.line Bx.col T))
  (hR:∀H2,tO (md (DE X.K) X) Z F1 U H2 e1->R H2):Jp X lq d Bx T params body scope U H1 λ_ H2=>R H2:=by
 obtain⟨fp,L⟩:=K1.sl;obtain⟨vt,hst,Yd⟩:=L.at' j _ ej;obtain⟨a,rfl,ho⟩:∃a,vt=.ref a/\(DE X.K).P F1 H1 a (fp j) cc:=by
  rcases Yd with ⟨q,_⟩|⟨q,_⟩|⟨_,a,e,_,ho⟩|⟨q,_⟩
  .cases q
  .cases q
  .exact#[a,e,ho]
  .cases q
 obtain⟨l0,rest,ht,hm,Zc,UL⟩:=uH hc ho;obtain⟨Up,ln,co,ps,q,t1,t2,t3⟩:=ht;obtain⟨rfl,e2,e3,_⟩:=pG q;have ec:∀l,acP #[ln,co,0,0] l=acP Bx l:=jf e2.symm e3.symm;have Th:T∈l0:=by rcases t3 with ⟨q,_⟩|⟨_,_,q,_⟩<;>rw[q]<;>simp
 have al:∀b∈fp j,H1 b≠none/\F1 b=none:=L.al j;have Xh:F1 T=none:=(al T ((hm T).mpr (.inl Th))).2;refine#[ps,t1,t2,?_];rcases t3 with ⟨RE,Ky⟩|⟨c',hne,RE,Rx,Oe⟩
 .rw[ec]at Ky;refine .inl #[Ky,λc' f' ob a1 a2 a3 a4 a5 _=>hR _ ?_];have old:∀b o,H1 b=some o->b≠T->(upd (upd (upd H1 T (CJ T (ps++#v[rawInt Bx.line,rawInt Bx.col,.ref c']))) c' (CW c' lq)) f' (Fk f' ob)) b=some o:=λb o hb Ve=>by rw[af (ao hb a2),af (ao hb a1),af Ve];exact hb
  have eT:(upd (upd (upd H1 T (CJ T (ps++#v[rawInt Bx.line,rawInt Bx.col,.ref c']))) c' (CW c' lq)) f' (Fk f' ob)) T=some (CJ T (ps++#v[rawInt Bx.line,rawInt Bx.col,.ref c'])):=by rw[af (abE a5),af (abE a4),ah]
  have eC:(upd (upd (upd H1 T (CJ T (ps++#v[rawInt Bx.line,rawInt Bx.col,.ref c']))) c' (CW c' lq)) f' (Fk f' ob)) c'=some (CW c' lq):=by rw[af a3,ah]
  generalize (upd (upd (upd H1 T (CJ T (ps++#v[rawInt Bx.line,rawInt Bx.col,.ref c']))) c' (CW c' lq)) f' (Fk f' ob))=H2 at old eT eC ⊢;have tl:(ps++#v[rawInt Bx.line,rawInt Bx.col,abe c']).toList=ps.toList++[rawInt Bx.line,rawInt Bx.col,abe c']:=by simp
  have rs:∀b∈rest,b≠T/\∃o,H1 b=some o:=λb hb=>#[λz=>Zc T Th (z ▸ hb),bK (al b ((hm b).mpr (.inr hb))).1]
  obtain⟨l',EI,N7⟩:=UL H2 [T,c'] #[lq,Bx.line,Bx.col,_,rfl,eT,by rw[tl];exact TriplesOk_snoc _ _ _ _ t2,.inr #[c',a4,rfl,by rw[tl];exact(jf (p:=#[Bx.line,Bx.col,0,0]) (q:=Bx) rfl rfl _).trans (codeAmong_snoc _ t2 Ky),eC]]
   (λb hb=>by
    obtain⟨z,o,e⟩:=rs b hb;rw[e,old b o e z]) (λb hb z=>by
    rcases List.mem_cons.mp hb with rfl|hb
    .exact(rs _ z).1 rfl
    .rw[List.mem_singleton.mp hb]at z;obtain⟨_,o,e⟩:=rs _ z;rw[a1]at e;cases e)
  have K2:=(K1.Kj (.inl rfl) L ej hst (l':=l') (F':=F1) (H':=H2) (c':=cc) (λb o hb hn=>old b o hb λz=>hn ((hm b).mpr (.inl (z ▸ Th)))) (λb hb=>?_) aj (λb o hb=>old b o (K1.sF b o hb) λz=>by rw[z,Xh]at hb;cases hb) (λb hb=>.inl hb) EI (λb hb=>?_) (λb hb=>?_)).1
  .rw[uM ej]at K2;exact K2
  .by_cases z:b=T
   .rw[z,eT];simp
   .obtain⟨o,ho⟩:=bK hb;rw[old b o ho z];simp
  .rcases(N7 b).mp hb with hb|hb
   .rcases List.mem_cons.mp hb with rfl|hb
    .exact#[by rw[eT];simp,Xh]
    .rw[List.mem_singleton.mp hb];exact#[by rw[eC];simp,dO.none_of K1.sF a1]
   .obtain⟨z,o,e⟩:=rs b hb;exact#[by rw[old b o e z];simp,(al b ((hm b).mpr (.inr hb))).2]
  .rcases(N7 b).mp hb with hb|hb
   .rcases List.mem_cons.mp hb with rfl|hb
    .exact .inl ((hm _).mpr (.inl Th))
    .rw[List.mem_singleton.mp hb];exact .inr a1
   .exact .inl ((hm b).mpr (.inr hb))
 .refine .inr #[c',(ec _).symm.trans Rx,Oe,λf' ob a1 _=>hR _ ?_];have sH:dO H1 (upd H1 f' (Fk f' ob)):=aq a1;exact K1.move aj (ag K1.sF sH) sH λ_ h=>.inl h
variable{i:Nat}
def qk{H1:Hp}{e1:En}{eQ:List (Key×PV)}{ss:Aaa}{ks:List (Int×Str)}(K1:tO (md (DE X.K) X) Z F1 U H1 e1)(ei:e1[i]?=some (some #[0,.Cd eQ]))
  (Iv:∀m,m<ss.length->Dc eQ (aaU (ss.getD m #[#v[]]))=some (.tup [.int (ks.getD m k0).1,.str (ks.getD m k0).2])) :
  ∃(dd:Addr) (vs:List (Key×V)) (ad:Aaj),U[i]?=some (some (.ref dd))/\H1 dd=some (.dK vs)/\ad.length=ss.length/\∀m,m<ss.length->Cz vs (aaU (ss.getD m #[#v[]]))=some (.ref (ad.getD m 0))/\C3 X.K H1 (ad.getD m 0) [.int (ks.getD m k0).1,.str (ks.getD m k0).2]:=by
 obtain⟨fp,L⟩:=K1.sl;obtain⟨vr,hh,Ye⟩:=L.at' i _ ei;obtain⟨dd,Ib,rfl,JG,rk⟩:∃dd Ib,vr=.ref dd/\F1 dd=some (.dK Ib)/\Bo X.K F1 Ib eQ:=by
  rcases Ye with ⟨_,_,r⟩|⟨q,_⟩|⟨q,_⟩|⟨q,_⟩
  .cases r with
   |Cd a b=>exact#[_,_,rfl,a,b]
  .cases q
  .rcases q with q|q<;>cases q
  .cases q
 have ex:∀m:Nat,∃a:Addr,m<ss.length->Cz Ib (aaU (ss.getD m #[#v[]]))=some (.ref a)/\C3 X.K F1 a [.int (ks.getD m k0).1,.str (ks.getD m k0).2]:=λm=>by
  by_cases hm:m<ss.length
  .have hv:=Iv m hm;rcases rk.val (k:=aaU (ss.getD m #[#v[]]))with ⟨_,q⟩|⟨v,x,q1,q2,q3⟩
   .rw[q]at hv;cases hv
   .rw[hv]at q2;cases q2;cases q3 with
    |tup g1 g2=>
     cases g2 with
     |cons g2 g3=>cases g3 with
      |cons g3 g4=>cases g4;cases g2;cases g3;exact#[_,λ_=>#[q1,g1]]
  .exact#[0,λh=>absurd h hm]
 obtain⟨g,W5⟩:=Classical.axiomOfChoice ex;have adl:∀m,m<ss.length->((abd ss.length).map g).getD m 0=g m:=λm hm=>by rw[aaq,aal,acq hm];rfl
 exact#[dd,Ib,(abd ss.length).map g,hh,K1.sF _ _ JG,#[0],λm hm=>by rw[adl m hm];exact#[(W5 m hm).1,au K1.sF (W5 m hm).2]]
def So(lq:Str)(ln co:Nat)(T:Addr)(c:PV)(ys:Aad)(eQ:List (Key×PV))(ss:Aaa)(ks:List (Int×Str)):Prop:=HP c (Cj lq ln co T)/\ys.mapM Fy=some ss/\ss.length<64/\ks.length=ss.length/\(ks.map (·.2)).Nodup /\
  ∀m,m<ss.length->Dc eQ (aaU (ss.getD m #[#v[]]))=some (.tup [.int (ks.getD m k0).1,.str (ks.getD m k0).2])
noncomputable def qp(j i:Nat)(lq:Str)(ln co:Nat)(T:Addr)(f:WE):WE:=λenv P=>f env λx e=>match x,e[i]?,e[j]? with
 |.tup ys,some (some #[0,.Cd eQ]),some (some #[2,c])=>∃(ss:Aaa) (ks:List (Int×Str)),So lq ln co T c ys eQ ss ks/\∀ix,Mh ks ss.length ix->P (.lst (ix.map λm=>.str (ss.getD m #[#v[]]))) e
 |_,_,_=>False
variable{d x:Str}{Bx p p1 p2 p3 p4 DS E8 pos:Pos}{c:Addr}{params:Arguments}{scope:Scope}{e:Expr}{f:WE}{k:Nat}{ob:Ct}{kd:Nat}
def ud(j i:Nat)(S:Gb x d params scope)(S2:Gc d params scope)(hr:BS k X.A)(hg:Gl X "sorted")(hm:X.mg "sorted" = none)(hq:X.env.qual ++ "<lambda>" = lq)(Ed:X.env.code=.ref c)(hC:abq X.K c T=true)(hB:BMain X.mg X.base)
  (hi:X.N[i]?=some d) (hd:X.env.kindOf d=some .cell) (hv:Hq X.env.scope d) (ha:BH ob X e f) (JA:autoParam (ob=DE X.K) oR)
  (hs:autoParam (aai [e] X.env=(false,eval e X.env)::aai [] X.env) oR)
  (h1:autoParam (backTo pos (aai [e] X.env)=(false,eval e X.env)::backTo pos (aai [] X.env)) oR) (h2:autoParam ((backTo pos (aai [e] X.env)).any (·.1)=false) oR) :
  GD ob X (.Call (.Name "sorted" p) [e] [#[some "key",.Lambda params (.Subscript (.Name d p1) (.Name x p2) p3) scope Bx,DS]] pos) (qp j i lq Bx.line Bx.col T f):=by
 subst JA;obtain⟨te,UH,Uu⟩:=ha.ex;refine#[_,u5 (i:=i) S S2 hr hg hm hq Ed hC hB hi hd hv UH hs h1 h2,λZ F U H env Pp Q K hf kk=>?_];refine Uu Z F U H env _ _ K hf λy e1 v F1 H1 p s1 K1 r1=>?_;split at p;case h_2=>exact p.elim
 rename_i ys eQ cc ei ej;obtain⟨ss,ks,⟨hc,S1,EJ,l2,nd,Iv⟩,p⟩:=p;cases r1 with
 |tup hl LU=>
 have:=bj cT S1 LU;subst this;obtain⟨dd,Ib,ad,hh,JG,l1,hk⟩:=qk K1 ei Iv;have T4:∀ix:Aan,rW X.K F1 (ix.map λm=>V.str (ss.getD m #[#v[]])) (ix.map λm=>PV.str (ss.getD m #[#v[]])):=λix=>by
  induction ix with
  |nil=>exact .nil
  |cons a r ih=>exact .cons (.str _) ih
 exact#[_,ss,dd,Ib,ad,ks,rfl,au K1.sF hl,EJ,hh,JG,l1,l2,nd,hk,pF K1 ej hc λH2 K2 D ix hD ok=>kk _ e1 _ F1 _ (p ix ok) s1 (λ_=>#[0]) (K2.own hD #[_,ah,T4 ix])]
def Fz(K:aaf)(T:Addr×Addr):Sp:=λvs H Q _=>∃(a:Addr) (ns:Aas),vs=[.ref a]/\CN K H a (ns.map V.int)/\ns.length<=63/\T.1≠T.2/\H T.1=some (CJ T.1 #v[])/\H T.2=some (CJ T.2 #v[])/\∀(H':Hp),(∃ps,H' T.1=some (CJ T.1 ps))->(∃ps,H' T.2=some (CJ T.2 ps))->Q (.bl true) H'
variable{P:aaD}{w:World}{mg:Aag}{base:Heap}{D:Eu}{C6:Addr}{fd:abM}{ps:Aaa}
def xQ{T:Addr×Addr}{SR:Str}{ln2 Tt:Nat}(F:BD P w K mg base Cu k C6 fd ps (spT #[P,w,K,DE K] 1 D))
  (h:∀(ns:Aas) (x:PV),ns.length<=63->(x=.D5 ns\/x=.lst (ns.map .int))->D (.tup [Cj lq ln co T.1,Cj SR ln2 Tt T.2]) [x] λr c=>r=.bl true/\c=.tup [Cj lq ln co T.1,Cj SR ln2 Tt T.2]):BD P w K mg base Cu k C6 fd ps (Fz K T):=by
 refine F.imp λvs H Q E q=>?_;obtain⟨a,ns,rfl,hs,hn,hne,RN,Vg,kq⟩:=q;let F0:Hp:=λb=>if b∈[T.1,T.2]then none else H b;have sF:dO F0 H:=λb o e=>by
  by_cases z:b∈[T.1,T.2]
  .have:=(if_pos z).symm.trans e;cases this
  .exact(if_neg z).symm.trans e
 have f0:∀b o,H b=some o->b∉[T.1,T.2]->F0 b=some o:=λb o e z=>(if_neg z).trans e;have fin:∀x,(x=.D5 ns\/x=.lst (ns.map .int))->Rep K F0 (.ref a) x->spT #[P,w,K,DE K] 1 D [.ref a] H Q E:=λx hx r=>
  #[F0,T.1,[T.1,T.2],.tup [Cj lq ln co T.1,Cj SR ln2 Tt T.2],[x],_,sF,.cons r .nil,rfl,.inr (.inr (.inr #[_,_,T.2,[T.1],[T.2],rfl,rfl,#[lq,ln,co,#v[],rfl,RN,trivial,.inl #[rfl,rfl]],(.one #[SR,ln2,Tt,#v[],rfl,Vg,trivial,.inl #[rfl,rfl]]),λb hb z=>hne ((List.mem_singleton.mp hb).symm.trans (List.mem_singleton.mp z))])),λb hb=>#[by
    rcases List.mem_cons.mp hb with rfl|hb
    .rw[RN];simp
    .rw[List.mem_singleton.mp hb,Vg];simp,if_pos hb],h ns x hn hx,λr c' v F' H' l' e _ _ _ _ _ ho _ _ rv=>by
   obtain⟨rfl,rfl⟩:=e;cases rv;rcases ho with (⟨q,_⟩|⟨_,_,q,_⟩)|⟨_,q,_⟩|⟨_,_,_,_,q,_⟩|⟨x1,x2,T2,l1,l2,q,rfl,h1,h2,_⟩
   .cases q
   .cases q
   .cases q
   .exact(dg q.symm).elim
   .injection q with q;injection q with q1 q;injection q with q2 _;subst q1 q2;replace h2:=ni h2;obtain rfl:=b7 h2;obtain⟨_,_,_,p1,_,t1,_⟩:=h1;obtain⟨_,_,_,p2,_,t2,_⟩:=h2;exact kq H' #[p1,t1] #[p2,t2]]
 have no:∀o:HO,(∀T' ps,o≠CJ T' ps)->H a=some o->a∉[T.1,T.2]:=λo ho e z=>by
  rcases List.mem_cons.mp z with rfl|z
  .rw[RN]at e;exact ho _ _ (aar e).symm
  .rw[List.mem_singleton.mp z,Vg]at e;exact ho _ _ (aar e).symm
 rcases hs with (hs|⟨o,hs⟩)|hs
 .exact fin _ (.inr rfl) (.lst (f0 _ _ hs (no _ (λ_ _ z=>by cases z) hs)) (gR ns))
 .exact fin _ (.inl rfl) (.D5 (.inl #[o,f0 _ _ hs (no _ (λ_ _ z=>by cases z) hs)]))
 .exact fin _ (.inl rfl) (.D5 (.inr hs))
end Q
namespace L2
open PySem PySem.Spec PyProof.Rows
variable{prog:aaD}{w:World}{A:Around}{E:Aab}{s:Shared}
variable{X:Cx}{e l:Expr}{te:TE}{tl:TO}{pos p2 p3:Pos}{c:Int}{j:Nat}
end L2
namespace Q
open PySem L2 PyProof.Rows
end Q
namespace L2
open PySem PySem.Spec PyProof.Rows
theorem tY(k l:Int×Str):(k.1=l.1/\k.2=l.2/\gtB k l=false)\/(k.1=l.1/\k.2≠l.2/\gtB k l=decide (l.2.cps.toList<k.2.cps.toList))\/(k.1≠l.1/\gtB k l=decide (l.1<k.1)):=by
 by_cases e:k.1=l.1
 .by_cases g:k.2=l.2
  .refine .inl #[e,g,decide_eq_false ?_];rintro(z|⟨_,z⟩)
   .omega
   .rw[g]at z;exact adI _ z
  .refine .inr (.inl #[e,g,?_]);unfold gtB;rw[aa0,decide_eq_true_eq,decide_eq_true_eq];exact#[λz=>z.elim (λq=>#[]) λq=>q.2,λz=>.inr #[e.symm,z]]
 .refine .inr (.inr #[e,?_]);unfold gtB;rw[aa0,decide_eq_true_eq,decide_eq_true_eq];exact#[λz=>z.elim id λq=>absurd q.1.symm e,.inl]
variable{prog:aaD}{w:World}{A:Around}{R:Result->Shared->Prop}
def vy(k l:Int×Str):(k.1=l.1/\k.2=l.2/\gtB l k=false)\/(k.1=l.1/\k.2≠l.2/\gtB l k=decide (k.2.cps.toList<l.2.cps.toList))\/(k.1≠l.1/\gtB l k=decide (k.1<l.1)):=by
 rcases tY l k with ⟨a,b,c⟩|⟨a,b,c⟩|⟨a,c⟩
 .exact .inl #[a.symm,b.symm,c]
 .exact .inr (.inl #[a.symm,abE b,c])
 .exact .inr (.inr #[abE a,c])
variable{s:Shared}{x:Addr}{k:Int×Str}
def nV{y:Addr}{l:Int×Str}(hu:A.units<cLine)(hx:Ci s.heap x k)(hy:Ci s.heap y l):Sk A s (.ref x) (.ref y) (gtB l k):=λprog w E Q h=>by
 obtain⟨⟨cls,dd,data,sl⟩,n,t,u,ho,hc,hd⟩:=hx;obtain⟨⟨VC,Pf,data2,OW⟩,n2,t2,u2,Jh,O7,hd2⟩:=hy;subst hc hd O7 hd2;refine richCompare_meets_room #[_,ho,rfl] #[_,Jh,rfl] PySem.F.slot_tuple_lt PySem.F.entry_tuple_lt (PySem.F.args_tuple_lt_2 _ _) (sf x y _ _ n n2 dd Pf sl OW _)
  #[ho,Jh,?_,#[(λx=>nomatch x),h]] hu
 rcases vy k l with ⟨e,g,b⟩|⟨e,g,b⟩|⟨e,b⟩
 .rw[b];have e1:(k.1==l.1)=true:=by simp_all
  have e2:(k.2==l.2)=true:=by simp_all
  exact .eq (e1 ▸ adC k.1 t l.1 t2) (.eq (e2 ▸ aey k.2 u l.2 u2) .nn)
 .have e1:(k.1==l.1)=true:=by simp_all
  have e2:(k.2==l.2)=false:=by simp_all
  refine .eq (e1 ▸ adC k.1 t l.1 t2) (.lt (e2 ▸ aey k.2 u l.2 u2) λprog w E Q hq=>?_);rw[b]at hq;exact P.lt_str hq
 .have e1:(k.1==l.1)=false:=by simp_all
  refine .lt (e1 ▸ adC k.1 t l.1 t2) λprog w E Q hq=>?_;rw[b]at hq;exact lt_int hq
end L2
namespace Q
open PySem L2 PyProof.Rows
variable{ob:Ct}{X:Cx}
end Q
namespace L2
open PySem PySem.Spec PyProof.Rows PySem.W
variable{prog:aaD}{w:World}{A:Around}{E:Aab}{s:Shared}
variable{X:Cx}{pins:Aac}{U:St}{H:Hp}
variable{k:Nat}{f:Addr}{fd:abM}{ps:Aaa}{sp:Sp}
variable{e:Expr}{te:TE}{x:Str}{p p1 p2 pos DS E8:Pos}{kd:Nat}
end L2
namespace Q
open PySem L2 PyProof.Rows
variable{ob:Ct}{X:Cx}{k:Nat}{fa:Addr}{fd:abM}{ps:Aaa}{D:Fd}{e:Expr}{f:WE}{x:Str}{p p1 p2 pos DS E8:Pos}{kd:Nat}
open PySem L2
variable{ob:Ct}{X:Cx}{k:Nat}{C6:Addr}{fd:abM}{ps:Aaa}{D:Fd}{x y:Str}{p p1 pos:Pos}{e:Expr}{f:WE}
end Q
namespace L2
open PySem PySem.Spec PyProof.Rows PySem.W
def GC(tp:Bool)(h:Heap)(l:Addr)(vs:Aae):Prop:=if tp=true then h.IsTuple l vs.toArray else h.IsList l vs.toArray
def C0(tp:Bool)(h:Heap)(it l:Addr)(j:Nat):Prop:=if tp=true then h.IsTupleIter it l j else h.IsListIter it l j
variable{tp:Bool}{h:Heap}{it l:Addr}{j:Nat}
def C0.at(x:C0 tp h it l j):∃o,h.get? it=some o/\(∀v,o.data≠.cell v)/\(o.cls==aci "tuple")=false/\(o.cls==aci "list")=false/\∀h':Heap,h'.get? it=some o->C0 tp h' it l j:=by
 cases tp
 .obtain⟨o,e,c,d⟩:=x;exact#[o,e,(λv z=>#[1]),#[1],#[1],λh' g=>#[o,g,c,d]]
 .obtain⟨o,e,c,d⟩:=x;exact#[o,e,(λv z=>#[1]),#[1],#[1],λh' g=>#[o,g,c,d]]
def HS(ks:List (Int×Str))(j i:Nat):Prop:=i<j/\∀m,m<j->m≠i->HW ks i m=true
variable{prog:aaD}{w:World}{A:Around}{E:Aab}{R:Result->Shared->Prop}
variable{s:Shared}{vs:Aae}{x:Value}{Q:Aao}
def pJ(hi:C0 tp s.heap it l j)(hl:GC tp s.heap l vs)(hx:vs[j]?=some x)
  (k:∀h':Heap,C0 tp h' it l (j+1)->abV it s.heap h'->Q (some x) {s with heap:=h'}):wpAny (model prog w) A (pyNext (.ref it)) Q E s:=by
 cases tp
 .exact wpAny_pyNext_list_item hi hl #[1] k
 .exact wpAny_pyNext_tuple_item hi hl #[1] k
def sj(hA:A.handled=none)(hi:C0 tp s.heap it l vs.length)(hl:GC tp s.heap l vs)
  (k:∀h':Heap,adZ it s.heap h'->Q none {s with heap:=h'}):wpAny (model prog w) A (pyNext (.ref it)) Q E s:=by
 cases tp
 .exact wpAny_pyNext_list_end hA hi hl #[0] k
 .exact wpAny_pyNext_tuple_end hA hi hl #[0] k
variable{b q:Addr}{n:Nat}{ks:List (Int×Str)}
theorem xJ{kw:Aar}{d:Value}{Pv:Nat->Value->Prop}(J:Shared->List (Addr×(Int×Str))->Prop)(l2:ks.length=n)(nd:(ks.map (·.2)).Nodup)(hA:A.in1.handled=none)(hu:A.in1.units<cLine)(NT:b≠it)
  (YX:(kw=[]/\n≠0)\/kw=[(aaE "default",d)])
  (sq:∀s L,J s L->∃vs:Aae,vs.length=n/\GC tp s.heap l vs/\∀j,j<n->Pv j (vs.getD j .none)) (pr:∀s L,J s L->∀p∈L,Ci s.heap p.1 p.2)
  (step:∀(s:Shared) (L:List (Addr×(Int×Str))) (h':Heap),J s L->(∀c o,c≠it->c≠b->s.heap.get? c=some o->h'.get? c=some o)->J {s with heap:=h'} L)
  (turn:∀(j:Nat) (v:Value) (s:Shared) (L:List (Addr×(Int×Str))) (oi ob:Obj),j<n->Pv j v->J s L->s.heap.get? it=some oi->(∀v,oi.data≠.cell v)->s.heap.get? b=some ob->(∀v,ob.data≠.cell v) ->
   wpAny (model prog w) A.in1 (call (.ref q) [v]) (λr z=>∃a,r=.ref a/\J z ((a,ks.getD j (0,#[#v[]]))::L)/\z.heap.get? it=some oi/\z.heap.get? b=some ob) (λ_ _=>False) s)
  (fin:∀v s L,J s L->((n=0/\v=d)\/∃i,HS ks n i/\Pv i v)->R (.ok (.ret v)) s) :
  ∀(k j:Nat) (s:Shared) (L:List (Addr×(Int×Str))),n - j=k->j<=n->J s L->C0 tp s.heap it l j ->
  ((j=0/\∃c,s.heap.get? b=some (seqObj "list" #v[] c))\/∃i c a u,HS ks j i/\Pv i u/\(a,ks.getD i (0,#[#v[]]))∈L/\s.heap.get? b=some (seqObj "list" #v[u,.ref a] c)) ->
  acS (model prog w) A (.builtin "min.loop" #[[.ref it,.ref q,.ref b],kw]) R s:=by
 intro k;induction k with
 |zero=>
  intro j s L hk hj hJ hi hb;have ej:n=j:=by omega
  subst ej;obtain⟨vs,lv,hs,_⟩:=sq s L hJ;rw[<- lv]at hi;refine ach PySem.F.entry_min_loop ?_;rw[adg ab6 _];show wpAny _ A.in1 (seqItems? (.ref b) >>= _) _ _ s;rcases hb with ⟨e0,c,hb⟩|⟨i,c,a,u,mx,hP,_,hb⟩
  .rcases YX with ⟨_,ne⟩|rfl
   .exact absurd e0 ne
   refine aaa (abm hb rfl ?_);show wpAny _ A.in1 (tryCatch (pyNext (.ref it)) _ >>= _) _ _ s;refine aaa (acO (sj hA hi hs λh' kk=>?_));show wpAny _ A.in1 (rule _ >>= _) _ _ _;exact aaa (acs (aae (fin d _ L (step s L h' hJ λc o c1 _ e=>kk _ _ c1 e) (.inl #[e0,rfl]))))
  .refine aaa (abm hb rfl ?_);show wpAny _ A.in1 (tryCatch (pyNext (.ref it)) _ >>= _) _ _ s;refine aaa (acO (sj hA hi hs λh' kk=>?_));show wpAny _ A.in1 (afb b _ >>= _) _ _ _;have O8:=kk _ _ NT hb;have s1:=aaN h' b (abK λ_=>(#v[]:Aam));refine aaa (adk O8 rfl ?_ (by show 2<=sizeLine;decide) (aba _));show wpAny _ A.in1 (letGo _ _ >>= _) _ _ _;exact aaa (ac6 (aae (fin _ _ L (step s L _ hJ λc o c1 c2 e=>(s1.2 c c2).trans (kk _ _ c1 e)) (.inr #[i,mx,hP]))))
 |succ k ih=>
  intro j s L hk hj hJ hi hb;have Cn:j<n:=by omega
  obtain⟨vs,lv,hs,Zo⟩:=sq s L hJ;have RO:=Zo j Cn;have ev:vs[j]?=some (vs.getD j .none):=by rw[aab #[],aaq,aab #[]];rfl
  generalize vs.getD j abb=x at RO ev;have o:=qd nd;rw[l2]at o;refine ach PySem.F.entry_min_loop ?_;rw[adg ab6 _];show wpAny _ A.in1 (seqItems? (.ref b) >>= _) _ _ s;rcases hb with ⟨e0,c,hb⟩|⟨i,c,a,u,mx,hP,ha,hb⟩
  .refine aaa (abm hb rfl ?_);show wpAny _ A.in1 (tryCatch (pyNext (.ref it)) _ >>= _) _ _ s;refine aaa (acO (pJ hi hs ev λh1 I1 sb=>?_));have J1:=step s L h1 hJ λc o hc _ e=>(sb.2 c hc).trans e;obtain⟨oi,gi,ci,_,_,mi⟩:=I1.at;show wpAny _ A.in1 (tryCatch (adp _ (call (.ref q) [x])) _ >>= _) _ _ _;refine aaa (acO (aaY (aay (turn j x {s with heap:=h1} L oi _ Cn RO J1 gi ci ((sb.2 b NT).trans hb) (λv z=>by cases z)) (λv z hz=>?_) λ_ _ f=>f.elim)));obtain⟨a,rfl,J2,Tn,Pb⟩:=hz;show wpAny _ A.in1 (afb b _ >>= _) _ _ _;have s2:=aaN z.heap b (abK λ_=>#v[x,.ref a]);refine aaa (adk Pb rfl ?_ (aba _) (by show 2<=sizeLine+1;decide));refine aae #[acK ab6 _,ih (j+1) _ _ #[] Cn (step _ _ _ J2 λc o _ c2 e=>(s2.2 c c2).trans e) (mi _ ((s2.2 it NT.symm).trans Tn)) (.inr #[j,_,a,x,#[abP j,λm hm ne=>#[]],RO,aan,acD Pb λ_=>#v[x,.ref a]])]
  .have Te:i<n:=aaz mx.1 hj;have Yj:j≠i:=abL mx.1;refine aaa (abm hb rfl ?_);show wpAny _ A.in1 (tryCatch (pyNext (.ref it)) _ >>= _) _ _ s;refine aaa (acO (pJ hi hs ev λh1 I1 sb=>?_));have J1:=step s L h1 hJ λc o hc _ e=>(sb.2 c hc).trans e;obtain⟨oi,gi,ci,_,_,mi⟩:=I1.at;show wpAny _ A.in1 (tryCatch (adp _ (call (.ref q) [x])) _ >>= _) _ _ _;refine aaa (acO (aaY (aay (turn j x {s with heap:=h1} L oi _ Cn RO J1 gi ci ((sb.2 b NT).trans hb) (λv z=>by cases z)) (λv z hz=>?_) λ_ _ f=>f.elim)));obtain⟨a',rfl,J2,Tn,Pb⟩:=hz;have p1:=pr _ _ J2 _ aan;have p2:=pr _ _ J2 _ (aam _ ha);refine aaa (acO (aaY (aaa (nV (s:=z) hu p1 p2 prog w _ _ ?_))));show wpAny _ A.in1 (adp _ (truthy (.bool _)) >>= _) _ _ _;refine aaa (aaY (ab0 ?_));refine aaa (ac6 (aae ?_));have eg:gtB (ks.getD i (0,#[#v[]])) (ks.getD j (0,#[#v[]]))=HW ks j i:=rfl;dsimp only;rw[eg];cases hg:HW ks j i with
   |true=>
    show wpAny _ A.in1 (afb b _ >>= _) _ _ _;have s2:=aaN z.heap b (abK λ_=>#v[x,.ref a']);refine aaa (adk Pb rfl ?_ (by show 2<=sizeLine;decide) (by show 2<=sizeLine+1;decide));refine aaa (ac6 ?_);refine aae #[acK ab6 _,ih (j+1) _ _ #[] Cn (step _ _ _ J2 λc o _ c2 e=>(s2.2 c c2).trans e) (mi _ ((s2.2 it NT.symm).trans Tn)) (.inr #[j,_,a',x,#[abP j,λm hm ne=>?_],RO,aan,acD Pb λ_=>#v[x,.ref a']])];by_cases z:m=i
    .rw[z];exact hg
    .exact o.tr j i m Cn Te #[] hg (mx.2 m #[] z)
   |false=>
    show wpAny _ A.in1 (letGo _ _ >>= _) _ _ _;refine aaa (ac6 ?_);refine aae #[acK ab6 _,ih (j+1) _ _ #[] Cn J2 (mi _ Tn) (.inr #[i,_,a,u,#[abk mx.1,λm hm ne=>?_],hP,aam _ ha,Pb])];by_cases z:m=j
    .rw[z];exact o.tot j i Cn Te Yj hg
    .exact mx.2 m #[] ne
variable{h':Heap}
def GC.keep(k:∀o,h.get? l=some o->h'.get? l=some o)(x:GC tp h l vs):GC tp h' l vs:=by
 cases tp
 .obtain⟨o,e,r⟩:=x;exact#[o,k o e,r]
 .obtain⟨o,e,r⟩:=x;exact#[o,k o e,r]
def wT{Q:Aab}(hl:GC tp s.heap l vs)
  (k:∀o:Obj,(∀h:Heap,h.get? s.heap.objs.size=some o->C0 tp h s.heap.objs.size l 0)->(s.heap.push o).get? s.heap.objs.size=some o->Q (.ref s.heap.objs.size) {s with heap:=s.heap.push o}):wpAny (model prog w) A (pyIter (.ref l)) Q E s:=by
 cases tp
 .exact acH hl (k _ (λh g=>#[_,g,rfl,rfl]) (aag _ rfl))
 .exact aeq hl (k _ (λh g=>#[_,g,rfl,rfl]) (aag _ rfl))
def vq(a f d:Value):argsOk "min" {pos:=[a],kw:=[(aaE "key",f),(aaE "default",d)]}:=rfl
def vp(l f d:Value):adx.«min» #[[l],[(aaE "key",f),(aaE "default",d)]]=(do
  let it <- pyIter l;let b <- newList []
  again (Code.builtin "min.loop" #[[it,f,b],[(aaE "default",d)]])):=by rfl
def xK{kw Wx:Aar}{Q:Aab}(ha:argsOk "min" #[[.ref l],kw])
  (hb:adx.«min» #[[.ref l],kw]=(do
   let it <- pyIter (.ref l);let b <- newList []
   again (Code.builtin "min.loop" #[[it,.ref q,b],Wx]))) (hl:GC tp s.heap l vs)
  (k:∀(it b:Addr) (h:Heap),b≠it->s.heap.objs.size<=it->s.heap.objs.size<=b->(∀c o,s.heap.get? c=some o->h.get? c=some o)->C0 tp h it l 0->h.get? b=some (seqObj "list" #v[] 0) ->
   acS (model prog w) A (.builtin "min.loop" #[[.ref it,.ref q,.ref b],Wx]) (λr s'=>match r with|.ok (.ret v)=>Q v s'|.ok _=>False|.error e=>E e s') {s with heap:=h}) :
  wpAny (model prog w) A (call (.builtin "min") [.ref l] kw) Q E s:=by
 refine kmb_tree PySem.F.kind_min PySem.F.plain_min PySem.F.entry_min ha ?_;rw[hb];refine aaa (wT hl λo mi go=>aaa (acI ?_ (aba _)));refine aae #[acK ab6 _,?_];exact k _ _ _ #[0] (aaj _) #[0] (λc o g=>aad _ (aad _ g)) (mi _ (aad _ go)) (aag _ rfl)
variable{ad:Aaj}
def zy{d:Value}{Q:Aab}(hA:A.in1.handled=none)(hu:A.in1.units<cLine)(hl:GC tp s.heap l vs)
  (l1:ad.length=vs.length) (l2:ks.length=vs.length) (nd:(ks.map (·.2)).Nodup) (hp:∀i,i<vs.length->Ci s.heap (ad.getD i 0) (ks.getD i (0,#[#v[]])))
  (turn:∀i,i<vs.length->iB prog w A.in1 s (.ref q) (λ_=>True) (vs.getD i .none) (ad.getD i 0))
  (h:∀v h' tk,((vs.length=0/\v=d)\/∃i,HS ks vs.length i/\v=vs.getD i .none)->(∀c o,s.heap.get? c=some o->h'.get? c=some o)->Q v {s with heap:=h',toks:=tk}) :
  wpAny (model prog w) A (call (.builtin "min") [.ref l] [(aaE "key",.ref q),(aaE "default",d)]) Q E s:=by
 refine xK (vq _ _ _) (vp _ _ _) hl λit b h0 NT zi zb old hi hb=>?_;have lt:∀c o,s.heap.get? c=some o->c≠it/\c≠b:=λc o g=>by have:=aah g;exact#[aas (aaz this zi),aas (aaz this zb)]
 refine xJ (Pv:=λj v=>v=vs.getD j .none)
  (λz L=>∃h' tk,z={s with heap:=h',toks:=tk}/\(∀c o,s.heap.get? c=some o->h'.get? c=some o)/\∀p∈L,Ci s.heap p.1 p.2)
  l2 nd hA hu NT (.inr rfl) ?_ ?_ ?_ ?_ ?_ vs.length 0 _ [] (rfl) (aba _) #[h0,s.toks,rfl,old,λ_ hp=>nomatch hp] hi (.inl #[rfl,0,hb])
 .rintro _ L ⟨h',tk,rfl,kk,_⟩;exact#[vs,rfl,hl.keep λo e=>kk _ o e,λ_ _=>rfl]
 .rintro _ L ⟨h',tk,rfl,kk,hL⟩ p LX;exact(hL p LX).mono λo g=>kk _ o g
 .rintro _ L h2 ⟨h',tk,rfl,kk,hL⟩ k2;exact#[h2,tk,rfl,λc o e=>k2 c o (lt c o e).1 (lt c o e).2 (kk c o e),hL]
 .rintro j v _ L oi ob hj rfl ⟨h',tk,rfl,kk,hL⟩ gi _ gb _;refine aay (turn j hj h' tk λc o _ e=>kk c o e) (λr z hz=>?_) λ_ _ f=>f;obtain⟨rfl,h2,TJ,rfl,g2⟩:=hz;refine#[_,rfl,#[h2,TJ,rfl,λc o e=>g2 _ _ (kk c o e),λp LX=>?_],g2 _ _ gi,g2 _ _ gb];rcases List.mem_cons.mp LX with rfl|LX
  .exact hp j hj
  .exact hL p LX
 .rintro v _ L ⟨h',tk,rfl,kk,_⟩ hv;exact h v h' tk hv kk
variable{X:Cx}{k:Nat}{f:Addr}{fd:abM}{ps:Aaa}{sp:Sp}
def GW(tp:Bool)(K:aaf)(H:Hp)(l:Addr)(xs:Aai):Prop:=if tp=true then C3 K H l xs else CN K H l xs
variable{pins:Aac}{U:St}{H:Hp}{xs:Aai}
def dh(I:Inv X pins U H s)(h:GW tp X.K H l xs):∃gE,AS xs gE/\GC tp s.heap l gE:=by
 cases tp
 .obtain⟨gE,rv,pl,_⟩:=I.list (h);exact#[gE,rv,pl.isList]
 .obtain⟨gE,rv,tp,_⟩:=I.tuple (h);exact#[gE,rv,tp]
variable{K:aaf}
def wS{H1 H2:Hp}{P:Addr}{ps:Aam}(eP:H1 P=some (CJ P ps))(keep:∀b o,H1 b=some o->b≠P->H2 b=some o)(h:GW tp K H1 l xs):GW tp K H2 l xs:=by
 cases tp
 .rcases(h)with (h|⟨o,h⟩)|h
  .exact .inl (.inl (keep _ _ h λz=>by rw[z,eP]at h;cases h))
  .exact .inl (.inr #[o,keep _ _ h λz=>by rw[z,eP]at h;cases h])
  .exact .inr h
 .exact ig eP keep (h)
def MF(tp:Bool)(X:Cx)(lq d:Str)(Bx:Pos)(P:Addr)(params:Arguments)(body:Expr)(scope:Scope)(i:Nat)(U:St)(Q:VK):VK:=λv H1=>∃(l:Addr) (ss:Aaa) (dd:Addr) (eQ:List (Key×V)) (ad:Aaj) (ks:List (Int×Str)),
 v=.ref l/\GW tp X.K H1 l (ss.map V.str)/\ss.length<64/\U[i]?=some (some (.ref dd))/\H1 dd=some (.dK eQ)/\ad.length=ss.length/\ks.length=ss.length/\(ks.map (·.2)).Nodup /\
 (∀j,j<ss.length->Cz eQ (aaU (ss.getD j #[#v[]]))=some (.ref (ad.getD j 0))/\C3 X.K H1 (ad.getD j 0) [.int (ks.getD j k0).1,.str (ks.getD j k0).2]) /\
 Jp X lq d Bx P params body scope U H1 λ_ H2=>(ss.length=0->Q .Bw H2)/\∀m,HS ks ss.length m->Q (.str (ss.getD m #[#v[]])) H2
def Ql(tp:Bool)(X:Cx)(lq d:Str)(Bx:Pos)(P:Addr)(params:Arguments)(body:Expr)(scope:Scope)(i:Nat)(te:TE):TE:=λU H Q=>te U H (MF tp X lq d Bx P params body scope i U Q)
variable{lq d x:Str}{Bx p p1 p2 p3 p4 DS E8 pos:Pos}{P c:Addr}{params:Arguments}{scope:Scope}{e:Expr}{te:TE}{i:Nat}{kd:Nat}
theorem xb(S:Gb x d params scope)(S2:Gc d params scope)(hr:BS k X.A)(Vd:X.calm=true)(hg:Gl X "min")(hm:X.mg "min" = none)(hq:X.env.qual ++ "<lambda>" = lq)(Ed:X.env.code=.ref c)(hC:abq X.K c P=true)(hB:BMain X.mg X.base)
  (hi:X.N[i]?=some d) (hd:X.env.kindOf d=some .cell) (hv:Hq X.env.scope d) (he:PE X e te)
  (hs:autoParam (aai [e] X.env=(false,eval e X.env)::aai [] X.env) oR)
  (h1:autoParam (backTo pos (aai [e] X.env)=(false,eval e X.env)::backTo pos (aai [] X.env)) oR) (h2:autoParam ((backTo pos (aai [e] X.env)).any (·.1)=false) oR) :
  PE X (.Call (.Name "min" p) [e] [#[some "key",.Lambda params (.Subscript (.Name d p1) (.Name x p2) p3) scope Bx,DS],#[some "default",.Constant .none kd p4,E8]] pos) (Ql tp X lq d Bx P params (.Subscript (.Name d p1) (.Name x p2) p3) scope i te):=by
 intro pins s U H Q I h;refine acB (bV I hg hm boot_min ?_);refine callWith_kw (BZ ((aD he aN hs) pos pins s U H (λvs H1=>match vs with|[v]=>MF tp X lq d Bx P params (.Subscript (.Name d p1) (.Name x p2) p3) scope i U Q v H1|_=>False) I h) λus s1 #[vs,H1,I1,r1,q1]=>?_) h1 h2;dsimp only at q1;split at q1;case h_2=>exact q1.elim
 obtain⟨l,ss,dd,eQ,ad,ks,rfl,hl,EJ,hh,JG,l1,l2,nd,hk,hL⟩:=q1;obtain⟨u,rfl,ru⟩:=r1.one;cases ru;obtain⟨ps,eP,hL⟩:=hL;have VA:dd≠P:=λz=>by rw[z,eP]at JG;cases JG
 have lam:Jp X lq d Bx P params (.Subscript (.Name d p1) (.Name x p2) p3) scope U H1 λfv H2=>∃f c' ob,fv=.ref f/\H2 f=some (Fk f ob)/\GX X lq d params (.Subscript (.Name d p1) (.Name x p2) p3) scope c' ob/\H2 c'=some (CW c' lq)/\(∀b o,H1 b=some o->b≠P->H2 b=some o) /\
   ((ss.length=0->Q .Bw H2)/\∀m,HS ks ss.length m->Q (.str (ss.getD m #[#v[]])) H2):=by
  refine#[ps,eP,hL.1,?_];rcases hL.2 with ⟨g1,g2⟩|⟨c',g1,g2,g3⟩
  .refine .inl #[g1,λc' f ob a1 a2 a3 a4 a5 a6=>#[f,c',ob,rfl,ah,a6,?_,λb o hb hP=>?_,g2 c' f ob a1 a2 a3 a4 a5 a6]]
   .rw[af a3,ah]
   .rw[af (ao hb a2),af (ao hb a1),af hP];exact hb
  .refine .inr #[c',g1,g2,λf ob a1 a2=>#[f,c',ob,rfl,ah,a2,?_,λb o hb _=>?_,g3 f ob a1 a2]]
   .rw[af (ao g2 a1)];exact g2
   .rw[af (ao hb a1)];exact hb
 refine BZ ((lh (sK S2 hq Ed hC hB hd) (lh sJ sB)) pos pins s1 U H1 (λvs H2=>match vs with|[fv,dv]=>dv=.Bw/\∃f c' ob,fv=.ref f/\H2 f=some (Fk f ob)/\GX X lq d params (.Subscript (.Name d p1) (.Name x p2) p3) scope c' ob/\H2 c'=some (CW c' lq)/\(∀b o,H1 b=some o->b≠P->H2 b=some o)/\((ss.length=0->Q .Bw H2)/\∀m,HS ks ss.length m->Q (.str (ss.getD m #[#v[]])) H2)|_=>False) I1 ?_) λws s2 #[zs,H2,I2,rz,q2]=>?_
 .obtain⟨NR,e1,e2,e3⟩:=lam;refine#[NR,e1,e2,?_];rcases e3 with ⟨g1,g2⟩|⟨c',g1,g2,g3⟩
  .exact .inl #[g1,λc' f ob a1 a2 a3 a4 a5 a6=>#[rfl,g2 c' f ob a1 a2 a3 a4 a5 a6]]
  .exact .inr #[c',g1,g2,λf ob a1 a2=>#[rfl,g3 f ob a1 a2]]
 dsimp only at q2;split at q2;case h_2=>exact q2.elim
 obtain⟨rfl,f,c',ob,rfl,ef,⟨cell,Mc,Dk,rfl⟩,ec,keep,Zm,hQ⟩:=q2;obtain⟨u,u2,rfl,ru,X2⟩:=rz.two;cases ru;cases X2;obtain⟨gE,rv,YC⟩:=dh I2 (wS eP keep hl);have hlen:gE.length=ss.length:=by have:=rv.length;rw[aac]at this;exact this.symm
 have SV:∀j,j<ss.length->∃t,gE.getD j abb=.str (ss.getD j #[#v[]]) t:=λj hj=>by obtain⟨u,hu,ru⟩:=rv.get (i:=j) (show (ss.map V.str)[j]?=some (.str (ss.getD j #[#v[]]))by rw[aal,aab hj,aaq,aab hj];rfl);obtain⟨t,rfl⟩:=ru;exact#[t,by rw[aaq,hu];rfl]
 have cellAt:s2.heap.IsCell cell (some (.ref dd)):=by
  obtain⟨m,_,N9⟩:=I2.loc;obtain⟨u,ru,lk⟩:=N9 i d _ hi hh hv;cases ru;rcases lk with ⟨y,_⟩|⟨_,c2,y1,y2⟩
  .rw[hd]at y;cases y
  .rw[Dk]at y1;cases y1;exact y2
 have lim:s2.heap.NoLimit:=I2.mod.nolimit.keeps I2.bk;refine zy (d:=.none) (vs:=gE) (ad:=ad) (ks:=ks) (I2.ok.hd Vd) (by have:=hr.un;show X.A.units+1<cLine;omega) YC #[] #[] nd (λj hj=>?_) (λj hj h tk kk=>?_) λv h' tk hv kk=>?_
 .obtain⟨CQ,Lj,Qg,_⟩:=I2.tuple (ig eP keep (hk j #[]).2);exact ik Lj Qg
 .obtain⟨t,et⟩:=SV j #[];rw[et];have Jx  := λb o g=>kk b o trivial g;have I3:Inv X pins U H2 {s2 with heap:=h,toks:=tk}:=I2.kept Jx;refine om S I3 ?_ (Jx _ _ (I2.Bv f _ ef).1) ?_ (lim.keeps Jx) ?_ (keep _ _ JG VA) (hk j #[]).1
  .have:=hr.dp;show X.A.depth<recursionLimit;omega
  .exact(I2.Bv c' _ ec).2.2 _ _ (I2.Bv c' _ ec).1 λo g=>Jx _ _ g
  .obtain⟨o,y,r⟩:=cellAt;exact#[o,Jx _ _ y,r]
 .rcases hv with ⟨e0,rfl⟩|⟨m,mx,rfl⟩
  .exact#[.Bw,H2,I2.kept kk,rfl,Zm #[]]
  .rw[hlen]at mx;obtain⟨t,et⟩:=SV m mx.1;rw[et];exact#[.str _,H2,I2.kept kk,#[t,rfl],hQ m mx]
end L2
namespace Q
open PySem L2 PyProof.Rows PySem.W
noncomputable def Js:PV->Option (Bool×Aad)
 |.tup ys=>some (true,ys)
 |.lst ys=>some (false,ys)
 |_=>none
noncomputable def IM(j i:Nat)(lq:Str)(ln co:Nat)(T:Addr)(tp:Bool)(f:WE):WE:=λenv P=>f env λx e=>match Js x,e[i]?,e[j]? with
 |some (b,ys),some (some #[0,.Cd eQ]),some (some #[2,c])=>b=tp/\∃(ss:Aaa) (ks:List (Int×Str)),So lq ln co T c ys eQ ss ks/\(ss.length=0->P .Bw e)/\∀m,HS ks ss.length m->P (.str (ss.getD m #[#v[]])) e
 |_,_,_=>False
variable{X:Cx}{lq d x:Str}{Bx p p1 p2 p3 p4 DS E8 pos:Pos}{T c:Addr}{params:Arguments}{scope:Scope}{e:Expr}{f:WE}{i j k:Nat}{ob:Ct}{kd:Nat}
def vR(j i:Nat)(tp:Bool)(S:Gb x d params scope)(S2:Gc d params scope)(hr:BS k X.A)(Vd:X.calm=true)(hg:Gl X "min")(hm:X.mg "min" = none)(hq:X.env.qual ++ "<lambda>" = lq)(Ed:X.env.code=.ref c)(hC:abq X.K c T=true)(hB:BMain X.mg X.base)
  (hi:X.N[i]?=some d) (hd:X.env.kindOf d=some .cell) (hv:Hq X.env.scope d) (ha:BH ob X e f) (JA:autoParam (ob=DE X.K) oR)
  (hs:autoParam (aai [e] X.env=(false,eval e X.env)::aai [] X.env) oR)
  (h1:autoParam (backTo pos (aai [e] X.env)=(false,eval e X.env)::backTo pos (aai [] X.env)) oR) (h2:autoParam ((backTo pos (aai [e] X.env)).any (·.1)=false) oR) :
  BH ob X (.Call (.Name "min" p) [e] [#[some "key",.Lambda params (.Subscript (.Name d p1) (.Name x p2) p3) scope Bx,DS],#[some "default",.Constant .none kd p4,E8]] pos) (IM j i lq Bx.line Bx.col T tp f):=by
 subst JA;obtain⟨te,UH,Uu⟩:=ha.ex;refine#[_,xb (tp:=tp) (i:=i) S S2 hr Vd hg hm hq Ed hC hB hi hd hv UH hs h1 h2,λZ F U H env Pp Q K hf kk=>?_];refine Uu Z F U H env _ _ K hf λy e1 v F1 H1 p s1 K1 r1=>?_;split at p;case h_2=>exact p.elim
 rename_i b ys eQ cc N5 ei ej;obtain⟨Zf,ss,ks,⟨hc,S1,EJ,l2,nd,Iv⟩,pn,pm⟩:=p;obtain⟨a,rfl,hl⟩:∃a,v=.ref a/\GW tp X.K H1 a (ss.map V.str):=by
  rw[<- Zf];cases r1 with
  |tup hl LU=>cases N5;have:=bj cT S1 LU;subst this;exact#[_,rfl,au K1.sF hl]
  |lst hl LU=>cases N5;have:=bj cT S1 LU;subst this;exact#[_,rfl,.inl (.inl (K1.sF _ _ hl))]
  |_=>cases N5
 obtain⟨dd,Ib,ad,hh,JG,l1,hk⟩:=qk K1 ei Iv;exact#[_,ss,dd,Ib,ad,ks,rfl,hl,EJ,hh,JG,l1,l2,nd,hk,pF K1 ej hc λH2 K2=>#[λz=>kk _ e1 _ F1 _ (pn z) s1 K2 .Bw,λm mx=>kk _ e1 _ F1 _ (pm m mx) s1 K2 (.str _)]]
variable{fa:Addr}{fd:abM}{ps:Aaa}{D:Fd}
end Q
namespace L2
open PySem PySem.Spec PyProof.Rows
def D9(tp:Bool)(h:Heap)(l:Addr)(gE:Aam):Prop:=if tp=true then h.IsTuple l gE else h.IsList l gE
variable{prog:aaD}{w:World}{A:Around}{E:Aab}{s:Shared}
variable{tp:Bool}{j t:Addr}{n:Nat}{gE:Aam}{x:Value}{Q:Aab}
def Km(gj:C0 tp s.heap j t n)(gt:D9 tp s.heap t gE)(gx:gE[n]?=some x)
  (k:∀h',C0 tp h' j t (n+1)->abV j s.heap h'->Q x {s with heap:=h'}):wpAny (model prog w) A (aaT (.ref j)) Q E s:=by
 cases tp
 .exact xH gj gt gx k
 .exact xG gj gt gx k
def RZ(hh:A.handled=none)(gj:C0 tp s.heap j t n)(gt:D9 tp s.heap t gE)(gx:gE[n]?=none)
  (k:∀h' e,adZ j s.heap h'->(∃o,h'.get? e=some o/\o.cls=.type "StopIteration")->E (.ref e) {s with heap:=h'}):wpAny (model prog w) A (aaT (.ref j)) Q E s:=by
 cases tp
 .exact OD hh gj gt gx k
 .exact OB hh gj gt gx k
structure JL(f1 f2:Bool)(h:Heap)(z u o i1 i2 t1 t2:Addr)(n:Nat):Prop where
 zz:IsZip h z u o .none
 uu:IsPair h u (.ref i1) (.ref i2)
 oo:∃a b,IsPair h o a b
 a1:C0 f1 h i1 t1 n
 a2:C0 f2 h i2 t2 n
variable{h h':Heap}{a:Addr}
def D9.at(x:D9 tp h a gE)(k:∀o,h.get? a=some o->h'.get? a=some o):D9 tp h' a gE:=by
 cases tp
 .exact GJ (x) k
 .exact Qf (x) k
def aU(x:C0 tp h a t n)(k:∀o,h.get? a=some o->h'.get? a=some o):C0 tp h' a t n:=by obtain⟨o,e,_,_,_,m⟩:=x.at;exact m h' (k o e)
variable{z u o:Addr}{v:Value}
def cS(x:D9 tp h t gE)(y:IsZip h z u o v):t≠z:=by
 cases tp
 .exact rg (x) y
 .exact qJ (x) y
variable{b:Addr}
def jV{tq:Bool}(x:D9 tp h t gE)(y:C0 tq h j b n):t≠j:=by
 rintro rfl;obtain⟨o,e,_,c1,c2,_⟩:=y.at;cases tp
 .obtain⟨q,e',c,_⟩:=(x)
  rw[e]at e';cases e';rw[c]at c2;simp at c2
 .obtain⟨q,e',c,_⟩:=(x)
  rw[e]at e';cases e';rw[c]at c1;simp at c1
variable{f1 f2:Bool}{i1 i2 t1 t2:Addr}{xs ys:Aam}
def rS{y:Value}{Q:Aao}(D:Mi z u o i1 i2)(Z:JL f1 f2 s.heap z u o i1 i2 t1 t2 n)(Lo:t1≠o)(Jh:t2≠o)
  (g1:D9 f1 s.heap t1 xs) (g2:D9 f2 s.heap t2 ys) (e1:xs[n]?=some x) (e2:ys[n]?=some y)
  (k:∀h',IsZip h' z u o (rawInt s.heap.objs.size)->IsPair h' u (.ref i1) (.ref i2)->IsPair h' o x y->C0 f1 h' i1 t1 (n+1)->C0 f2 h' i2 t2 (n+1)->IsPair h' s.heap.objs.size x y->h'.objs.size=s.heap.objs.size+1 ->
   (∀c q,c∉[z,o,i1,i2]->s.heap.get? c=some q->h'.get? c=some q)->Q (some (.ref s.heap.objs.size)) {s with heap:=h'}) :
  wpAny (model prog w) A (pyNext (.ref z)) Q E s:=by
 obtain⟨zz,uu,⟨a,b,oo⟩,a1,a2⟩:=Z;have z1:=cS g1 zz;have z2:=cS g2 zz;have Jz:s.TypeIs (.ref z) "zip" := #[_,zz,rfl]
 unfold pyNext;refine aaa (aes (abp (name:=aaE "__next__") Jz aed (aa2 aed Jz F.entry_zip_next ?_ (F.args_zip_next_1 _))));refine aaa (m:=field (.ref z) 2) (abz zz rfl (x:=.bool false) rfl ?_);refine aaa (m:=field (.ref z) 3) (abz zz rfl (x:=.ref u) rfl ?_);refine aaa (abm uu rfl ?_);refine aaa (m:=ab5 (.ref z)) ?_;unfold ab5;refine aaa (abz zz rfl (x:=.none) rfl (aae ?_));simp only[if_true];refine aaa (acs (aaa (abz zz rfl (x:=.ref o) rfl (aaa (acA zz #[0] λUP q1 k1=>?_)))));replace q1:IsZip UP z u o .ellipsis:=q1;refine aaa ?_;simp only[List.zipIdx_cons,List.zipIdx_nil,afv,List.forIn_nil];refine aaa (aaa (aer ?_));refine aaa (m:=aaT (.ref i1)) (Km (aU a1 λq e=>k1.extBut _ _ D.x1z e) (D9.at g1 λq e=>k1.extBut _ _ z1 e) e1 λIz q2 k2=>aae ?_);have r2:IsPair Iz o a b:=k2.extBut _ _ D.o1 (k1.extBut _ _ D.oz oo);refine aaa (abm r2 rfl (aaa (aeh r2 λS8 q3 k3=>?_)));replace q3:IsPair S8 o x b:=q3;refine aaa (ac6 (aae (aaa (aaa (aer ?_)))));refine aaa (m:=aaT (.ref i2)) (Km (aU a2 λq e=>k3.extBut _ _ D.o2.symm (k2.extBut _ _ D.xx.symm (k1.extBut _ _ D.x2z e)))
  (D9.at g2 λq e=>k3.extBut _ _ Jh (k2.extBut _ _ (jV g2 a1) (k1.extBut _ _ z2 e))) e2 λUO q4 k4=>aae ?_)
 have r4:IsPair UO o x b:=k4.extBut _ _ D.o2 q3;refine aaa (abm r4 rfl (aaa (aeh r4 λIy q5 k5=>?_)));replace q5:IsPair Iy o x y:=q5;refine aaa (ac6 (aae (aae ?_)));refine aaa (abm q5 rfl (aaa (afC ?_)));have sz:Iy.objs.size=s.heap.objs.size:=by rw[k5.1,k4.1,k3.1,k2.1,k1.1]
 have VD:∀c q,c≠z->c≠o->c≠i1->c≠i2->s.heap.get? c=some q->Iy.get? c=some q:=λc q c1 c2 c3 c4 e=>k5.extBut _ _ c2 (k4.extBut _ _ c4 (k3.extBut _ _ c2 (k2.extBut _ _ c3 (k1.extBut _ _ c1 e))));have z5:IsZip Iy z u o .ellipsis:=k5.extBut _ _ D.oz.symm (k4.extBut _ _ D.x2z.symm (k3.extBut _ _ D.oz.symm (k2.extBut _ _ D.x1z.symm q1)));have b1:C0 f1 Iy i1 t1 (n+1):=aU q2 λq e=>k5.extBut _ _ D.o1.symm (k4.extBut _ _ D.xx (k3.extBut _ _ D.o1.symm e));have b2:C0 f2 Iy i2 t2 (n+1):=aU q4 λq e=>k5.extBut _ _ D.o2.symm e;refine aaa (m:=aem (.ref z) (.ref Iy.objs.size)) ?_;unfold aem;have z6:IsZip (Iy.push {cls:=.type "tuple",data:=.seq #v[x,y]}) z u o .ellipsis:=aad _ z5;refine aaa (acA z6 #[0] λhq7 q7 k7=>?_);refine acA q7 #[0] λS7 q8 k8=>?_;have up:∀c q,c≠z->Iy.get? c=some q->S7.get? c=some q:=λc q c1 e=>k8.extBut _ _ c1 (k7.extBut _ _ c1 (aad _ e));have V5:Iy.objs.size≠z:=abL (aah z5);have QY:IsPair S7 Iy.objs.size x y:=k8.extBut _ _ V5 (k7.extBut _ _ V5 (aag _ rfl));have s8:S7.objs.size=Iy.objs.size+1:=by rw[k8.1,k7.1,abn]
 rw[sz]at q8 QY s8;refine aae #[_,rfl,aae ?_];show Q (some (.ref Iy.objs.size)) _;rw[sz];exact k S7 q8 (up _ _ D.uz (VD _ _ D.uz D.uo D.u1 D.u2 uu)) (up _ _ D.oz q5) (aU b1 λq e=>up _ _ D.x1z e) (aU b2 λq e=>up _ _ D.x2z e) QY s8 λc q hc e=>#[1]
def uC{Q:Aao}(hh:A.handled=none)(D:Mi z u o i1 i2)(Z:JL f1 f2 s.heap z u o i1 i2 t1 t2 n)(Lo:t1≠o)(Jh:t2≠o)
  (g1:D9 f1 s.heap t1 xs) (g2:D9 f2 s.heap t2 ys) (e:xs[n]?=none\/ys[n]?=none)
  (k:∀h',(∀c q,c∉[z,o,i1,i2]->s.heap.get? c=some q->h'.get? c=some q)->Q none {s with heap:=h'}) :
  wpAny (model prog w) A (pyNext (.ref z)) Q E s:=by
 obtain⟨zz,uu,⟨a,b,oo⟩,a1,a2⟩:=Z;have z1:=cS g1 zz;have z2:=cS g2 zz;have Jz:s.TypeIs (.ref z) "zip" := #[_,zz,rfl]
 unfold pyNext;have fin:∀(h':Heap) (x:Addr),(∀c q,c∉[z,o,i1,i2]->s.heap.get? c=some q->h'.get? c=some q)->(∃q,h'.get? x=some q/\q.cls=.type "StopIteration") ->
   wpAny (model prog w) A (do if (<- isInstance (.ref x) (.type "StopIteration"))then pure none else throw (.ref x)) Q E {s with heap:=h'}:=λh' x kk #[q,hq,hc]=>
  aaa (aeZ (T := "StopIteration") (b:=true) #[q,hq,hc] isSubtype_stop (aae (k _ kk)))
 refine aaa (aes (abp (name:=aaE "__next__") Jz aed (aa2 aed Jz F.entry_zip_next ?_ (F.args_zip_next_1 _))));refine aaa (m:=field (.ref z) 2) (abz zz rfl (x:=.bool false) rfl ?_);refine aaa (m:=field (.ref z) 3) (abz zz rfl (x:=.ref u) rfl ?_);refine aaa (abm uu rfl ?_);refine aaa (m:=ab5 (.ref z)) ?_;unfold ab5;refine aaa (abz zz rfl (x:=.none) rfl (aae ?_));simp only[if_true];refine aaa (acs (aaa (abz zz rfl (x:=.ref o) rfl (aaa (acA zz #[0] λUP q1 k1=>?_)))));replace q1:IsZip UP z u o .ellipsis:=q1;refine aaa ?_;simp only[List.zipIdx_cons,List.zipIdx_nil,afv,List.forIn_nil];refine aaa (aaa (aer ?_));cases e1:xs[n]? with
 |none=>
  refine aaa (m:=aaT (.ref i1)) (RZ hh (aU a1 λq e=>k1.extBut _ _ D.x1z e) (D9.at g1 λq e=>k1.extBut _ _ z1 e) e1 λIz x k2 #[ox,x1,x2]=>?_);have q2:IsZip Iz z u o .ellipsis:=k2 _ _ D.x1z.symm q1;have xz:x≠z:=λq=>by simp_all
  refine acA q2 #[0] λS8 _ k3=>fin S8 x (λc q hc e=>?_) #[ox,k3.extBut _ _ xz x1,x2];simp only[abf,abA,or_false,not_or]at hc;exact k3.extBut _ _ hc.1 (k2 _ _ hc.2.2.1 (k1.extBut _ _ hc.1 e))
 |some x0=>
  have e2:ys[n]?=none:=by simp_all
  refine aaa (m:=aaT (.ref i1)) (Km (aU a1 λq e=>k1.extBut _ _ D.x1z e) (D9.at g1 λq e=>k1.extBut _ _ z1 e) e1 λIz q2 k2=>aae ?_);have r2:IsPair Iz o a b:=k2.extBut _ _ D.o1 (k1.extBut _ _ D.oz oo);refine aaa (abm r2 rfl (aaa (aeh r2 λS8 q3 k3=>?_)));refine aaa (ac6 (aae (aaa (aaa (aer ?_)))));refine aaa (m:=aaT (.ref i2)) (RZ hh (aU a2 λq e=>k3.extBut _ _ D.o2.symm (k2.extBut _ _ D.xx.symm (k1.extBut _ _ D.x2z e)))
   (D9.at g2 λq e=>k3.extBut _ _ Jh (k2.extBut _ _ (jV g2 a1) (k1.extBut _ _ z2 e))) e2 λUO x k4 #[ox,x1,x2]=>?_)
  have q4:IsZip UO z u o .ellipsis:=k4 _ _ D.x2z.symm (k3.extBut _ _ D.oz.symm (k2.extBut _ _ D.x1z.symm q1));have xz:x≠z:=λq=>by simp_all
  refine acA q4 #[0] λIy _ k5=>fin Iy x (λc q hc e=>?_) #[ox,k5.extBut _ _ xz x1,x2];simp only[abf,abA,or_false,not_or]at hc;exact k5.extBut _ _ hc.1 (k4 _ _ hc.2.2.2 (k3.extBut _ _ hc.2.1 (k2.extBut _ _ hc.2.2.1 (k1.extBut _ _ hc.1 e))))
noncomputable def Kq(tp:Bool)(t:Addr):Obj:={cls:=.type (if tp=true then "tuple_iterator" else "list_iterator"),data:=.fields #v[.ref t,.int 0 0]}
def qo(e:h.get? a=some (Kq tp t)):C0 tp h a t 0:=by
 cases tp
 .exact#[_,e,rfl,rfl]
 .exact#[_,e,rfl,rfl]
noncomputable abbrev SA(f1:Bool)(h:Heap)(t1:Addr):Heap:=h.push (Kq f1 t1)
noncomputable abbrev Sz(f1 f2:Bool)(h:Heap)(t1 t2:Addr):Heap:=(SA f1 h t1).push (Kq f2 t2)
noncomputable abbrev Sy(f1 f2:Bool)(h:Heap)(t1 t2:Addr):Heap:=(Sz f1 f2 h t1 t2).push {cls:=.type "tuple",data:=.seq #v[.ref h.objs.size,.ref (SA f1 h t1).objs.size]}
noncomputable abbrev Sx(f1 f2:Bool)(h:Heap)(t1 t2:Addr):Heap:=(Sy f1 f2 h t1 t2).push {cls:=.type "tuple",data:=.seq #v[.none,.none]}
noncomputable abbrev Ng(f1 f2:Bool)(h:Heap)(t1 t2:Addr):Heap:=(Sx f1 f2 h t1 t2).push {cls:=.type "zip",data:=.fields #v[.none,.bool false,.bool false,.ref (Sz f1 f2 h t1 t2).objs.size,.ref (Sy f1 f2 h t1 t2).objs.size]}
def mj(g:D9 tp s.heap t gE)(k:Q (.ref s.heap.objs.size) {s with heap:=s.heap.push (Kq tp t)}):wpAny (model prog w) A (pyIter (.ref t)) Q E s:=by
 cases tp
 .exact acH g k
 .exact aeq g k
def D9.push(g:D9 tp h t gE)(o:Obj):D9 tp (h.push o) t gE:=g.at λ_ e=>aad _ e
def vA(f1 f2:Bool)(t1 t2:Addr)(xs ys:Aam):Meets (adx.«zip.__new__» #[[.type "zip",.ref t1,.ref t2],[]])
  (λ_ R s=>D9 f1 s.heap t1 xs/\D9 f2 s.heap t2 ys/\R (.ok (.ret (.ref (Sx f1 f2 s.heap t1 t2).objs.size))) {s with heap:=Ng f1 f2 s.heap t1 t2}) :=
 .of_wp λprog w A R s q=>by
  obtain⟨hp,g,d,tk,os⟩:=s;obtain⟨g1,g2,q⟩:=q;have hs:=sub_zip;have m1  := g1;have m2:D9 f2 (Shared.heap #[hp.push (Kq f1 t1),g,d,tk,os]) t2 ys:=g2.push _
  wp_walk using mj m1,mj m2
  exact#[_,rfl,q]
def yM(g1:D9 f1 s.heap t1 xs)(g2:D9 f2 s.heap t2 ys)
  (k:∀h',JL f1 f2 h' (s.heap.objs.size+4) (s.heap.objs.size+2) (s.heap.objs.size+3) s.heap.objs.size (s.heap.objs.size+1) t1 t2 0->h'.objs.size=s.heap.objs.size+5->(∀c o,s.heap.get? c=some o->h'.get? c=some o)->Q (.ref (s.heap.objs.size+4)) {s with heap:=h'}) :
  wpAny (model prog w) A (call (.type "zip") [.ref t1,.ref t2]) Q E s:=by
 refine callType_new F.called_zip #[2] (F.typeCall_zip_2 _ _) (F.newCall_zip_2 _ _) (λobj=>F.args_object_init_3 obj _ _) F.entry_zip_new (vA f1 f2 t1 t2 xs ys) #[g1,g2,?_];have z1:(SA f1 s.heap t1).objs.size=s.heap.objs.size+1:=abn ..;have z2:(Sz f1 f2 s.heap t1 t2).objs.size=s.heap.objs.size+2:=by rw[abn,z1]
 have z3:(Sy f1 f2 s.heap t1 t2).objs.size=s.heap.objs.size+3:=by rw[abn,z2]
 have z4:(Sx f1 f2 s.heap t1 t2).objs.size=s.heap.objs.size+4:=by rw[abn,z3]
 have z5:(Ng f1 f2 s.heap t1 t2).objs.size=s.heap.objs.size+5:=by rw[abn,z4]
 have up:∀{h:Heap} {o o':Obj} {c:Addr},h.get? c=some o'->(h.push o).get? c=some o':=λe=>aad _ e;have y5:(Ng f1 f2 s.heap t1 t2).get? (Sx f1 f2 s.heap t1 t2).objs.size=some _:=aag _ rfl;have y4:(Ng f1 f2 s.heap t1 t2).get? (Sy f1 f2 s.heap t1 t2).objs.size=some _:=up (aag _ rfl);have y3:(Ng f1 f2 s.heap t1 t2).get? (Sz f1 f2 s.heap t1 t2).objs.size=some _:=up (up (aag _ rfl));have y2:(Ng f1 f2 s.heap t1 t2).get? (SA f1 s.heap t1).objs.size=some _:=up (up (up (aag _ rfl)));have y1:(Ng f1 f2 s.heap t1 t2).get? s.heap.objs.size=some _:=up (up (up (up (aag _ rfl))));show _/\_;rw[z2,z3,z4]at y5;rw[z1,z2]at y3;rw[z3]at y4;rw[z1]at y2;rw[z4];exact#[#[_,y5,rfl],k _ #[y5,y3,#[_,_,y4],qo y1,qo y2] z5 λc o e=>up (up (up (up (up e))))]
def D9.lt(g:D9 tp h t gE):t<h.objs.size:=by
 cases tp
 .obtain⟨o,e,_⟩:=(g)
  exact aah e
 .obtain⟨o,e,_⟩:=(g)
  exact aah e
variable{X:Cx}{pins:Aac}{U:St}{H:Hp}{l:Addr}
def pI{xs ys:Aai}(I:Inv X pins U H s)(h1:GW tp X.K H l xs)(h2:GW tp X.K H l ys):xs=ys:=by
 cases tp
 .exact I.EA h1 h2
 .exact I.D0 h1 h2
noncomputable def OM(f1 f2:Bool)(K:aaf)(a b:Addr):It :=
 #[λi H=>∃xs ys x y,GW f1 K H a xs/\GW f2 K H b ys/\xs[i]?=some x/\ys[i]?=some y,
  λi H v H'=>∃p x y,v=.ref p/\H p=none/\H'=upd H p (.tup [x,y])/\∀xs ys,GW f1 K H a xs->GW f2 K H b ys->xs[i]?=some x/\ys[i]?=some y,
  λi H=>∃xs ys,GW f1 K H a xs/\GW f2 K H b ys/\(xs.length<=i\/ys.length<=i)]
def rR(Z:JL f1 f2 h z u o i1 i2 t1 t2 n)(k:∀b∈[z,u,o,i1,i2],∀q,h.get? b=some q->h'.get? b=some q):JL f1 f2 h' z u o i1 i2 t1 t2 n:=by obtain⟨zz,uu,⟨a,b,oo⟩,a1,a2⟩:=Z;exact#[k z #[0] _ zz,k u #[0] _ uu,#[a,b,k o #[0] _ oo],aU a1 λq e=>k i1 #[0] q e,aU a2 λq e=>k i2 #[0] q e]
variable{P:aaD}{K:aaf}{elts:Aak}{pos:Pos}
theorem rZ{x1:_}(a b z u o i1 i2:Addr)(D:Mi z u o i1 i2)(Lo:a≠o)(Jh:b≠o):
  Turn P w K (.Tuple elts x1 pos) (OM f1 f2 K a b) [z,u,o,i1,i2] z (λn h=>JL f1 f2 h z u o i1 i2 a b n) where
 mem:=by simp
 obj:=λn h Z c hc=>by
  obtain⟨zz,uu,⟨p,q,oo⟩,z1,z2⟩:=Z;obtain⟨o1,e1,d1,_⟩:=z1.at;obtain⟨o2,e2,d2,_⟩:=z2.at;simp only[abf,abA,or_false]at hc;rcases hc with rfl|rfl|rfl|rfl|rfl
  .exact#[_,zz,λv e=>(by cases (show Data.fields _=afy v from e))]
  .exact#[_,uu,λv e=>(by cases (show Data.seq _ _=afy v from e))]
  .exact#[_,oo,λv e=>(by cases (show Data.seq _ _=afy v from e))]
  .exact#[_,e1,d1]
  .exact#[_,e2,d2]
 keep:=λn h h' Z k=>rR Z k
 item:=by
  intro X hP hw hK hc n pins s U H E I hf Z hg;subst hP hw hK;obtain⟨xs,ys,x,y,hx,hy,ex,ey⟩:=hg;obtain⟨Ri,SI,p1⟩:=dh I hx;obtain⟨Rh,Lj,p2⟩:=dh I hy;obtain⟨v1,e1,r1⟩:=SI.get ex;obtain⟨v2,e2,r2⟩:=Lj.get ey;have Fb:H s.heap.objs.size=none:=I.Bv.fresh (aaj _);refine rS D Z Lo Jh (show D9 f1 s.heap a Ri.toArray from p1) (show D9 f2 s.heap b Rh.toArray from p2) (x:=v1) (y:=v2) (by simpa using e1) (by simpa using e2) λh' q1 q2 q3 q4 q5 q6 q7 kk=>?_;refine#[_,rfl,wpAny_letOwnedTupleGo_zip (s:={s with heap:=h'}) q1 λh2 w1 w2=>?_];have old:∀c∈[z,u,o,i1,i2],c<s.heap.objs.size:=λc hc=>by
   obtain⟨zz,uu,⟨p,q,oo⟩,z1,z2⟩:=Z;obtain⟨o1,e1,d1,_⟩:=z1.at;obtain⟨o2,e2,d2,_⟩:=z2.at;simp only[abf,abA,or_false]at hc;rcases hc with rfl|rfl|rfl|rfl|rfl
   .exact aah zz
   .exact aah uu
   .exact aah oo
   .exact aah e1
   .exact aah e2
  have hnz:s.heap.objs.size≠z:=abL (old z #[0]);have I1:Inv X pins U (upd H s.heap.objs.size (.tup [x,y])) {s with heap:=s.heap.push {cls:=.type "tuple",data:=.seq #v[v1,v2]}} :=
   I.laid (t':=s.toks) (λb u e=>aad _ e) (aaj _) #[by show 2<=sizeLine;decide,[v1,v2],.cons r1 (.cons r2 .nil),#[_,aag _ rfl,rfl,_,rfl]]
  have Lu:∀c∈[z,u,o,i1,i2],Dz X pins (upd H s.heap.objs.size (.tup [x,y])) c:=λc hc=>#[by rw[af (aas (old c hc))];exact(hf c hc).1,(hf c hc).2]
  have I2:Inv X pins U (upd H s.heap.objs.size (.tup [x,y])) {s with heap:=h2}:=by
   refine I1.DZ (t':=s.toks) (h':=h2) (λc q hc e=>?_) Lu;have Tg:c≠z:=λe=>hc (by simp[e]);refine w2.extBut _ _ Tg ?_;by_cases JH:c=s.heap.objs.size
   .subst JH;have:(s.heap.push {cls:=.type "tuple",data:=.seq #v[v1,v2]}).get? s.heap.objs.size=some {cls:=.type "tuple",data:=.seq #v[v1,v2]}:=aag _ rfl;have e':some {cls:=.type "tuple",data:=.seq #v[v1,v2]}=some q:=this.symm.trans e;rw[<- e'];exact q6
   .refine kk c q (λz=>hc ?_) ?_
    .simp only[abf,abA,or_false]at z ⊢;rcases z with z|z|z|z
     .exact .inl z
     .exact .inr (.inr (.inl z))
     .exact .inr (.inr (.inr (.inl z)))
     .exact .inr (.inr (.inr (.inr z)))
    .exact(aeQ _ _ _ JH).symm.trans e
  refine#[.ref s.heap.objs.size,_,I2,rfl,#[_,x,y,rfl,Fb,rfl,λXC ys' g1 g2=>?_],?_,λc hc=>(Lu c hc).1]
  .rw[pI I g1 hx,pI I g2 hy];exact#[ex,ey]
  .exact#[w1,w2.extBut _ _ D.uz q2,#[_,_,w2.extBut _ _ D.oz q3],aU q4 λq e=>w2.extBut _ _ D.x1z e,aU q5 λq e=>w2.extBut _ _ D.x2z e]
 done:=by
  intro X hP hw hK hc n pins s U H E I hf Z hg;subst hP hw hK;obtain⟨xs,ys,hx,hy,hl⟩:=hg;obtain⟨Ri,SI,p1⟩:=dh I hx;obtain⟨Rh,Lj,p2⟩:=dh I hy;have l1:=SI.length;have l2:=Lj.length;refine uC (I.ok.hd hc) D Z Lo Jh (show D9 f1 s.heap a Ri.toArray from p1) (show D9 f2 s.heap b Rh.toArray from p2) ?_ λh' kk=>#[rfl,I.DZ (t':=s.toks) (λc q hc e=>kk c q (λz=>hc ?_) e) hf]
  .rcases hl with h|h
   .exact .inl #[3]
   .exact .inr #[3]
  .simp only[abf,abA,or_false]at z ⊢;rcases z with z|z|z|z
   .exact .inl z
   .exact .inr (.inr (.inl z))
   .exact .inr (.inr (.inr (.inl z)))
   .exact .inr (.inr (.inr (.inr z)))
 self:=λ_ _ _ _ _ Z h=>wpAny_pyIter_zip Z.zz h
def Ro(K:aaf)(ta:TA):TI:=λU H R=>ta U H λvs H1=>∃a b,∃f1 f2:Bool,vs=[.ref a,.ref b]/\(∃xs,GW f1 K H1 a xs)/\(∃ys,GW f2 K H1 b ys)/\R (OM f1 f2 K a b) H1
variable{EL p:Pos}{ta:TA}
def wY{x1:_}{a b:Expr}(hg:Gl X "zip")(hm:X.mg "zip" = none)(ha:PA X [a,b] ta)(hs:autoParam (aai [a,b] X.env=[(false,eval a X.env),(false,eval b X.env)]) oR)(Jf:autoParam (aai [b] X.env=[(false,eval b X.env)]) oR):
  PI X (.Tuple elts x1 EL) (.Call (.Name "zip" p) [a,b] [] pos) (Ro X.K ta):=by
 refine λpins s U H R I h=>Call_ (bV I hg hm boot_zip (acE (BZ (ha pos pins s U H _ I h) λus s1 #[vs,H1,I1,r1,q1]=>?_) #[1] (by rw[Jf];rfl)));obtain⟨c,d,f1,f2,e,⟨xs,hx⟩,⟨ys,hy⟩,q⟩:=q1;subst e;cases r1 with
 |cons ra rr=>
  cases rr with
  |cons rb rr=>
   cases rr;cases ra;cases rb;obtain⟨Ri,SI,p1⟩:=dh I1 hx;obtain⟨Rh,Lj,p2⟩:=dh I1 hy;have g1:D9 f1 s1.heap c Ri.toArray:=p1;have g2:D9 f2 s1.heap d Rh.toArray:=p2;have lc  := g1.lt;have ld  := g2.lt;refine yM g1 g2 λh' Z sz kk=>?_;have I2  := I1.kept (t':=s1.toks) kk;refine wpAny_pyIter_zip Z.zz #[_,_,_,_,H1,rfl,I2,rZ c d _ _ _ _ _ (Vq s1.heap.objs.size) (aas (aaz lc (ad0 _ _))) (aas (aaz ld (ad0 _ _))),Z,λb' hb=>?_,q];have ID:s1.heap.objs.size<=b':=by simp only[abf,abA,or_false]at hb;rcases hb with rfl|rfl|rfl|rfl|rfl;all_goals first|exact aaj _|exact ad0 _ _
   exact I1.HH ID (I1.Bv.fresh ID)
end L2
namespace Q
open PySem L2
variable{K:aaf}{F F':Hp}{a:Addr}{xs:Aai}
def bg{tp:Bool}(s:dO F F')(h:GW tp K F a xs):GW tp K F' a xs:=by
 cases tp
 .exact aZ s (h)
 .exact au s (h)
variable{ob:Ct}{X:Cx}{a b:Expr}{fa:WA}{pos p:Pos}
variable{M:Md}{vs ws:Aai}{ys:Aad}
theorem xT{f1 f2:Bool}{a b:Addr}{xs:Aad}(h1:GW f1 M.K F a vs)(r1:rW M.K F vs xs)(h2:GW f2 M.K F b ws)(r2:rW M.K F ws ys):Fp M (OM f1 f2 M.K a b) F (Fu xs ys):=by
 refine#[λZ i U env F' H x s K e=>?_,λZ i U env F' H s K hl=>#[vs,ws,bg K.sF (bg s h1),bg K.sF (bg s h2),?_]]
 .unfold Fu at e;rw[aal]at e;cases ez:(xs.zip ys)[i]? with
  |none=>rw[ez]at e;cases e
  |some q=>
   rw[ez]at e;rw[aa5]at ez;have e  := (aar e).symm;subst e;obtain⟨v1,q1,q2⟩:=r1.get ez.1;obtain⟨v2,q3,q4⟩:=r2.get ez.2;have g1:=bg K.sF (bg s h1);have g2:=bg K.sF (bg s h2);refine#[#[vs,ws,v1,v2,g1,g2,q1,q3],λv' H' y=>?_];obtain⟨p,w1,w2,rfl,hp,rfl,y⟩:=y;obtain⟨y1,y2⟩:=y vs ws g1 g2;rw[q1]at y1;cases y1;rw[q3]at y2;cases y2;have hF  := dO.none_of K.sF hp;refine#[_,aq hF,K.lay hp,.tup (.inl (.inl ah)) (.cons ((q2.mono s).mono (aq hF)) (.cons ((q4.mono s).mono (aq hF)) .nil)),aq hp,λc hc=>?_];by_cases z:c=p
   .subst z;exact .inr hp
   .rw[af z]at hc;exact .inl hc
 .have:=r1.len;have:=r2.len;simp only[Fu,aac,aeb]at hl;omega
noncomputable def Rp(a:WA):WA:=λenv P=>a env λxs e=>match xs with
 |[x,y]=>match Js x,Js y with
  |some (_,xs),some (_,ys)=>P (Fu xs ys) e
  |_,_=>False
 |_=>False
variable{v:V}{x:PV}
def pR{b:Bool}(h:Js x=some (b,ys))(r:Rep K F v x):∃a vs,v=.ref a/\GW b K F a vs/\rW K F vs ys:=by
 cases r with
 |tup g1 g2=>cases h;exact#[_,_,rfl,g1,g2]
 |lst g1 g2=>cases h;exact#[_,_,rfl,.inl (.inl g1),g2]
 |_=>cases h
variable{elts:Aak}{EL:Pos}
def yw{x1:_}(hg:Gl X "zip")(hm:X.mg "zip" = none)(ha:GG ob X [a,b] fa)(hs:autoParam (aai [a,b] X.env=[(false,eval a X.env),(false,eval b X.env)]) oR)(Jf:autoParam (aai [b] X.env=[(false,eval b X.env)]) oR):
  Hl ob X (.Tuple elts x1 EL) (.Call (.Name "zip" p) [a,b] [] pos) (Rp fa):=by
 obtain⟨t,ht,k⟩:=ha.ex;refine#[_,wY hg hm ht hs Jf,λZ F U H env P R K hf kk=>k Z F U H env _ _ K hf λxs e1 vs F1 H1 p _ s1 K1 r1=>?_];split at p;case h_2=>exact p.elim
 cases r1 with
 |cons r1 r2=>
  cases r2 with
  |cons r2 r3=>
   cases r3;split at p;case h_2=>exact p.elim
   rename_i h1 h2;obtain⟨a1,vs1,rfl,g1,g2⟩:=pR h1 r1;obtain⟨a2,vs2,rfl,g3,g4⟩:=pR h2 r2;exact#[_,_,_,_,rfl,#[_,bg K1.sF g1],#[_,bg K1.sF g3],kk _ e1 _ F1 H1 p s1 K1 (xT g1 g2 g3 g4)]
end Q
namespace L2
open PySem PySem.Spec PyProof.Rows
def mU(elt tg iter DD BK:Expr)(scope:Scope)(pos:Pos)(it acc:Value)(env:Env):
  compTurn (.ListComp elt [#[tg,iter,[],0],#[DD,BK,[],0]] scope pos) 0 it acc env=(aff iter.pos >>= λ_=>pyNext it >>= λr=>match r with
   |none=>pure (.done .next)
   |some v=>adn tg it v >>= λ_=>assign tg env v >>= λ_=>eval BK env >>= λx=>aff BK.pos >>= λ_=>aaC BK env x >>= λx=>adp [x] (pyIter x) >>= λUw=>
    runOwn (.compStart (.ListComp elt [#[tg,iter,[],0],#[DD,BK,[],0]] scope pos) 1 Uw acc env) env >>= λ_=>again (.compLoop (.ListComp elt [#[tg,iter,[],0],#[DD,BK,[],0]] scope pos) 0 it acc env)):=by rfl
def mT(elt tg iter DD BK:Expr)(scope:Scope)(pos:Pos)(it acc:Value)(env:Env):
  compTurn (.ListComp elt [#[tg,iter,[],0],#[DD,BK,[],0]] scope pos) 1 it acc env=(aff BK.pos >>= λ_=>pyNext it >>= λr=>match r with
   |none=>pure (.done .next)
   |some v=>adn DD it v >>= λ_=>assign DD env v >>= λ_=>
    (eval elt env >>= λx=>call (.builtin "list.append") [acc,x] >>= λ_=>pure ()) >>= λ_=>again (.compLoop (.ListComp elt [#[tg,iter,[],0],#[DD,BK,[],0]] scope pos) 1 it acc env)):=by rfl
variable{prog:aaD}{w:World}{A:Around}{R:Result->Shared->Prop}{s:Shared}{tg:Expr}{scope:Scope}{pos:Pos}{env:Env}
def eN{elt iter DD BK:Expr}{it acc:Value}
  (h0:acS (model prog w) A (.compLoop (.ListComp elt [#[tg,iter,[],0],#[DD,BK,[],0]] scope pos) 1 it acc env) R s)
  (h:wpAny (model prog w) A (pyIter it) (λWB s'=>acS (model prog w) A (.compLoop (.ListComp elt [#[tg,iter,[],0],#[DD,BK,[],0]] scope pos) 1 WB acc env) R s')
   (notedBy (model prog w) A env λx s'=>R (.error x) s') s) :
  acS (model prog w) A (.compStart (.ListComp elt [#[tg,iter,[],0],#[DD,BK,[],0]] scope pos) 1 it acc env) R s:=by
 refine afk (wpAny_notedAt ?_);refine aaa (acr (wpAny_ite ?_));split
 .first
   |exact aaa _
   |exact aae (And.intro rfl h0)
 .first
   |exact aaa _
   |(refine aaa (acs ?_);exact aaa (abR (aaa (aay h (λWB s' h'=>aae (And.intro rfl h')) λ_ _ x=>x))))
def Qn(wi:TI)(g:TG)(wi2:TI)(kk:Nat)(te:TE)(js:Aah):TE:=λU H Q=>wi U H λJ H1=>∀l,H1 l=none ->
 ∃W:Nat->Nat->List V->Hp->Prop,(∃m,W 0 m [] (upd H1 l (.lst [])))/\∀i m ys H2,W i m ys H2 ->
  (J.stop i H2/\Q (.ref l) H2)\/(J.go i H2/\∀x H3,J.yld i H2 x H3->g x (BL js U) H3 λsb H4=>sb[kk]?=some none/\wi2 sb H4 λJ2 H5=>
   ∃W2:Nat->Nat->List V->Hp->Prop,(∃m2,W2 0 m2 ys H5)/\∀i2 m2 zs H6,W2 i2 m2 zs H6 ->
    (J2.stop i2 H6/\∃m',m'<m/\W (i+1) m' zs H6)\/(J2.go i2 H6/\∀x2 H7,J2.yld i2 H6 x2 H7->B8 kk x2 sb H7 λsd H8=>te sd H8 (λy H9=>H9 l=some (.lst zs)/\zs.length<sizeLine/\∃Q6,Q6<m2/\W2 (i2+1) Q6 (zs++[y]) (upd H9 l (.lst (zs++[y]))))/\sd=sb.set kk (some x2)))
variable{X:Cx}{elt iter DD BK:Expr}{wi wi2:TI}{g:TG}{te:TE}{N:Aaa}{js:Aah}{kk:Nat}
variable{use:Option (Value->Sem Unit)}{pins:Aac}{U:St}{H:Hp}{Q:VK}{QQ E:Aab}{pos':Pos}
def vE(hc:X.calm=true)(hx:X.xe=λ_ _=>False)(hi:PI X tg iter wi)
  (hg:∀C s0 Ha ex pn,PG (iN X scope N C s0 Ha ex pn) tg g) (Oc:∀C s0 Ha ex pn,PI (iN X scope N C s0 Ha ex pn) DD BK wi2) (Lq:∀C s0 Ha ex pn,PG (iN X scope N C s0 Ha ex pn) DD (B8 kk)) (Jf:∀C s0 Ha ex pn x,aaC BK (iN X scope N C s0 Ha ex pn).env x=pure x) (he:∀C s0 Ha ex pn,PE (iN X scope N C s0 Ha ex pn) elt te) (IC:DC js g)
  (Dq:DI X.env scope=true) (BP:Cw X.N scope N js=true) (BA:scope.kind=.function) (hs:∀x,aaC iter X.env x=pure x)
  (I:Inv X pins U H s) (h:Qn wi g wi2 kk te js U H Q)
  (fin:∀(l C:Addr) (H':Hp) (s':Shared),Inv X pins U H' s'->Q (.ref l) H'->H' C=none->C≠X.env.locals->X.s0.heap.objs.size<=C->(∀x c,X.env.cells.lookup x=some c->c≠C)->(∀p∈X.pn++pins,p.1≠C)->(∃m,s'.heap.Ns C m)->adU (model X.prog X.w) X.A E use QQ (.ref l) C (.ok .next) s') :
  wpAny (model X.prog X.w) X.A (comprehension (.ListComp elt [#[tg,iter,[],0],#[DD,BK,[],0]] scope pos) scope X.env pos' (newList []) false (eval iter X.env) use) QQ E s:=by
 have SC:=kN Dq;have CP:=jK BP;refine adM (cl:=Dn X.env.cells scope.names []) rfl hs (cL (SC.cells I.ok)) BA SC.lc ?_;refine aay (hi pins s U H _ I h) (λv s1 h1=>aay h1 (λO0 s2 h2=>?_) (λ_ _ z=>by rw[hx]at z;exact z.elim)) (λ_ _ z=>by rw[hx]at z;exact z.elim);obtain⟨it,fp,tn,J,H2,rfl,I2,T,Lh,f2,hq⟩:=h2;have MQ:H2 s2.heap.objs.size=none:=I2.Bv.fresh (aaj _);obtain⟨W,⟨m0,w0⟩,turn⟩:=hq s2.heap.objs.size MQ;refine aa1 (adf (λx hx=>SC.nc x hx) (by intro y hy;simp at hy) (λh₁ hns1 hsb1=>?_) BA);dsimp only at hns1 hsb1 ⊢;generalize KD:s2.heap.push {cls:=.type "list",dict:=none,data:=.seq ([]:Aae).toArray}=hp3 at hns1 hsb1 ⊢;have MR:hp3.objs.size=s2.heap.objs.size+1:=by rw[<- KD,abn]
 have I3:Inv X pins U (upd H2 s2.heap.objs.size (.lst [])) {s2 with heap:=hp3}:=by rw[<- KD];exact I2.laid (t':=s2.toks) (λb u e=>aad _ e) (aaj _) #[by show 0<=_;exact aba _,[],_,.nil,aag _ rfl]
 have keep:∀b o,hp3.get? b=some o->h₁.get? b=some o:=λb o e=>hsb1.extBut b o (aas (aah e)) (aad _ e);have KI:∀b∈fp,b<s2.heap.objs.size:=λb hb=>by obtain⟨o,e,_⟩:=T.obj _ _ Lh b hb;exact aah e
 have f3:∀b∈fp,Dz X pins (upd H2 s2.heap.objs.size (.lst [])) b:=λb hb=>#[by rw[af (aas (KI b hb))];exact(f2 b hb).1,(f2 b hb).2]
 have J4:=jE (tk:=s2.toks+([]:Aar).length) (C:=hp3.objs.size) (fp:=fp) (h₁:=h₁) (scope:=scope) (N:=N) (js:=js) I3 SC CP BA f3 (λb hb=>by show b<hp3.objs.size;rw[MR];exact abk (KI b hb)) rfl keep (by
  have:(λx=>adY x ([]:Aar).reverse)=λ_=>none:=by funext x;rfl
  rw[this]at hns1;exact hns1)
 have Mr:tn 0 h₁:=T.keep _ _ _ Lh λb hb o e=>keep b o (by rw[<- KD];exact aad _ e);have loop:∀s4:Shared,s4={s2 with heap:=h₁,toks:=s2.toks+([]:Aar).length} ->
   acS (model X.prog X.w) X.A (.compLoop (.ListComp elt [#[tg,iter,[],0],#[DD,BK,[],0]] scope pos) 0 (.ref it) (.ref s2.heap.objs.size) (aev scope (Dn X.env.cells scope.names []) hp3.objs.size X.env)) (adU (model X.prog X.w) X.A E use QQ (.ref s2.heap.objs.size) hp3.objs.size) s4:=by
  rintro s4 rfl;generalize hY:iN X scope N hp3.objs.size {s2 with heap:=hp3} (upd H2 s2.heap.objs.size (.lst [])) fp (X.pn++pins)=Y at J4;have KJ:∀{H':Hp},(∀b∈fp,H' b=none)->∀b∈fp,Dz Y [] H' b:=λhn b hb=>by
   subst hY;refine#[hn b hb,?_,?_,.inl hb,λx c e=>?_,λp hp=>?_]
   .show b≠hp3.objs.size;rw[MR];exact aas (abk (KI b hb))
   .intro z;rcases List.mem_cons.mp (I3.Ej b z)with q|q
    .exact(f3 b hb).2.1 q
    .exact(f3 b hb).2.2.1 q
   .exact(f3 b hb).2.2.2.2.1 x c (ck (SC.cells I.ok) (λc e=>by simp at e) e)
   .exact(f3 b hb).2.2.2.2.2 p (by simpa[iN]using hp)
  have RF:PG Y tg g:=by subst hY;exact hg _ _ _ _ _
  have U5:PI Y DD BK wi2:=by subst hY;exact Oc _ _ _ _ _
  have U7:PG Y DD (B8 kk):=by subst hY;exact Lq _ _ _ _ _
  have UJ:∀x,aaC BK Y.env x=pure x:=by subst hY;exact Jf _ _ _ _ _
  have RH:PE Y elt te:=by subst hY;exact he _ _ _ _ _
  have eA:Y.A=X.A:=by subst hY;rfl
  have eP:Y.prog=X.prog:=by subst hY;rfl
  have eW:Y.w=X.w:=by subst hY;rfl
  have eK:Y.K=X.K:=by subst hY;rfl
  have eC:Y.calm=true:=by subst hY;exact hc
  have eX:Y.xe=λ_ _=>False:=by subst hY;rfl
  have eE:Y.env=aev scope (Dn X.env.cells scope.names []) hp3.objs.size X.env:=by subst hY;rfl
  have T':Turn Y.prog Y.w Y.K tg J fp it tn:=by rw[eP,eW,eK];exact T
  have eL:(BL js U).length=js.length:=by unfold BL;rw[aac]
  rw[<- eP,<- eW,<- eA,<- eE];refine aeU rfl (λn s'=>∃i ys H',Inv Y [] (BL js U) H' s'/\tn i s'.heap/\(∀b∈fp,H' b=none)/\W i n ys H') (λn s' hI=>?_) m0 #[0,[],_,J4,Mr,λb hb=>(f3 b hb).1,w0];obtain⟨i,ys,H5,I5,JO,LA,w5⟩:=hI;refine ae9 ?_;rw[mU];refine aaa (abR (aaa ?_));have EH:∀(x:Value) (s:Shared) (P:Prop),Y.xe x s->P:=λx s P z=>by rw[eX]at z;exact z.elim
  rcases turn i n ys H5 w5 with ⟨stop,qn⟩|⟨go,step⟩
  .refine aay (T'.done Y rfl rfl rfl eC i [] s' _ H5 Y.xe I5 (KJ LA) JO stop) (λr s6 #[hr,I6]=>?_) λx s z=>EH x s _ z;subst hr;refine aae ?_;show adU _ _ _ _ _ _ _ _ _;rw[eP,eW,eA];have back:Inv X pins U H5 s6:=by subst hY;exact jF I3 I6 f3
   have JC:∃m,s6.heap.Ns hp3.objs.size m:=by
    obtain⟨m,hm,_⟩:=I6.loc;have:Y.env.locals=hp3.objs.size:=by rw[eE];rfl
    rw[this]at hm;exact#[m,hm]
   have RT:H5 hp3.objs.size=none:=by
    have:=I6.free;have e:Y.env.locals=hp3.objs.size:=by rw[eE];rfl
    rw[e]at this;exact this
   refine fin s2.heap.objs.size hp3.objs.size H5 s6 back qn RT ?_ ?_ ?_ ?_ JC
   .exact abL I3.lt
   .exact I3.sz
   .intro x c e z;obtain⟨v,o,ho,_⟩:=I3.cell x c e;exact absurd (aah ho) (by rw[z];exact abv _)
   .intro p hp z;have:=aah (I3.pin p hp).1;rw[z]at this;exact absurd this (abv _)
  .refine aay (T'.item Y rfl rfl rfl eC i [] s' _ H5 Y.xe I5 (KJ LA) JO go) (λr s6 h6=>?_) λx s z=>EH x s _ z;obtain⟨u,hr,h6⟩:=h6;subst hr;dsimp only;refine aaa ?_;refine aay h6 (λ_ s7 h7=>?_) λx s z=>EH x s _ z;obtain⟨x,H7,I7,r7,y7,J5,RW⟩:=h7;have Sr:=I7.pinned (KJ RW) (T.obj _ _ J5);have g7:=IC x (BL js U) H7 _ (step x H7 y7);refine aaa ?_;refine aay (RF _ s7 (BL js U) H7 x u _ Sr r7 g7) (λ_ s8 h8=>?_) λx s z=>EH x s _ z;obtain⟨sd,H8,I8,q8,l8,k8⟩:=h8;obtain⟨q0,q8⟩:=q8;have again:∀{s':Shared} {H':Hp},Inv Y ([]++C5 fp s7.heap) sd H' s'->Inv Y [] (BL js U) H' s'/\tn (i+1) s'.heap/\∀b∈fp,H' b=none:=λ{s' H'} I'=>by
    refine#[(I'.CU).weak l8.symm λk v e=>?_,T.keep _ _ _ J5 λb hb o e=>(I'.pin (b,o) (aak _ (aak _ (aM hb e)))).1,λb hb=>?_]
    .cases ej:js[k]? with
     |none=>unfold BL at e;rw[aal,ej]at e;cases e
     |some o=>
      cases o with
      |none=>unfold BL at e;rw[aal,ej]at e;cases e
      |some j=>rw[k8 k j ej];exact e
    .obtain⟨o,e,d⟩:=T.obj _ _ J5 b hb;exact(I'.pin (b,o) (aak _ (aak _ (aM hb e)))).2.1
   refine aaa ?_;refine aay (U5 _ s8 sd H8 _ I8 q8) (λv s9 h9=>?_) λx s z=>EH x s _ z;refine aaa (abR (aaa ?_));rw[UJ];refine aae (aaa (aaY (aay h9 (λO0 Qz RV=>?_) λx s z=>EH x s _ z)));obtain⟨Uw,Vp,XQ,J2,Su,rfl,Ss,T2,Qx,Xl,W2,⟨m2,w2⟩,Qe⟩:=RV;refine aaa (wpAny_runOwn ?_);have MG:∀R:Result->Shared->Prop,(∀zs H' s' m',Inv Y ([]++C5 fp s7.heap) sd H' s'->m'<n->W (i+1) m' zs H'->R (.ok .next) s')->acS (model Y.prog Y.w) Y.A (.compLoop (.ListComp elt [#[tg,iter,[],0],#[DD,BK,[],0]] scope pos) 1 (.ref Uw) (.ref s2.heap.objs.size) Y.env) R Qz:=by
    intro R hR;refine aeU rfl (λn2 s'=>∃i2 zs H',Inv Y ([]++C5 fp s7.heap) sd H' s'/\XQ i2 s'.heap/\(∀b∈Vp,H' b=none)/\W2 i2 n2 zs H') (λn2 s' hI=>?_) m2 #[0,ys,_,Ss,Qx,λb hb=>(Xl b hb).1,w2];obtain⟨i2,zs,Pl,OO,Qw,RX,TC⟩:=hI;have Ov:∀{H':Hp},(∀b∈Vp,H' b=none)->∀b∈Vp,Dz Y ([]++C5 fp s7.heap) H' b:=λhn b hb=>#[hn b hb,(Xl b hb).2]
    refine ae9 ?_;rw[mT];refine aaa (abR (aaa ?_));rcases Qe i2 n2 zs Pl TC with ⟨stop,m',hm,w9⟩|⟨go,Qv⟩
    .refine aay (T2.done Y rfl rfl rfl eC i2 _ s' _ Pl Y.xe OO (Ov RX) Qw stop) (λr OX #[hr,VP]=>?_) λx s z=>EH x s _ z;subst hr;exact aae (hR zs Pl OX m' VP hm w9)
    .refine aay (T2.item Y rfl rfl rfl eC i2 _ s' _ Pl Y.xe OO (Ov RX) Qw go) (λr OX Vm=>?_) λx s z=>EH x s _ z;obtain⟨u,hr,Vm⟩:=Vm;subst hr;dsimp only;refine aaa ?_;refine aay Vm (λ_ X0 ZD=>?_) λx s z=>EH x s _ z;obtain⟨x2,Xz,I13,X5,XB,Nv,Vo⟩:=ZD;have VO:=I13.pinned (Ov Vo) (T2.obj _ _ Nv);refine aaa ?_;refine aay (U7 _ X0 sd Xz x2 u _ VO X5 (Qv x2 Xz XB)) (λ_ XZ ZC=>?_) λx s z=>EH x s _ z;obtain⟨s14,H14,I14,X7,rfl⟩:=ZC;refine aaa (aaa ?_);refine aay (RH _ XZ _ H14 _ I14 X7) (λy XY RU=>?_) λx s z=>EH x s _ z;obtain⟨yv,Xy,I15,X4,ZO,z15,m3,YT,XG⟩:=RU;refine aaa ?_;refine aay (dW (X:=Y) _ XY _ Xy (.ref s2.heap.objs.size) [yv] (.ref s2.heap.objs.size) [y] (λ_ H'=>H'=upd Xy s2.heap.objs.size (.lst (zs++[yv]))) I15 rfl (.cons X4 .nil) #[_,zs,yv,rfl,rfl,ZO,z15,rfl]) (λ_ s16 ZA=>?_) λx s z=>EH x s _ z;obtain⟨_,H16,VN,_,ZN⟩:=ZA;subst ZN;refine aae (aae #[rfl,m3,YT,i2+1,zs++[yv],_,(VN.CU).weak (by rw[afu]) λk' v' e=>?_,T2.keep _ _ _ Nv λb hb o e=>(VN.pin (b,o) (aak _ (aak _ (aM hb e)))).1,λb hb=>?_,XG])
     .by_cases z:k'=kk
      .rw[z,q0]at e;cases e
      .rw[aaw (abE z)];exact e
     .obtain⟨o,e,d⟩:=T2.obj _ _ Nv b hb;exact(VN.pin (b,o) (aak _ (aak _ (aM hb e)))).2.1
   refine eN (MG _ ?_) (T2.self Y.A 0 _ _ _ Qx (MG _ ?_));all_goals
    intro zs H' s' m' I' hm w';obtain⟨a1,a2,a3⟩:=again I';exact aae #[rfl,m',hm,i+1,zs,H',a1,a2,a3,w']
 exact codeAny_compStart_list (loop _ rfl) (T.self X.A 0 _ _ _ Mr (loop _ rfl))
def ze(hi:PI X tg iter wi)(hg:∀C s0 Ha ex pn,PG (iN X scope N C s0 Ha ex pn) tg g)(Oc:∀C s0 Ha ex pn,PI (iN X scope N C s0 Ha ex pn) DD BK wi2)(Lq:∀C s0 Ha ex pn,PG (iN X scope N C s0 Ha ex pn) DD (B8 kk))(Jf:∀C s0 Ha ex pn x,aaC BK (iN X scope N C s0 Ha ex pn).env x=pure x)(he:∀C s0 Ha ex pn,PE (iN X scope N C s0 Ha ex pn) elt te)(IC:DC js g)
  (hc:autoParam (X.calm=true) oR) (hx:autoParam (X.xe=(λ_ _=>False)) oR) (Dq:autoParam (DI X.env scope=true) oR) (BP:autoParam (Cw X.N scope N js=true) oR) (BA:autoParam (scope.kind=.function) oR) (hs:autoParam (∀x,aaC iter X.env x=pure x) At) :
  PE X (.ListComp elt [#[tg,iter,[],0],#[DD,BK,[],0]] scope pos) (Qn wi g wi2 kk te js):=by
 intro pins s U H Q I h;refine vE hc hx hi hg Oc Lq Jf he IC Dq BP BA hs I h λl C H' s' I' q f0 f1 f2 f3 f4 #[m,hm]=>#[m,hm,λh' sb=>#[.ref l,H',?_,rfl,q]]
 exact I'.turned (λb o hb e=>sb.extBut b o hb e) f0 f1 (.inr f2) f3 f4
end L2
namespace Q
open PySem L2 PyProof.Rows
def T5(M:Md)(fi:WA):TI:=λU H R=>∃(Z:Zn) (F:Hp) (env:En) (P:Aad->En->Prop),tO M Z F U H env/\fi env P/\∀xs aT J F' H',P xs aT->dO F F'->tO M Z F' U H' aT->Fp M J F' xs->R J H'
variable{ob:Ct}{X:Cx}
def Hl.pi{tg iter:Expr}{fi:WA}(h:Hl ob X tg iter fi):PI X tg iter (T5 (md ob X) fi):=by obtain⟨wi,Iu,k⟩:=h.ex;rintro pins s U H R I ⟨Z,F,env,P,K,hf,kk⟩;exact Iu pins s U H R I (k Z F U H env P R K hf kk)
def LO(k:Nat)(f:WE)(K:Aad->En->Prop):Aad->En->List PV->Prop
 |[],b,acc=>K acc b
 |y::ys,b,acc=>f (b.set k (some #[0,y])) λz b2=>acc.length<=100000/\LO k f K ys (b2.set k none) (acc++[z])
def Hz(g:WG)(IF:WA)(k:Nat)(f:WE)(js:Aah)(P:Aal):Aad->En->List PV->Prop
 |[],env,acc=>P (.lst acc) env
 |x::xs,env,acc=>g x (EE js env) λb1=>IF b1 λys b2=>LO k f (λF9 b3=>Hz g IF k f js P xs (Ce js env b3) F9) ys b2 acc
def OE(fi:WA)(T:Jm)(IF:WA)(k:Nat)(f:WE)(js:Aah):WE:=λenv P=>fi env λxs e=>Hz (Hs T) IF k f js P xs e []
variable{M:Md}{Z:Zn}{F H:Hp}{U:L2.St}{env:En}
variable{α:Type}{k:Nat}
def uN{l:List (Option α)}(h:l[k]?=some none):l.set k none=l:=by
 apply ab2;intro i;by_cases e:i=k
 .subst e;have  := (List.getElem?_eq_some_iff.mp h).1;rw[h,abt,if_pos rfl,if_pos this]
 .rw[aaw (abE e)]
def tO.forget(K:tO M Z F U H env)(k:Nat):tO M Z F (U.set k none) H (env.set k none):=by
 obtain⟨fp,L⟩:=K.sl;have get:∀{j:Nat} {s:Sl},(env.set k none)[j]?=some (some s)->j≠k/\env[j]?=some (some s):=λ{j s} e=>by
  by_cases z:j=k
  .subst z;rw[abt]at e;simp only[if_true]at e;split at e<;>cases e
  .rw[aaw (abE z)]at e;exact#[z,e]
 refine#[K.sF,K.sG,K.pr,K.gr,K.nw,by simp[K.len],λj=>if j=k then []else fp j,λj s e=>?_,λj a h=>?_,λi j a Ew h z=>?_,λj a s e1 e2 e3=>?_]
 .obtain⟨z,e⟩:=get e;obtain⟨v,h1,h2⟩:=L.at' j s e;exact#[v,by rw[aaw (abE z)];exact h1,by rw[if_neg z];exact h2]
 .split at h
  .simp at h
  .exact L.al j a h
 .split at h
  .simp at h
  .split at z
   .simp at z
   .exact L.dj i j a Ew h z
 .obtain⟨z,e⟩:=get e2;rw[aaw (abE z)];exact L.oa j a s e1 e e3
def AW:∀{Z Z':Zn},Z.Ha=Z'.Ha->Z.Fa=Z'.Fa->Z.S=Z'.S->Z.oa=Z'.oa->Z=Z'
 |#[_,_,_,_,_],#[_,_,_,_,_],rfl,rfl,rfl,rfl=>rfl
variable{l:Addr}
def na(Z:Zn){o2:HO}:∀b∈Z.S,(upd Z.Ha l o2) b≠none:=λb hb=>by
 by_cases z:b=l
 .subst z;rw[ah];simp
 .rw[af z];exact Z.sS b hb
def tO.Nm{o1 o2:HO}(K:tO M Z F U H env)(h0:Z.Ha l=some o1)(hS:l∉Z.S)(hF:F l=none):tO M {Z with Ha:=upd Z.Ha l o2,sS:=na Z} F U (upd H l o2) env:=by
 obtain⟨fp,L⟩:=K.sl;have ln:∀{i:Nat} {s:Sl} {v:V},Fn M Z F H v s (fp i)->l∉fp i:=λ{i s v} h z=>by
  rcases h with ⟨_,e,_⟩|⟨_,a,_,e,h1,_⟩|⟨_,a,_,h1,_⟩|⟨_,a,_,e,h1,_⟩
  .rw[e]at z;simp at z
  .rw[e]at z;rw[<- List.mem_singleton.mp z,h0]at h1;cases h1
  .rcases h1 l z with q|q
   .exact hS q
   .rw[h0]at q;cases q
  .exact hS #[1]
 refine#[λb o e=>?_,λb o e hb=>?_,λb e=>?_,K.gr,λa e=>?_,K.len,λi=>(fp i).filter λa=>decide (a≠l),λi s e=>?_,λi a h=>?_,λi j a Ew h z=>?_,L.oa]
 .rw[af (ao e hF)];exact K.sF b o e
 .by_cases z:b=l
  .subst z;have e:upd Z.Ha b o2 b=some o:=e;rw[ah]at e ⊢;exact e
  .have e:upd Z.Ha l o2 b=some o:=e;rw[af z]at e ⊢;exact K.sG b o e hb
 .by_cases z:b=l
  .subst z;rw[ah];simp
  .have e:upd Z.Ha l o2 b≠none:=e;rw[af z]at e ⊢;exact K.pr b e
 .rcases K.nw a e with q|q
  .exact .inl q
  .exact .inr (by show upd Z.Ha l o2 a=none;rw[af λz=>#[1]];exact q)
 .obtain⟨v,h1,h2⟩:=L.at' i s e;have nl:=ln h2;have ef:(fp i).filter (λa=>decide (a≠l))=fp i:=List.filter_eq_self.mpr λa ha=>decide_eq_true λz=>nl (z ▸ ha);refine#[v,h1,?_];rw[ef];have h3:=h2.mono (H':=upd H l o2) aj λc hc=>af λz=>nl (z ▸ hc);rcases h3 with h3|⟨a1,a,a2,a3,a4,a5⟩|⟨a1,a,a2,a3,a4⟩|h3
  .exact .inl h3
  .refine .inr (.inl #[a1,a,a2,a3,?_,a5]);show upd Z.Ha l o2 a=none;rw[af λz=>#[1]];exact a4
  .refine .inr (.inr (.inl #[a1,a,a2,λc hc=>?_,a4]));rcases a3 c hc with q|q
   .exact .inl q
   .exact .inr (by show upd Z.Ha l o2 c=none;rw[af λz=>#[1]];exact q)
  .exact .inr (.inr (.inr h3))
 .obtain⟨m,d⟩:=List.mem_filter.mp h;have:=L.al i a m;exact#[by rw[af (of_decide_eq_true d)];exact this.1,this.2]
 .exact L.dj i j a Ew (List.mem_filter.mp h).1 (List.mem_filter.mp z).1
variable{tg elt iter DD BK:Expr}{scope:Scope}{pos:Pos}{fi IF:WA}{T:Jm}{f:WE}{N:Aaa}{js:Aah}{kk:Nat}
variable{P:Aal}{xs:Aad}{J:It}
theorem vD{Q:VK}(hj:FO js=true)(hT:CI (js.set kk (some 0)) T=true)(hk:js[kk]?=some none)(K:tO (md ob X) Z F U H env)(I1:Fp (md ob X) J F xs)(hf:Hz (Hs T) IF kk f js P xs env [])
  (kq:∀x aT v F' H',P x aT->dO F F'->(∀xs,x≠.set xs)->tO (md ob X) Z F' (U++[some v]) H' (aT++[some #[1,x]])->Q v H') (l:Addr) (hl:H l=none) :
  ∃W:Nat->Nat->List V->Hp->Prop,(∃m,W 0 m [] (upd H l (.lst [])))/\∀i m ys H2,W i m ys H2 ->
  (J.stop i H2/\Q (.ref l) H2)\/(J.go i H2/\∀x H3,J.yld i H2 x H3->Hn X.K T x (BL js U) H3 λsb H4=>sb[kk]?=some none/\T5 (md ob X) IF sb H4 λJ2 H5=>
   ∃W2:Nat->Nat->List V->Hp->Prop,(∃m2,W2 0 m2 ys H5)/\∀i2 m2 zs H6,W2 i2 m2 zs H6 ->
    (J2.stop i2 H6/\∃m',m'<m/\W (i+1) m' zs H6)\/(J2.go i2 H6/\∀x2 H7,J2.yld i2 H6 x2 H7->B8 kk x2 sb H7 λsd H8=>JP (md ob X) f sd H8 (λy H9=>H9 l=some (.lst zs)/\zs.length<sizeLine/\∃Q6,Q6<m2/\W2 (i2+1) Q6 (zs++[y]) (upd H9 l (.lst (zs++[y]))))/\sd=sb.set kk (some x2))):=by
 refine#[λi m ys H'=>m=xs.length - i/\H' l=some (.lst ys)/\∃F' aT Ge fp,dO F F'/\tO (md ob X) Z F' U H' aT/\Slots (md ob X) Z F' U H' aT fp/\F' l=none/\(∀i,l∉fp i)/\rW X.K F' ys Ge/\Hz (Hs T) IF kk f js P (xs.drop i) aT Ge,?_,?_]
 .obtain⟨fp,L⟩:=K.sl;have hF:F l=none:=dO.none_of K.sF hl;have hn:∀i,l∉fp i:=λi h=>(L.al i l h).1 hl;obtain⟨K1,L1⟩:=K.DG (o:=.lst []) L hF (K.h0 hl) hn;exact#[_,rfl,ah,F,env,[],fp,aj,K1,L1,hF,hn,.nil,hf]
 rintro i m ys H2 ⟨rfl,HX,F',aT,Ge,fp,s,K',L',Lz,hn,ry,hg⟩;have h0:Z.Ha l=none:=K.h0 hl;by_cases Cn:i<xs.length
 .rw[acf Cn]at hg;obtain⟨h1,h2⟩:=I1.go Z i U aT F' H2 xs[i] s K' (by simp[Cn]);refine .inr #[h1,λv H3 y=>?_];obtain⟨F2,s2,K2,r2,sH,nw⟩:=h2 v H3 y;have Nc:Slots (md ob X) Z F2 U H3 aT fp:=L'.move s2 (λ_ c o _ e=>sH c o e) nw;have O9:F2 l=none:=by
   cases e:F2 l with
   |none=>rfl
   |some o=>
    rcases nw l (by rw[e];simp)with q|q
    .exact absurd Lz q
    .rw[HX]at q;cases q
  have JD:H3 l=some (.lst ys):=sH _ _ HX;have Kb:=jL hj K2 Nc;have OU:=bC (K:=X.K) (js:=js.set kk (some 0)) hT v (BL js U) H3 _ (ng (M:=md ob X) (Q:=λsb H4=>H4=H3/\∃b1,tO (md ob X) (Zb js aT fp F2 H3) F2 sb H3 b1/\IF b1 _) Kb r2 hg λe4 sb p4 K4=>#[rfl,e4,K4,p4]);have mono:∀(Q1 Q2:L2.St->Hp->Prop),(∀a b,Q1 a b->Q2 a b)->Hn X.K T v (BL js U) H3 Q1->Hn X.K T v (BL js U) H3 Q2:=by
   have Hy:∀(l:Aan),∀x U H (Q Q':L2.St->Hp->Prop),(∀a b,Q a b->Q' a b)->Fh l x U H Q->Fh l x U H Q':=by
    intro l;induction l with
    |nil=>exact λx U H Q Q' h q=>#[q.1,h _ _ q.2]
    |cons i l ih=>exact iq fw ih
   intro Q1 Q2 hq q;cases T with
   |nm i=>exact hq _ _ q
   |tp l=>obtain⟨a,xs,e1,e2,e3,e4⟩:=q;exact#[a,xs,e1,e2,e3,Hy l _ _ _ _ _ hq e4]
  refine mono _ _ ?_ OU;rintro sb H4 ⟨⟨rfl,b1,K4,p4⟩,hlen,MN⟩;have WW:kk<js.length:=by
   rcases aaQ kk js.length with z|z
   .exact z
   .rw[aao z]at hk;cases hk
  have BP:∀(k j:Nat),js[k]?=some (some j)->sb[k]?=(BL js U)[k]?:=λk j ej=>by
   have ne:k≠kk:=λz=>by rw[z,hk]at ej;cases ej
   exact MN k j (by rw[aaw (abE ne)];exact ej)
  have hsk:sb[kk]?=some none:=by rw[MN kk 0 (by rw[abt];simp[WW])];unfold BL;rw[aal,hk];rfl
  refine#[hsk,_,F2,b1,_,K4,p4,λOT b2 J2 F5 H5 p5 s5 K5 I5=>?_];have WI:(Zb js aT fp F2 H4).Ha l=some (.lst ys):=JD;have WN:l∉DW js aT fp H4:=λz=>by obtain⟨_,j,_,_,_,hm⟩:=b9 z;exact hn j hm
  have eZ:∀o,DW js aT fp (upd H4 l o)=DW js aT fp H4:=λo=>by
   unfold DW;refine ab1 λb _=>?_;by_cases z:b=l
   .subst z;rw[ah,JD];rfl
   .rw[af z]
  have e4:upd H4 l (.lst ys)=H4:=by
   funext a;by_cases z:a=l
   .subst z;rw[ah,JD]
   .rw[af z]
  have RP:∀{F6:Hp} {H6:Hp} {sz:L2.St} {b3:En} {o:HO},tO (md ob X) (Zb js aT fp F2 (upd H4 l o)) F6 sz H6 b3->F6 l=none/\H6 l=some o:=λ{F6 H6 sz b3 o} K6=>by
   refine#[?_,K6.sG l _ ah (by show l∉DW js aT fp (upd H4 l o);rw[eZ];exact WN)];cases e:F6 l with
   |none=>rfl
   |some o'=>
    rcases K6.nw l (by rw[e];simp)with q|q
    .exact absurd O9 q
    .exact absurd q (by show upd H4 l o l≠none;rw[ah];simp)
  refine#[λi2 m2 zs H'=>m2=OT.length - i2/\∃F' b' Qa,dO F5 F'/\tO (md ob X) (Zb js aT fp F2 (upd H4 l (.lst zs))) F' sb H' b'/\rW X.K F' zs Qa/\LO kk f _ (OT.drop i2) b' Qa,#[_,rfl,F5,b2,Ge,aj,by rw[e4];exact K5,(ry.mono s2).mono s5,p5],?_];rintro i2 m2 zs H6 ⟨rfl,F6,b6,Qa,s6,K6,r6,p6⟩;obtain⟨Oo,LZ⟩:=RP K6;by_cases N8:i2<OT.length
  .rw[acf N8]at p6;obtain⟨g1,g2⟩:=I5.go _ i2 sb b6 F6 H6 OT[i2] s6 K6 (by simp[N8]);refine .inr #[g1,λv7 H7 y7=>?_];obtain⟨F7,s7,K7,r7,_,_⟩:=g2 v7 H7 y7;refine#[#[_,F7,b6.set kk (some #[0,OT[i2]]),_,K7.put r7,p6,λy b8 v8 F8 H8 p8 s8 K8 r8=>?_],rfl];obtain⟨Zw,YW⟩:=RP K8;refine#[YW,?_,_,#[],rfl,F8,b8.set kk none,Qa++[y],ag s6 (ag s7 s8),?_,((r6.mono s7).mono s8).app (.cons r8 .nil),p8.2]
   .have:=p8.1;rw[r6.len,aaJ];omega
   .have K9:=K8.forget kk;rw[List.set_set,uN hsk]at K9;have K10:=K9.Nm (l:=l) (o2:=.lst (zs++[v8])) (o1:=.lst zs) (by show upd H4 l (.lst zs) l=_;rw[ah]) (by show l∉DW js aT fp (upd H4 l (.lst zs));rw[eZ];exact WN) Zw;have eq:({Zb js aT fp F2 (upd H4 l (.lst zs))with Ha:=upd (upd H4 l (.lst zs)) l (.lst (zs++[v8])),sS:=na (Zb js aT fp F2 (upd H4 l (.lst zs)))}:Zn)=Zb js aT fp F2 (upd H4 l (.lst (zs++[v8]))):=by
     have:upd (upd H4 l (.lst zs)) l (.lst (zs++[v8]))=upd H4 l (.lst (zs++[v8])):=by
      funext a;by_cases z:a=l
      .subst z;rw[ah,ah]
      .rw[af z,af z,af z]
     exact AW this rfl ((eZ _).trans (eZ _).symm) rfl
    rw[<- eq];exact K10
  .have en:OT.drop i2=[]:=acz #[];rw[en]at p6;refine .inl #[I5.stop _ i2 sb b6 F6 H6 s6 K6 #[],_,#[],rfl,LZ,?_];obtain⟨K2',VI⟩:=K2.DG (o:=.lst zs) Nc O9 h0 hn;obtain⟨IE,L6,Sq,G9⟩:=hZ hj K2' VI K6 BP;have JC:∀i,l∉IE i:=λi h=>by
    rcases G9 i l h with ⟨i',q⟩|q
    .exact hn i' q
    .rw[ah]at q;cases q
   exact#[F6,_,Qa,IE,ag s (ag s2 (ag s5 s6)),Sq,L6,Oo,JC,r6,p6]
 .rw[acz #[]]at hg;refine .inl #[I1.stop Z i U aT F' H2 s K' #[],kq _ aT _ F' H2 hg s (λ_=>#[0]) ?_];refine K'.slots (by simp[K'.len]) (L'.push (l:=[l]) #[0] K'.len (.inr (.inl #[rfl,l,rfl,rfl,h0,ys,HX,ry])) (λa ha=>?_) λj a ha=>?_)
  .simp at ha;subst ha;exact#[by rw[HX];simp,Lz]
  .simp at ha;subst ha;exact hn j
def Ap(hi:Hl ob X tg iter fi)(hg:∀C s0 Ha ex pn,PG (iN X scope N C s0 Ha ex pn) tg (Hn X.K T))(Oc:∀C s0 Ha ex pn,Hl ob (iN X scope N C s0 Ha ex pn) DD BK IF)(Lq:∀C s0 Ha ex pn,PG (iN X scope N C s0 Ha ex pn) DD (B8 kk))(he:∀C s0 Ha ex pn,BH ob (iN X scope N C s0 Ha ex pn) elt f)
  (hj:autoParam (FO js=true) oR) (hT:autoParam (CI (js.set kk (some 0)) T=true) oR) (RN:autoParam (CI js T=true) oR) (hk:autoParam (js[kk]?=some none) oR) (Jf:autoParam (∀C s0 Ha ex pn x,aaC BK (iN X scope N C s0 Ha ex pn).env x=pure x) Cl)
  (hc:autoParam (X.calm=true) oR) (hx:autoParam (X.xe=(λ_ _=>False)) oR) (Dq:autoParam (DI X.env scope=true) oR) (BP:autoParam (Cw X.N scope N js=true) oR) (BA:autoParam (scope.kind=.function) oR) (hs:autoParam (∀x,aaC iter X.env x=pure x) At) :
  GD ob X (.ListComp elt [#[tg,iter,[],0],#[DD,BK,[],0]] scope pos) (OE fi T IF kk f js):=by
 obtain⟨wi,Iu,k⟩:=hi.ex;refine#[_,ze (wi2:=T5 (md ob X) IF) (te:=JP (md ob X) f) Iu hg (λC s0 Ha ex pn=>(Oc C s0 Ha ex pn).pi) Lq Jf (λC s0 Ha ex pn=>(he C s0 Ha ex pn).pe) (bC RN) hc hx Dq BP BA hs,λZ F U H env P Q K hf Jx=>?_];exact k Z F U H env _ _ K hf λxs e1 J F1 H1 p s1 K1 I1 l hl=>vD hj hT hk K1 I1 p (λx e2 v F2 H2 p2 s2 MK K2=>Jx x e2 v F2 H2 p2 (ag s1 s2) MK K2) l hl
end Q
namespace L2
open PySem PySem.Spec PyProof.Rows
variable{X:Cx}{pos:Pos}
end L2
namespace Q
open PySem L2
variable{ob:Ct}{X:Cx}{a b c:Expr}{fa:WA}{pos:Pos}
end Q
namespace L2
open PySem PySem.Spec PyProof.Rows
variable{X:Cx}{pins:Aac}{U:St}{H:Hp}{s:Shared}
variable{tg elt iter:Expr}{ifs:Aak}{scope:Scope}{pos:Pos}{wi:TI}{g:TG}{tc:TT}{te:TE}{N:Aaa}{js:Aah}{cx:Str}
end L2
namespace Q
open PySem L2
variable{ob:Ct}{X:Cx}{tg elt iter kx vx:Expr}{ifs:Aak}{scope:Scope}{pos:Pos}{fi:WA}{T:Jm}{c:WT}{f fk:WE}{N:Aaa}{js:Aah}
end Q
namespace L2
open PySem PySem.Spec PyProof.Rows PySem.W
variable{prog:aaD}{w:World}{A:Around}{R:Result->Shared->Prop}
variable{X:Cx}{p p4 DS pos:Pos}{e:Expr}{te:TE}{n:Int}{kd:Nat}
end L2
namespace Q
open PySem L2 PyProof.Rows PySem.W
variable{X:Cx}{p p4 DS pos:Pos}{e:Expr}{f:WE}{n:Int}{ob:Ct}{kd:Nat}
end Q
namespace L2
open PySem PySem.Spec PyProof.Rows
variable{X:Cx}
end L2
namespace Q
open PySem L2 PyProof.Rows
variable{ob:Ct}{X:Cx}{a b c e:Expr}{es:Aak}{f g h:WE}{fa:WA}{pos p:Pos}{x:Str}
end Q
namespace L2
open PySem PySem.Spec PyProof.Rows
variable{X:Cx}{tg:Expr}
end L2
namespace Q
open PySem L2 PyProof.Rows
variable{ob:Ct}{X:Cx}{tg elt iter kx vx:Expr}{ifs:Aak}{scope:Scope}{pos:Pos}{fi:WA}{T:Jm}{c:WT}{f fk:WE}{N:Aaa}{js:Aah}
open PySem L2 PyProof.Rows PySem.W
open PySem L2 PyProof.Rows
variable{ob:Ct}{X:Cx}{pins:Aac}{U:L2.St}{F H:Hp}{s:Shared}
end Q
namespace L2
open PySem PySem.Spec PyProof.Rows
variable{prog:aaD}{w:World}{A:Around}{E:Aab}{s:Shared}
variable{X:Cx}
end L2
namespace Q
open PySem L2 PyProof.Rows
variable{ob:Ct}{X:Cx}{a b c e:Expr}{es:Aak}{f g h:WE}{fa:WA}{pos Hw p p1 p2:Pos}{x:Str}
noncomputable def LL:PV->PV->Option PV
 |.tup [.int a,.str b],.tup [.int c,.str d]=>some (.bl (gtB (c,d) (a,b)))
 |_,_=>none
def QG(K:aaf):R2:=λv u H Q=>∃(p q:Addr) (k l:Int×Str),v=.ref p/\u=.ref q/\C3 K H p [.int k.1,.str k.2]/\C3 K H q [.int l.1,.str l.2]/\Q (.bl (gtB l k)) H
variable{K:aaf}{F:Hp}{v:V}
def nM{a:Int}{b:Str}(h:Rep K F v (.tup [.int a,.str b])):∃p,v=.ref p/\C3 K F p [.int a,.str b]:=by
 cases h with
 |tup h1 h2=>
  cases h2 with
  |cons h2 h3=>
   cases h3 with
   |cons h3 h4=>cases h4;cases h2;cases h3;exact#[_,rfl,h1]
theorem zn(hu:X.A.units+60<cLine):Co X (aa4 .Lt) (QG X.K):=by intro pins s U H x y v u Q I rx ry h;obtain⟨p,q,k,l,rfl,rfl,h1,h2,hq⟩:=h;cases rx;cases ry;obtain⟨_,rv,tp,_⟩:=I.tuple h1;obtain⟨_,Lj,Qg,_⟩:=I.tuple h2;exact nV #[] (ik rv tp) (ik Lj Qg) X.prog X.w X.xe _ #[.bl _,H,I,rfl,hq]
def xu:Ff ob X (QG X.K) LL:=by
 refine bn (P:=λ_ _ _ _=>True) λF H v u x y z sF rx ry hz=>?_;unfold LL at hz;split at hz
 .cases hz;obtain⟨p,h1⟩:=nM rx.Ic;obtain⟨q,h2⟩:=nM ry.Ic;exact#[_,λ_=>.bl _,λQ hq=>#[p,q,_,_,h1.1,h2.1,au sF h1.2,au sF h2.2,hq]]
 .cases hz
end Q
namespace Pre
open PySem L2
noncomputable def top(i:Nat):Stmt:=PySem.Challenge.pw_cheaptree_k26_whole_no_other_is_shown.main.body.getD i (.Pass #[0,0,0,0])
abbrev kR:Stmt:=top 2
abbrev gK:Stmt:=top 3
abbrev gP:Stmt:=top 4
abbrev kU:Stmt:=top 5
abbrev eD:Stmt:=top 6
abbrev gJ:Stmt:=top 7
abbrev Ij:Stmt:=top 8
abbrev jo:Stmt:=top 9
noncomputable abbrev eG:Stmt:=top 10
noncomputable abbrev Ik:Stmt:=top 11
abbrev eF:Stmt:=top 13
abbrev la:Stmt:=top 14
abbrev jn:Stmt:=top 15
abbrev kQ:Stmt:=top 16
noncomputable abbrev J9:Stmt:=top 18
abbrev gM:Stmt:=top 19
noncomputable abbrev kT:Stmt:=top 20
noncomputable abbrev kZ:Stmt:=top 21
noncomputable abbrev ND:Stmt:=top 22
noncomputable abbrev cK:Stmt:=top 24
abbrev cJ:Stmt:=top 25
noncomputable abbrev gO:Stmt:=top 26
noncomputable abbrev kO:Stmt:=top 28
noncomputable abbrev gL:Stmt:=top 30
noncomputable abbrev eI:Stmt:=top 31
noncomputable abbrev dk:Stmt:=top 32
abbrev Il:Stmt:=top 33
noncomputable abbrev dm:Stmt:=top 34
abbrev G4:Stmt:=top 36
noncomputable abbrev Jb:Stmt:=top 37
noncomputable abbrev Ih:Stmt:=top 38
abbrev Kc:Stmt:=top 39
abbrev Kd:Stmt:=top 40
noncomputable abbrev NH:Stmt:=top 41
noncomputable abbrev J8:Stmt:=top 42
abbrev Ke:Stmt:=top 43
abbrev J7:Stmt:=top 44
abbrev fR:Stmt:=top 45
noncomputable abbrev Ii:Stmt:=top 46
abbrev NI:Stmt:=top 47
structure Named(K:aaf)(mg:Aag)(x:Str)(f:Addr):Prop where
 mg:mg x=some (.ref f)
 kp:abN K (.ref f)=true
structure Df(K:aaf)(mg:Aag)(name:Str)(st:Stmt)(ps:Aaa) where
 f:Addr
 fd:abM
 F:H0 K name name st f fd
 b:Binds K fd ps []
 n:Named K mg name f
abbrev Us:Nat:=26
abbrev Ut:Nat:=26
abbrev Q9:Nat:=88
abbrev Ra:Nat:=29
section
set_option genInjectivity false
set_option genSizeOf false
structure Ev(K:aaf)(mg:Aag) where
 He:Df K mg "is_word" kR ["thing"]
 EW:Df K mg "is_rising" gK ["words"]
 E1:Df K mg "are_words" gP ["thing"]
 Hg:Df K mg "is_open" kU ["net", "tie"]
 DT:Df K mg "ties_by_name" eD ["net"]
 EV:Df K mg "open_ties" gJ ["net"]
 IH:Df K mg "ranks" Ij ["net"]
 FW:Df K mg "cheaper" jo ["net", "name", "other"]
 C2:Df K mg "cheapest_of" eG ["net", "names"]
 II:Df K mg "out_of" Ik ["net", "side"]
 DU:Df K mg "neighbours" eF ["net"]
 Hi:Df K mg "came_by" la ["beside", "start"]
 FV:Df K mg "reached" jn ["beside", "start"]
 Hd:Df K mg "pieces" kQ ["net"]
 KN:Df K mg "only" J9 ["net", "names"]
 EY:Df K mg "is_forest" gM ["net", "thing"]
 Hf:Df K mg "is_tree" kT ["net", "thing"]
 Hh:Df K mg "cost_of" kZ ["net", "names"]
 Ox:Df K mg "way" ND ["net", "forest", "one", "other"]
 Cy:Df K mg "cheaper_first" cK ["net", "names"]
 C7:Df K mg "without_round" cJ ["net", "names"]
 EZ:Df K mg "cheapest" gO ["net"]
 Hc:Df K mg "ways_in" kO ["net", "tree"]
 EX:Df K mg "is_pair_of" gL ["name", "thing"]
 DV:Df K mg "are_pairs_of" eI ["names", "thing"]
 Dw:Df K mg "shows_by_ways" dk ["net", "tree", "thing"]
 IK:Df K mg "is_cut" Il ["net", "name", "side"]
 Dx:Df K mg "shows_by_cuts" dm ["net", "tree", "thing"]
 Es:Df K mg "_law_begin" G4 ["_law_script"]
 Jk:Df K mg "_law_next" Jb ["_law_state", "_law_many"]
 EU:Df K mg "_law_words" Ih ["_law_state", "_law_many"]
 KO:Df K mg "_law_ends" Kc ["_law_state", "_law_words_here", "_law_style", "_law_k"]
 KP:Df K mg "_law_cost" Kd ["_law_state", "_law_style"]
 Oy:Df K mg "_law_net" NH ["_law_state", "_law_most", "_law_ties"]
 GS:Df K mg "_law_open" J8 ["_law_net_here"]
 KQ:Df K mg "_law_came" Ke ["_law_place", "_law_ties"]
 KL:Df K mg "_law_way" J7 ["_law_ties", "_law_one", "_law_other"]
 Er:Df K mg "_law_exchanged" fR ["_law_state", "_law_net_here", "_law_ties"]
 IG:Df K mg "_law_sides" Ii ["_law_state", "_law_net_here", "_law_ties"]
 IJ:Df K mg "law" NI ["_law_script"]
 Bz:Addr
 Ef:∃c,C2.fd.code=.ref c/\abq K c Bz=true
 Bu:Addr
 DB:∃c,Cy.fd.code=.ref c/\abq K c Bu=true
 M7:mg "abs" = none
 M6:mg "all" = none
 Fe:mg "enumerate" = none
 Ld:mg "int" = none
 Dy:mg "isinstance" = none
 Lc:mg "len" = none
 La:mg "list" = none
 Sa:mg "max" = none
 M5:mg "min" = none
 Jl:mg "range" = none
 K0:mg "set" = none
 DY:mg "sorted" = none
 M4:mg "str" = none
 M3:mg "sum" = none
 Hk:mg "tuple" = none
 MZ:mg "zip" = none
 DX:∃t,mg "LONGEST_WORD" = some (.int 8 t)
end
noncomputable abbrev kC:Key:=.inr (aaE "cells")
noncomputable abbrev kL:Key:=.inr (aaE "left")
noncomputable abbrev kS:Key:=.inr (aaE "seed")
noncomputable abbrev kM:Key:=.inr (aaE "many")
variable{b:Addr}{l s m v:Int}
def vC:Cz (stK b l s m) kC=some (.ref b):=da rfl
def vL:Cz (stK b l s m) kL=some (.int l):=rfl
def vS:Cz (stK b l s m) kS=some (.int s):=rfl
def vM:Cz (stK b l s m) kM=some (.int m):=rfl
def pL:putK (stK b l s m) kL (.int v)=stK b v s m:=rfl
def pM:putK (stK b l s m) kM (.int v)=stK b l s v:=rfl
def QC(x:String):TE:=Fx _root_.Q.NQ (B2 0) (tC (V.str (aaE x)))
def Qk:TS:=GY
   (Qp
    (IX
     (Fx (G6 λi j=>V.bl (decide (j<i))) (QC "left")
      (tC (V.int 0))))
    (GY
     (Gk
      (Fx (rI (λx j=>0<j) λi j=>V.int (i % j))
       (QC "left") (B2 1))
      (B8 3))
     (GY
      (Gk
       (Fx (rI OS λi j=>V.int (i / j)) (QC "left")
        (B2 1))
       (Ot (B2 0) (tC (V.str (aaE "left"))) _root_.Q.Jc))
      (Nr (B2 3))))
    Mp)
   (GY
    (Gk
     (Fx (G6 λi j=>V.int (i+j)) (QC "many")
      (tC (V.int 1)))
     (B8 4))
    (GY (Gk (B2 4) (Ot (B2 0) (tC (V.str (aaE "many"))) _root_.Q.Jc))
     (GY
      (Gk
       (Fx (rI (λx j=>0<j) λi j=>V.int (i % j))
        (Fx (rI HV λi j=>V.int (i*j))
         (Fx (G6 λi j=>V.int (i+j))
          (Fx (G6 λi j=>V.int (i+j)) (QC "seed")
           (Fx (rI HV λi j=>V.int (i*j)) (Fx (rI HV λi j=>V.int (i*j)) (B2 4) (B2 4))
            (tC (V.int 104729))))
          (tC (V.int 11)))
         (tC (V.int 48271)))
        (tC (V.int 2305843009213693921)))
       (B8 5))
      (GY
       (Gk
        (Fx (rI (λx j=>0<j) λi j=>V.int (i % j))
         (Fx (rI HV λi j=>V.int (i*j)) (B2 5)
          (Fx (G6 λi j=>V.int (i+j))
           (Fx (rI (λx j=>0<j) λi j=>V.int (i % j)) (B2 5) (tC (V.int 1000003)))
           (tC (V.int 39373))))
         (tC (V.int 2305843009213693907)))
        (B8 5))
       (Nr
        (Fx (rI (λx j=>0<j) λi j=>V.int (i % j))
         (Fx (rI OS λi j=>V.int (i / j)) (B2 5) (tC (V.int 8191))) (B2 1)))))))
variable{P:aaD}{w:World}{K:aaf}{mg:Aag}{base:Heap}
def EN:ap ["_law_state", "_law_many", "_law_cell", "_law_digit", "_law_turn", "_law_mixed"] ["_law_state", "_law_many"] (ak Jb):=#[rfl,rfl,rfl,by decide +kernel,rfl,by decide +kernel,by decide +kernel]
variable{fd:abM}
theorem vg{f:Addr}(F:H0 K "_law_next" "_law_next" Jb f fd)(hA:mg "abs" = none)(hI:mg "int" = none):BD P w K mg base Cu 1 f fd ["_law_state", "_law_many"] pK:=by
 refine F.ok EN (λvs H Q E h=>?_) (λBI A outer s H vs Q E hr h=>?_)
 .obtain⟨a,b,m,f,rfl,_⟩:=h;rfl
 .obtain⟨a,b,m,f,rfl,S,m0,m1,k⟩:=h;have hu:=hr.Ni;have HB:=_root_.Q.HB hr;refine#[_,aL (qQ (PW.pt (pw_and (ii A9 (cq (_root_.Q.CO HB) (pv 0) aQ (λ_ _=>rfl)) aA (Cg _)) (pw_and1 (ii (nZ hu) (cq (_root_.Q.CO HB) (pv 0) aQ (λ_ _=>rfl)) (nU aN) (Cg _)))))
    (aL (bu (i:=2) EN.nd rfl (Or.inl rfl) (qT acY ad9 ad8 n8 (cq (_root_.Q.CO HB) (pv 0) aQ (λ_ _=>rfl)) (aD aA aN)))
    (cV (gW (aE cB (bB oQ #[4] hA PyProof.Rows.boot_abs (aD (pv 2) aN)) (dU qz #[4] hI PyProof.Rows.boot_int (aD (lp A8 (bB oQ #[4] hA PyProof.Rows.boot_abs (aD (pv 2) aN)) (aE sU aA aA) (Cg _)) aN))) (j4 (pv 0) aQ (_root_.Q.set_dict HB)))))
    lf)
   (aL (qQ (ii qX (cq (_root_.Q.CO HB) (pv 0) aQ (λ_ _=>rfl)) aA (Cg _))
    (aL (bu (i:=3) EN.nd rfl (Or.inl rfl) (aE cC (cq (_root_.Q.CO HB) (pv 0) aQ (λ_ _=>rfl)) (pv 1)))
    (aL (gW (aE lu (cq (_root_.Q.CO HB) (pv 0) aQ (λ_ _=>rfl)) (pv 1)) (j4 (pv 0) aQ (_root_.Q.set_dict HB)))
    (cV (fq (pv 3)))))
    lf)
   (aL (bu (i:=4) EN.nd rfl (Or.inl rfl) (aE dy (cq (_root_.Q.CO HB) (pv 0) aQ (λ_ _=>rfl)) aA))
   (aL (gW (pv 4) (j4 (pv 0) aQ (_root_.Q.set_dict HB)))
   (aL (bu (i:=5) EN.nd rfl (Or.inl rfl) (aE cC (aE cB (aE dy (aE dy (cq (_root_.Q.CO HB) (pv 0) aQ (λ_ _=>rfl)) (aE cB (aE cB (pv 4) (pv 4)) aA)) aA) aA) aA))
   (aL (bu (i:=5) EN.nd rfl (Or.inl rfl) (aE cC (aE cB (pv 5) (aE dy (aE cC (pv 5) aA) aA)) aA))
   (cV (fq (aE cC (aE lu (pv 5) aA) (pv 1))))))))),?_]
  obtain⟨ns,left,seed,many,ha,hb,l0,s0,s1,n0,nb⟩:=S.st;have ab:a≠b:=λe=>by rw[e,hb]at ha;cases ha
  have G:∀{H1:Hp} {x y z:Int} {kk:Key} {v:V},H1 a=some (.dK (stK b x y z))->Cz (stK b x y z) kk=some v->Hm H1 a (kV kk) (some v):=λ{H1 x y z kk v} e h=>by
   have:=SU (k:=kk) e
   rwa [h]at this
  have Pt:∀{H1:Hp} {x y z:Int} {kk:Key} {v:V},H1 a=some (.dK (stK b x y z))->Ml H1 a (kV kk) v (upd H1 a (.dK (putK (stK b x y z) kk v))):=λe=>.inl #[_,_,e,rfl,by show 4<sizeLine;decide,rfl];have part2:∀(H1:Hp) (c2:Aav) (ns:Aas) (left:Int),IU a b H H1->H1 a=some (.dK (stK b left seed many))->H1 b=some (.lst (ns.map V.int))->0<=left->Qk {nx:=λ_ H'=>Q .Bw H',rt:=Q} [some (.ref a),some (.int m),c2,none,none,none] H1:=by
   intro H1 c2 ns left hB ha hb l0;refine#[_,rfl,a,_,rfl,G ha vL,_,_,rfl,rfl,_,rfl,?_];refine Rg (λq=>?_) (λq=>?_)
   .refine#[_,rfl,a,_,rfl,G ha vL,_,rfl,_,_,rfl,rfl,m0,?_];refine#[_,rfl,a,_,rfl,G ha vL,_,rfl,_,_,rfl,rfl,#[m0,m1],_,rfl,a,_,rfl,Pt (kk:=kL) ha,?_];refine#[_,rfl,?_];refine k _ _ (acF _ #[]) (acd _ m0) #[ns,left / m,seed,many,?_,?_,Int.ediv_nonneg l0 #[],s0,s1,n0,#[]] hB.NB
    .rw[pL];exact ah
    .rw[af ab.symm];exact hb
   .refine#[_,rfl,a,_,rfl,G ha vM,_,_,rfl,rfl,?_];refine#[_,rfl,_,rfl,a,_,rfl,Pt (kk:=kM) ha,?_];rw[pM];have Xb:(upd H1 a (.dK (stK b left seed (many+1)))) a=some (.dK (stK b left seed (many+1))):=ah;have KA:(upd H1 a (.dK (stK b left seed (many+1)))) b=some (.lst (ns.map V.int)):=by rw[af ab.symm];exact hb
    refine#[_,rfl,a,_,rfl,G Xb vS,_,rfl,_,rfl,_,_,rfl,rfl,.inl #[#[],#[]],_,_,rfl,rfl,.inr #[#[2],#[2]],_,_,rfl,rfl,_,_,rfl,rfl,_,_,rfl,rfl,.inr #[#[2],#[2]],_,_,rfl,rfl,(by show (0:Int)<_;decide),?_];refine#[_,rfl,_,rfl,_,_,rfl,rfl,(by show (0:Int)<_;decide),_,_,rfl,rfl,_,_,rfl,rfl,.inr #[?_,?_],_,_,rfl,rfl,(by show (0:Int)<_;decide),?_]
    .have:=acF ((seed+(many+1)*(many+1)*104729+11)*48271 % 2305843009213693921) (show (1000003:Int)≠0 by decide);omega
    .have:=acd ((seed+(many+1)*(many+1)*104729+11)*48271 % 2305843009213693921) (show (0:Int)<1000003 by decide);omega
    refine#[_,rfl,_,_,rfl,rfl,#[#[2],#[2]],_,rfl,_,_,rfl,rfl,m0,?_];exact k _ _ (acF _ #[]) (acd _ m0) #[ns,left,seed,many+1,Xb,KA,l0,s0,s1,#[],#[]] hB.NB
  show GY _ Qk _ [some (.ref a),some (.int m),none,none,none,none] H;refine#[_,rfl,a,_,rfl,G ha vL,rfl,_,rfl,?_];refine Rg (λq=>?_) (λq=>?_)
  rotate_left
  .exact FP (part2 H none ns left (IU.refl a b H) ha hb l0)
  refine#[_,rfl,a,_,rfl,G ha vC,aba _,λp hp=>?_];have Ly:∀o,(upd H p o) a=some (.dK (stK b left seed many)):=λo=>by rw[af (ao ha hp)];exact ha
  have O8:∀o,(upd H p o) b=some (.lst (ns.map V.int)):=λo=>by rw[af (ao hb hp)];exact hb
  have B1:=(IU.refl a b H).grow (o:=.lst []) hp;refine#[b,p,_,rfl,rfl,.inl (.inl (O8 _)),.inl (.inl ah),_,rfl,?_];cases ns with
  |nil=>exact FP (part2 _ none [] left B1 (Ly _) (O8 _) l0)
  |cons x r=>
   refine Gv ?_;refine#[_,rfl,a,_,rfl,G (Ly _) vC,.inl #[rfl,_,CN.of (O8 _)],b,_,0,0,_,rfl,rfl,O8 _,#[2],#[2],?_,rfl,?_]
   .simp[afg]
   have Zg:∀o,(upd (upd H p (.lst [])) b o) a=some (.dK (stK b left seed many)):=λo=>by rw[af ab];exact Ly _
   refine#[_,rfl,x,rfl,_,rfl,x,rfl,_,_,rfl,rfl,#[#[2],#[2],#[2]],_,_,rfl,rfl,_,rfl,_,_,rfl,rfl,?_,?_]
   .have RL:∀bb:Bool,-(2 ^ 64)<(if bb=true then (1:Int)else 0)/\(if bb=true then (1:Int)else 0)<2 ^ 64:=λbb=>by cases bb<;>exact#[#[2],#[2]]
    exact .inr (RL _)
   refine#[_,rfl,a,_,rfl,Pt (kk:=kL) (Zg _),?_];rw[pL];refine part2 _ _ r _ (B1.TV.NB) ah ?_ ?_
   .rw[af ab.symm];exact ah
   .refine Int.mul_nonneg ?_ ?_
    .show (0:Int)<=(if x<0 then -x else x)
     split<;>omega
    .have RL:∀bb:Bool,(0:Int)<=(if bb=true then (1:Int)else 0):=λbb=>by cases bb<;>decide
     exact RL _
def vz:El [] (stK b l s m)=stK b l s m:=rfl
def Ex:ap ["_law_script", "_law_cells", "_law_seed", "_law_cell"] ["_law_script"] (ak G4):=#[rfl,rfl,rfl,by decide +kernel,rfl,by decide +kernel,by decide +kernel]
theorem tj{f:Addr}(F:H0 K "_law_begin" "_law_begin" G4 f fd)(hL:mg "len" = none)(hT:mg "list" = none):BD P w K mg base Cu 1 f fd ["_law_script"] (fO K):=by
 refine F.ok Ex (λvs H Q E h=>?_) (λBI A outer s H vs Q E hr h=>?_)
 .obtain⟨a,ns,rfl,_⟩:=h;rfl
 .obtain⟨a,ns,rfl,hS,hlen,k⟩:=h;refine#[_,aL (bu (i:=1) Ex.nd rfl (Or.inl rfl) (dU oO #[4] hT PyProof.Rows.boot_list (aD (jt pO (pv 0) pY (pX aA)) aN)))
   (aL (bu (i:=2) Ex.nd rfl (Or.inl rfl) (aE dy (aE cB (bB hU #[4] hL PySem.boot_len (aD (pv 1) aN)) aA) aA))
   (aL (sx afr rfl (wZ (pv 1)) (lm (i:=3) Ex.nd rfl (Or.inl rfl))
    (cV (bu (i:=2) Ex.nd rfl (Or.inl rfl) (aE cC (aE dy (aE cB (pv 2) aA) (aE cC (pv 3) aA)) aA))))
   (cV (fq (p0 (du aQ (pv 1) (du aQ aA (du aQ (pv 2) (du aQ aA pW)))) rfl rfl #[0] #[2]))))),?_]
  have cut:FY (ns.map V.int) none (some 63)=ns.map V.int:=by
   unfold FY;rw[HT.FD];have e:HT.Cv (ns.map V.int).length (ns.map V.int).length (some 63)=(ns.map V.int).length:=by have:=HT.G3 (ns.map V.int).length (ns.map V.int).length 63;refine this.trans ?_;rw[aac];omega
   rw[e,Nat.sub_zero,List.drop_zero,abi]
  have grow:∀{H':Hp} {p:Addr} {o:HO},dO H H'->H' p=none->dO H (upd H' p o):=λ{H' p o} hs hp c u h=>by have q:=hs c u h;rw[af (ao q hp)];exact q
  refine#[_,rfl,63,rfl,a,_,rfl,hS,λp hp=>?_];rw[cut];have s1:dO H (upd H p (.lst (ns.map V.int))):=grow (dO.refl H) hp;refine#[p,_,rfl,.inl (.inl (.inl ah)),λq hq=>?_];have s2:dO H (upd (upd H p (.lst (ns.map V.int))) q (.lst (ns.map V.int))):=grow s1 hq;have Zs:H q=none:=s1.free hq;generalize Zt:upd (upd H p (.lst (ns.map V.int))) q (.lst (ns.map V.int))=H2 at s2;have Iz:H2 q=some (.lst (ns.map V.int)):=by rw[<- Zt];exact ah
  refine#[_,rfl,q,_,rfl,.inl (.inl (.inl Iz)),_,_,rfl,rfl,.inr #[#[2],#[2]],_,_,rfl,rfl,?_];refine#[_,rfl,q,rfl,#[_,.inl (.inl Iz)],vJ (K:=K) (a:=q) (xs:=ns.map V.int) (λi U H3=>∃(z:Int) (v:Aav),U=[some (.ref a),some (.ref q),some (.int z),v]/\H3=H2/\0<=z/\z<2305843009213693951)
   #[_,none,rfl,rfl,by show (0:Int)<=((ns.map V.int).length:Nat)*7919+5;omega,by show ((ns.map V.int).length:Nat)*(7919:Int)+5<_;rw[aac];omega] (λi U H3 _ #[_,_,_,e,_]=>by rw[e];exact .inl (.inl Iz)) ?_ ?_]
  .rintro i y U H3 hi ⟨z,v,rfl,rfl,z0,z1⟩;obtain⟨c,rfl⟩:∃c,y=V.int c:=by
    rw[aal]at hi;cases e:ns[i]? with
    |none=>rw[e]at hi;cases hi
    |some c=>rw[e]at hi;exact#[c,(aar hi).symm]
   refine#[_,rfl,_,_,rfl,rfl,.inr #[#[2],#[2]],_,rfl,_,_,rfl,rfl,(by show (0:Int)<_;decide),_,_,rfl,rfl,_,_,rfl,rfl,(by show (0:Int)<_;decide),?_];exact#[_,_,rfl,rfl,acF _ #[2],acd _ #[2]]
  .rintro U H3 ⟨z,v,rfl,rfl,z0,z1⟩;intro d hd;refine#[_,rfl,_,rfl,?_];have WK:q≠d:=λe=>by rw[e,hd]at Iz;cases Iz
   refine#[ah,stK q 0 z 0,rfl,by show 4<=15;decide,?_];refine k d q _ (s2.free hd) Zs #[ns,0,z,0,?_,?_,#[2],z0,z1,#[2],#[2]] ?_
   .rw[ah,vz]
   .rw[af WK,af WK];exact Iz
   .rw[wK];exact grow s2 hd
open PySem L2 Q
variable{P:aaD}{w:World}{K:aaf}{mg:Aag}{base:Heap}
structure Cp(x:Str):Prop where
 lo:1<=x.cps.toList.length
 hi:x.cps.toList.length<=8
 ok:∀c∈x.cps.toList,97<=c/\c<=122
noncomputable def ch(i:Nat):Str:=#[#v[97+i]]
variable{x y:Str}
def kJ(h:x.cps.toList=y.cps.toList):x=y:=by exact congrArg Str.mk (Array.toList_inj.mp h)
def nO(b m:Nat):(G5 (ch b) m).cps.toList=aaO m (97+b):=by
 unfold G5 ch;induction m with
 |zero=>rfl
 |succ m ih=>simpa using ih
def fY(x y:Str):(x++y).cps.toList=x.cps.toList++y.cps.toList:=by show (x.cps++y.cps).toList=_;simp
noncomputable def M8:Str := "abcdefghijklmnopqrstuvwxyz"
def AV:∀i:Nat,i<26->M8.cps.toList[i]?=some (97+i):=by decide +kernel
structure iF where
 nm:Str
 one:Str
 Bp:Str
 cost:Int
abbrev _root_.Aaf:=List iF
noncomputable def t0:iF:=#[#[#v[]],#[#v[]],#[#v[]],0]
structure Nb(t:iF):Prop where
 nm:Cp t.nm
 one:Cp t.one
 Bp:Cp t.Bp
 lt:B0 t.one t.Bp
 lo : -(10 ^ 30)<t.cost
 hi:t.cost<10 ^ 30
structure Eh(ps:Aaa)(ts:Aaf):Prop where
 rise:ps.Pairwise B0
 word:∀x∈ps,Cp x
 names:(ts.map iF.nm).Pairwise B0
 tie:∀t∈ts,Nb t
def oe(h1:¬ B0 y x)(h2:x≠y):B0 x y:=by
 rcases List.le_iff_lt_or_eq.mp (List.not_lt.mp h1)with z|z
 .exact z
 .exact absurd (kJ z) h2
variable{l:Aaa}
def yS(hp:l.Perm [x,y])(hs:l.Pairwise λa b=>¬ B0 b a)(hn:x≠y):∃u v,l=[u,v]/\B0 u v/\(u=x\/u=y)/\(v=x\/v=y):=by
 have hl:=hp.length_eq
 match l,hl with
 |[u,v],_=>
  have hu:u=x\/u=y:=by simpa using hp.mem_iff.mp #[0]
  have hv:v=x\/v=y:=by simpa using hp.mem_iff.mp #[0]
  have nd  := hp.nodup_iff.mpr #[1];have hne:u≠v:=by simp_all
  refine#[u,v,rfl,oe ?_ hne,hu,hv];have:=List.rel_of_pairwise_cons hs (show v∈[v]by simp);exact this
def fo(hs:l.Pairwise λa b=>¬ B0 b a)(hn:l.Nodup):l.Pairwise B0:=by have:=List.nodup_iff_pairwise_ne.mp hn;exact(hs.and this).imp λ#[h1,h2]=>oe h1 h2
noncomputable def iD(t:iF):PV:=.tup [.str t.nm,.str t.one,.str t.Bp,.int t.cost]
noncomputable def Bt(ps:Aaa)(ts:Aaf):PV:=.tup [.tup (ps.map .str),.tup (ts.map iD)]
abbrev av:Eu:=mJ
variable{m:Int}
theorem draw{f:Nat}{P:Aaq}(h0:0<m)(h1:m<1073741824)(k:∀r:Nat,(r:Int)<m->P (.int r) (.int (f:Int))):av (.int ((f+1:Nat):Int)) [.int m] P :=
 #[f,m,rfl,rfl,h0,h1,λr r0 r1=>by
  obtain⟨i,rfl⟩:∃i:Nat,r=i:=#[r.toNat,#[]]
  exact k i r1]
def gh:Eu:=λc xs P=>∃(f:Nat) (q:Int),c=.int ((f+2:Nat):Int)/\xs=[.int q]/\∀(v:Int) (f':Nat),f<=f' -> -(10 ^ 30)<v->v<10 ^ 30->P (.int v) (.int (f':Int))
def gg:Eu:=λc xs P=>∃(f:Nat) (ws:Aaa) (st k:Int),c=.int ((f+4:Nat):Int)/\xs=[.lst (ws.map .str),.int st,.int k]/\2<=ws.length/\ws.length<=60/\ws.Nodup/\∀(u v:Str) (f':Nat),f<=f'->u∈ws->v∈ws->B0 u v->P (.tup [.str u,.str v]) (.int (f':Int))
def cG:Eu:=λc xs P=>∃(f:Nat) (n:Nat),c=.int ((f+20:Nat):Int)/\xs=[.int n]/\n<=52/\∀(ws:Aaa) (f':Nat),f<=f'->ws.length=n->ws.Pairwise B0->(∀x∈ws,Cp x)->P (.lst (ws.map .str)) (.int (f':Int))
def fH:Eu:=λc xs P=>∃(f:Nat) (M T:Int),c=.int ((f+1000:Nat):Int)/\xs=[.int M,.int T]/\0<=M/\M<=40/\8<=T/\T<=50/\∀(ps:Aaa) (ts:Aaf) (f':Nat),f<=f'->Eh ps ts->(ps.length:Int)<=M->(ts.length:Int)<=T->P (Bt ps ts) (.int (f':Int))
def cf(Y:Ev K mg):BD P w K mg base Cu 1 Y.Jk.f Y.Jk.fd ["_law_state", "_law_many"] (Li #[P,w,K,DE K] 2 av):=tw (vg Y.Jk.F Y.M7 Y.Ld)
def t5(Y:Ev K mg):BD P w K mg base Cu 1 Y.Es.f Y.Es.fd ["_law_script"] (fO K):=tj Y.Es.F Y.Lc Y.La
open PySem L2
noncomputable def BC(ps:Aaa)(t:iF):Bool:=decide (t.one∈ps) && decide (t.Bp∈ps)
variable{ps:Aaa}{t:iF}
def BR:BC ps t=true↔t.one∈ps/\t.Bp∈ps:=by unfold BC;simp
noncomputable def B6(ns:Aaa)(t:iF):Bool:=decide (t.nm∈ns)
variable{ns:Aaa}
def ce:B6 ns t=true↔t.nm∈ns:=by unfold B6;simp
variable{x y:Str}
def j7(h:B0 x y):x≠y:=λe=>by subst e;exact adI _ h
variable{ts:Aaf}
def bQ(h:Eh ps ts):(ts.map iF.nm).Nodup:=List.nodup_iff_pairwise_ne.mpr (h.names.imp λz=>j7 z)
variable{α:Type}{i:Nat}
def jb{f:α->Bool}{ts:List α}(hi:i<ts.length):(ts.take (i+1)).filter f=(ts.take i).filter f++(if f ts[i]=true then [ts[i]]else []):=by rw[abI,aab hi,aeC];congr 1;show List.filter f [ts[i]]=_;rw[adc];rfl
noncomputable def ends(p:Str)(t:iF):List (Str×Str):=(if t.one=p then [(t.nm,t.Bp)]else [])++(if t.Bp=p then [(t.nm,t.one)]else [])
noncomputable def BW(ps:Aaa)(ts:Aaf)(p:Str):List (Str×Str):=(ts.filter (BC ps)).flatMap (ends p)
def wv(hi:i<ts.length)(p:Str):BW ps (ts.take (i+1)) p=BW ps (ts.take i) p++(if BC ps ts[i]=true then ends p ts[i]else []):=by
 unfold BW;rw[jb hi]
 split<;>simp
def pk(p:Str)(t:iF):(ends p t).length<=2:=by
 unfold ends
 split<;>split<;>simp
theorem rh(ps:Aaa)(ts:Aaf)(p:Str):(BW ps ts p).length<=2*ts.length:=by
 unfold BW;have h1:∀us:Aaf,(us.flatMap (ends p)).length<=2*us.length:=λus=>by
  induction us with
  |nil=>simp
  |cons t r ih=>rw[List.flatMap_cons,aav,aaG];have:=pk p t;omega
 have h2:=h1 (ts.filter (BC ps));have h3:=aaA (BC ps) ts;omega
inductive BF (g:Str->List (Str×Str)) (s:Str):Str->Prop where
 |refl:BF g s s
 |step {x y nm:Str}:BF g s x->(nm,y)∈g x->BF g s y
abbrev Cs:=List (Str×Option (Str×Str))
noncomputable abbrev Dp(cs:Cs):Aaa:=cs.map (·.1)
structure E7(g:Str->List (Str×Str))(start:Str)(cs:Cs):Prop where
 nd:(Dp cs).Nodup
 tree:∀(i:Nat) (c:Str×Option (Str×Str)),cs[i]?=some c->(i=0/\c=(start,none))\/(0<i/\∃nm x,c.2=some (nm,x)/\(nm,c.1)∈g x/\x∈Dp (cs.take i))
 ne:cs≠[]
variable{g:Str->List (Str×Str)}{cs:Cs}
def E7.start{start:Str}(x:E7 g start cs):start∈Dp cs:=by
 cases cs with
 |nil=>exact absurd rfl x.ne
 |cons c r=>
  rcases x.tree 0 c rfl with ⟨_,e⟩|⟨e,_⟩
  .subst e;exact aan
  .exact absurd e (abv _)
def E7.sound{start:Str}(x:E7 g start cs):∀(i:Nat),∀y∈Dp (cs.take i),BF g start y
 |0,y,h=>by simp_all
 |i+1,y,h=>by
  rw[abI]at h;unfold Dp at h;rw[aaM]at h;rcases List.mem_append.mp h with h|h
  .exact E7.sound x i y h
  .cases e:cs[i]? with
   |none=>rw[e]at h;simp at h
   |some c=>
    rw[e]at h;have hy:y=c.1:=by simp_all
    subst hy;rcases x.tree i c e with ⟨_,e⟩|⟨_,nm,z,e1,e2,e3⟩
    .subst e;exact .refl
    .exact .step (E7.sound x i z e3) e2
def E7.iff{start:Str}(x:E7 g start cs)(cl:∀y∈Dp cs,∀q∈g y,q.2∈Dp cs):y∈Dp cs↔BF g start y:=by
 constructor
 .refine λh=>x.sound cs.length y ?_;rw[abi];exact h
 .intro h;induction h with
  |refl=>exact x.start
  |step _ h ih=>exact cl _ ih _ h
variable{nm:Str}
theorem E7.snoc{start:Str}(h:E7 g start cs)(hy:y∉Dp cs)(hx:x∈Dp cs)(hg:(nm,y)∈g x):E7 g start (cs++[(y,some (nm,x))]):=by
 refine#[?_,λi c hc=>?_,#[0]]
 .unfold Dp;rw[aaM,abG];refine#[h.nd,#[0],λa ha b hb=>?_];have:b=y:=by simp_all
  intro z;exact hy #[1]
 .rcases adO i cs.length with z|z|z
  .rw[aat z]at hc;rw[ae4 #[]];exact h.tree i c hc
  .subst z;have e  :=by simpa using hc.symm
   subst e;refine .inr #[?_,nm,x,rfl,hg,?_]
   .cases cs with
    |nil=>exact absurd rfl h.ne
    |cons _ _=>simp
   .rw[ae4 (aaj _),abi];exact hx
  .rw[aao #[3]]at hc;cases hc
theorem aB[DecidableEq α]:∀{xs ys:List α},xs.Nodup->(∀x∈xs,x∈ys)->xs.length<=ys.length
 |[],_,_,_=>aba _
 |x::r,ys,nd,h=>by
  obtain⟨n1,n2⟩:=List.nodup_cons.mp nd;have hx:=h x aan;have:=aB n2 λz hz=>by have Yr:z≠x:=λe=>n1 #[1];exact(List.mem_erase_of_ne Yr).mpr (h z (aam _ hz))
  rw[List.length_erase_of_mem hx]at this;have hp:=acx hx;rw[aaG];omega
variable{z:Str}
def dz(a:B0 x y)(b:B0 y z):B0 x z:=List.lt_trans a b
def bw(x:Str):¬ B0 x x:=adI _
def dA(a:B0 x y):¬ B0 y x:=λb=>bw x (dz a b)
def cX(x y:Str):B0 x y\/x=y\/B0 y x:=by
 by_cases h:B0 y x
 .exact .inr (.inr h)
 .by_cases e:x=y
  .exact .inr (.inl e)
  .exact .inl (oe h e)
def jp:∀{xs ys:Aaa},xs.Pairwise B0->ys.Pairwise B0->(∀z,z∈xs↔z∈ys)->xs=ys
 |[],[],_,_,_=>rfl
 |[],y::ys,_,_,h=>absurd ((h y).mpr aan) #[0]
 |x::xs,[],_,_,h=>absurd ((h x).mp aan) #[0]
 |x::xs,y::ys,hx,hy,h=>by
  obtain⟨x1,x2⟩:=List.pairwise_cons.mp hx;obtain⟨y1,y2⟩:=List.pairwise_cons.mp hy;have e:x=y:=by
   rcases List.mem_cons.mp ((h x).mp aan)with e|e
   .exact e
   .rcases List.mem_cons.mp ((h y).mpr aan)with e'|e'
    .exact e'.symm
    .exact absurd (x1 y e') (dA (y1 x e))
  subst e;rw[jp x2 y2 λz=>?_];constructor
  .intro hz;rcases List.mem_cons.mp ((h z).mp (aam _ hz))with e|e
   .subst e;exact absurd (x1 z hz) (bw z)
   .exact e
  .intro hz;rcases List.mem_cons.mp ((h z).mpr (aam _ hz))with e|e
   .subst e;exact absurd (y1 z hz) (bw z)
   .exact e
def bh{xs:Aaa}(h:xs.Pairwise B0):xs.Nodup:=List.nodup_iff_pairwise_ne.mpr (h.imp λz=>j7 z)
open Classical in
noncomputable def rb(g:Str->List (Str×Str))(s y:Str):Bool:=decide (BF g s y)
variable{s:Str}
def Ds:rb g s y=true↔BF g s y:=by unfold rb;simp
def BF.Dt(h:BF g s y)(hs:s∈ps)(Gf:∀p∈ps,∀q∈g p,q.2∈ps):y∈ps:=by
 induction h with
 |refl=>exact hs
 |step _ h ih=>exact Gf _ ih _ h
noncomputable def root(ps:Aaa)(g:Str->List (Str×Str))(s:Str):Bool:=!ps.any λp=>decide (B0 p s) && rb g p s
def B9:root ps g s=true↔∀p∈ps,BF g p s->¬ B0 p s:=by
 unfold root;rw[abl,List.any_eq_false];constructor
 .exact λh p hp hr hl=>h p hp (by rw[aaS,Ds];exact#[decide_eq_true hl,hr])
 .intro h p hp z;rw[aaS,Ds]at z;exact h p hp z.2 (of_decide_eq_true z.1)
noncomputable def GH(ps:Aaa)(g:Str->List (Str×Str)):List (Aaa):=(ps.filter (root ps g)).map λs=>ps.filter (rb g s)
variable{p:Str}
def D3{q:Str}:(nm,q)∈BW ps ts p↔∃t∈ts,BC ps t=true/\nm=t.nm/\((t.one=p/\t.Bp=q)\/(t.Bp=p/\t.one=q)):=by
 unfold BW;rw[List.mem_flatMap];constructor
 .rintro⟨t,ht,h⟩;obtain⟨h1,h2⟩:=List.mem_filter.mp ht;rcases List.mem_append.mp h with z|z
  .split at z
   .rename_i e;have:(nm,q)=(t.nm,t.Bp):=by simp_all
    cases this;exact#[t,h1,h2,rfl,.inl #[e,rfl]]
   .simp at z
  .split at z
   .rename_i e;have:(nm,q)=(t.nm,t.one):=by simp_all
    cases this;exact#[t,h1,h2,rfl,.inr #[e,rfl]]
   .simp at z
 .rintro⟨t,h1,h2,rfl,h3⟩;refine#[t,List.mem_filter.mpr #[h1,h2],?_];rcases h3 with ⟨e1,e2⟩|⟨e1,e2⟩
  .exact aaH _ #[1]
  .exact aak _ #[1]
def iz:∀q∈BW ps ts p,q.2∈ps:=λ#[nm,q] h=>by
 obtain⟨t,h1,h2,h3,h4⟩:=D3.mp h;obtain⟨o1,o2⟩:=BR.mp h2;rcases h4 with ⟨a,b⟩|⟨a,b⟩
 .rw[<- b];exact o2
 .rw[<- b];exact o1
def JR(x y:Str):Prop:=¬ B0 y x
def dB(x:Str):JR x x:=bw x
def cD(a:JR x y)(b:JR y z):JR x z:=λh=>by
 rcases cX x y with c|c|c
 .exact b (dz h c)
 .subst c;exact b h
 .exact a c
def tG(x y:Str):JR (FJ x y) x:=by
 unfold FJ;split
 .rename_i h;exact dA h
 .exact dB x
def tF(x y:Str):JR (FJ x y) y:=by
 unfold FJ;split
 .exact dB y
 .rename_i h;exact h
def qc(x y:Str):FJ x y=x\/FJ x y=y:=by
 unfold FJ;split
 .exact .inr rfl
 .exact .inl rfl
noncomputable def C1(t:iF)(L:Str->Str):Str->Str:=λx=>if x=t.Bp then FJ (L t.one) (L t.Bp)else if x=t.one then FJ (L t.one) (L t.Bp)else L x
noncomputable def round(os:Aaf)(L:Str->Str):Str->Str:=os.foldl (λL t=>C1 t L) L
noncomputable def DN(os:Aaf):Nat->Str->Str
 |0=>id
 |n+1=>round os (DN os n)
def jq(t:iF)(L:Str->Str)(x:Str):JR (C1 t L x) (L x):=by
 unfold C1;split
 .rename_i h;subst h;exact tF _ _
 .split
  .rename_i h;subst h;exact tG _ _
  .exact dB _
def fS:∀(os:Aaf) (L:Str->Str) (x:Str),JR (round os L x) (L x)
 |[],_,_=>dB _
 |t::r,L,x=>cD (fS r (C1 t L) x) (jq t L x)
def jY:∀(os:Aaf) (L:Str->Str),∀t∈os,JR (round os L t.one) (L t.Bp)/\JR (round os L t.Bp) (L t.one)
 |[],_,t,h=>nomatch h
 |u::r,L,t,h=>by
  rcases List.mem_cons.mp h with rfl|h
  .have a:=fS r (C1 t L) t.one;have b:=fS r (C1 t L) t.Bp;have m1:C1 t L t.Bp=FJ (L t.one) (L t.Bp):=by unfold C1;rw[if_pos rfl]
   have m2:C1 t L t.one=FJ (L t.one) (L t.Bp):=by
    unfold C1;split
    .rfl
    .rw[if_pos rfl]
   rw[m2]at a;rw[m1]at b;exact#[cD a (tF _ _),cD b (tG _ _)]
  .obtain⟨a,b⟩:=jY r (C1 u L) t h;exact#[cD a (jq u L _),cD b (jq u L _)]
noncomputable def Rk(g:Str->List (Str×Str)):Nat->Str->Str->Prop
 |0,x,y=>x=y
 |k+1,x,y=>Rk g k x y\/∃nm z,(nm,z)∈g x/\Rk g k z y
structure EK(ps:Aaa)(os:Aaf)(g:Str->List (Str×Str)):Prop where
 mem:∀p nm q,(nm,q)∈g p↔∃t∈os,nm=t.nm/\((t.one=p/\t.Bp=q)\/(t.Bp=p/\t.one=q))
 Dt:∀t∈os,t.one∈ps/\t.Bp∈ps
variable{os:Aaf}
def EK.sym(G:EK ps os g){q:Str}(h:(nm,q)∈g p):(nm,p)∈g q:=by
 obtain⟨t,a,b,c⟩:=(G.mem _ _ _).mp h;refine(G.mem _ _ _).mpr #[t,a,b,?_];rcases c with ⟨x,y⟩|⟨x,y⟩
 .exact .inr #[y,x]
 .exact .inl #[y,x]
def EK.Rj(G:EK ps os g):∀q∈g p,q.2∈ps:=λ#[nm,q] h=>by
 obtain⟨t,a,b,c⟩:=(G.mem _ _ _).mp h;rcases c with ⟨x,y⟩|⟨x,y⟩
 .rw[<- y];exact(G.Dt t a).2
 .rw[<- y];exact(G.Dt t a).1
def BF.trans(a:BF g x y)(b:BF g y z):BF g x z:=by
 induction b with
 |refl=>exact a
 |step _ h ih=>exact .step ih h
def EK.DM(G:EK ps os g)(h:BF g x y):BF g y x:=by
 induction h with
 |refl=>exact .refl
 |step _ h ih=>exact BF.trans (.step .refl (G.sym h)) ih
def cZ(ps:Aaa)(ts:Aaf):EK ps (ts.filter (BC ps)) (BW ps ts):=by
 refine#[λp nm q=>?_,λt ht=>BR.mp (List.mem_filter.mp ht).2];rw[D3];constructor
 .rintro⟨t,a,b,c⟩;exact#[t,List.mem_filter.mpr #[a,b],c]
 .rintro⟨t,a,c⟩;obtain⟨a,b⟩:=List.mem_filter.mp a;exact#[t,a,b,c]
def eJ(G:EK ps os g):∀(k:Nat) (x y:Str),Rk g k x y->JR (DN os k x) y
 |0,x,y,h=>by cases h;exact dB _
 |k+1,x,y,h=>by
  rcases h with h|⟨nm,z,hz,h⟩
  .exact cD (fS os (DN os k) x) (eJ G k x y h)
  .have ih:=eJ G k z y h;obtain⟨t,ht,_,c⟩:=(G.mem _ _ _).mp hz;obtain⟨a,b⟩:=jY os (DN os k) t ht;rcases c with ⟨e1,e2⟩|⟨e1,e2⟩
   .subst e1 e2;exact cD a ih
   .subst e1 e2;exact cD b ih
def o0(G:EK ps os g)(ht:t∈os){L:Str->Str}(h:∀x,BF g x (L x)):∀x,BF g x (C1 t L x):=by
 have e1:BF g t.one t.Bp:=.step .refl ((G.mem _ _ _).mpr #[t,ht,rfl,.inl #[rfl,rfl]]);have e2:BF g t.Bp t.one:=.step .refl ((G.mem _ _ _).mpr #[t,ht,rfl,.inr #[rfl,rfl]]);intro x;unfold C1;split
 .rename_i e;subst e;rcases qc (L t.one) (L t.Bp)with z|z<;>rw[z]
  .exact e2.trans (h _)
  .exact h _
 .split
  .rename_i e;subst e;rcases qc (L t.one) (L t.Bp)with z|z<;>rw[z]
   .exact h _
   .exact e1.trans (h _)
  .exact h x
def iY(G:EK ps os g):∀(us:Aaf) (L:Str->Str),(∀t∈us,t∈os)->(∀x,BF g x (L x))->∀x,BF g x (round us L x)
 |[],L,_,h=>h
 |t::r,L,hs,h=>iY G r (C1 t L) (λu hu=>hs u (aam _ hu)) (o0 G (hs t aan) h)
def dq(G:EK ps os g):∀(k:Nat) (x:Str),BF g x (DN os k x)
 |0,x=>.refl
 |k+1,x=>iY G os _ (λ_ h=>h) (dq G k) x
open Classical in
theorem R9(G:EK ps os g)(nd:ps.Nodup)(hy:y∈ps):∀k:Nat,(∀x,BF g y x->Rk g k x y)\/k<(ps.filter λx=>decide (Rk g k x y)).length
 |0=>by right;have:y∈ps.filter λx=>decide (Rk g 0 x y):=List.mem_filter.mpr #[hy,by simp[Rk]];exact acx this
 |k+1=>by
  rcases R9 G nd hy k with h|h
  .exact .inl λx hx=>.inl (h x hx)
  .by_cases c:∃x∈ps,Rk g (k+1) x y/\¬ Rk g k x y
   .right;obtain⟨x,hx,c1,c2⟩:=c;have:=aB (xs:=x::(ps.filter λx=>decide (Rk g k x y))) (ys:=ps.filter λx=>decide (Rk g (k+1) x y))
     (List.nodup_cons.mpr #[λz=>c2 (by have:=(List.mem_filter.mp z).2;simpa using this),nd.sublist aa8])
     (λz hz=>by
      rcases List.mem_cons.mp hz with rfl|hz
      .exact List.mem_filter.mpr #[hx,by simpa using c1]
      .obtain⟨z1,z2⟩:=List.mem_filter.mp hz;exact List.mem_filter.mpr #[z1,by simp only[decide_eq_true_eq]at z2 ⊢;exact .inl z2])
    rw[aaG]at this;omega
   .left;have key:∀x,BF g y x->x∈ps/\Rk g k x y:=λx hx=>by
     induction hx with
     |refl=>
      refine#[hy,?_];have:∀j,Rk g j y y:=λj=>by
       induction j with
       |zero=>rfl
       |succ j ih=>exact .inl ih
      exact this k
     |@step u v nm _ hv ih=>have Ku:v∈ps:=G.Rj _ hv;refine#[Ku,?_];have:Rk g (k+1) v y:=.inr #[nm,u,G.sym hv,ih.2];exact aaZ λz=>c #[v,Ku,this,z]
    exact λx hx=>.inl (key x hx).2
def qP(G:EK ps os g)(nd:ps.Nodup)(hy:y∈ps)(h:BF g y x):Rk g ps.length x y:=by
 rcases R9 G nd hy ps.length with a|a
 .exact a x h
 .exact absurd a (Nat.not_lt.mpr (aaA _ _))
structure Sm(ps:Aaa)(g:Str->List (Str×Str))(L:Str->Str):Prop where
 Dt:∀x∈ps,L x∈ps
 Mv:∀x,BF g x (L x)
 least:∀x∈ps,∀y∈ps,BF g x y->JR (L x) y
def nG(G:EK ps os g)(nd:ps.Nodup):Sm ps g (DN os ps.length) where
 Dt:=λx hx=>(dq G ps.length x).Dt hx λp _=>G.Rj
 Mv:=dq G ps.length
 least:=λx hx y hy h=>eJ G ps.length x y (qP G nd hy (G.DM h))
def mw(ps ns:Aaa)(ts:Aaf):(ts.filter (BC ps)).filter (B6 ns)=(ts.filter (B6 ns)).filter (BC ps):=by rw[acb,acb];exact ab1 λt _=>Bool.and_comm _ _
variable{Gs:Aaf}{g':Str->List (Str×Str)}
def fg(G:EK ps os g)(G':EK ps Gs g')(h:∀t∈os,t∈Gs)(r:BF g x y):BF g' x y:=by
 induction r with
 |refl=>exact .refl
 |step _ e ih=>obtain⟨t,a,b,c⟩:=(G.mem _ _ _).mp e;exact .step ih ((G'.mem _ _ _).mpr #[t,h t a,b,c])
def uQ(G:EK ps os g)(G':EK ps Gs g')(h:∀t∈os,t∈Gs)(r:root ps g' s=true):root ps g s=true:=by rw[B9]at r ⊢;exact λp hp e=>r p hp (fg G G' h e)
def fU{p q:α->Bool}:∀{l:List α},(∀x∈l,p x=true->q x=true)->(l.filter p).Sublist (l.filter q)
 |[],_=>adQ _
 |x::l,h=>by
  have ih:=fU (l:=l) λy hy=>h y #[1];rw[adc,adc];cases e:p x with
  |false=>
   rw[if_neg #[0]];split
   .exact ih.cons _
   .exact ih
  |true=>rw[if_pos (h x #[0] e)];exact ih.cons_cons _
def nH(G:EK ps os g){r:Str}(hr:r∈ps)(hs:s∈ps)(h1:root ps g r=true)(h2:root ps g s=true)(h:BF g r s):r=s:=by
 rw[B9]at h1 h2;rcases cX r s with z|z|z
 .exact absurd z (h2 r hr h)
 .exact z
 .exact absurd z (h1 s hs (G.DM h))
def bR(G:EK ps os g)(G':EK ps Gs g')(h:∀u,u∈Gs↔u∈os\/u=t)(r:BF g' x y):BF g x y\/(BF g x t.one/\BF g t.Bp y)\/(BF g x t.Bp/\BF g t.one y):=by
 induction r with
 |refl=>exact .inl .refl
 |step _ e ih=>
  obtain⟨u,a,b,c⟩:=(G'.mem _ _ _).mp e;rcases(h u).mp a with a|rfl
  .have e':=(G.mem _ _ _).mpr #[u,a,b,c];rcases ih with ih|⟨i1,i2⟩|⟨i1,i2⟩
   .exact .inl (.step ih e')
   .exact .inr (.inl #[i1,.step i2 e'])
   .exact .inr (.inr #[i1,.step i2 e'])
  .rcases c with ⟨c1,c2⟩|⟨c1,c2⟩
   .subst c1 c2;rcases ih with ih|⟨i1,i2⟩|⟨i1,i2⟩
    .exact .inr (.inl #[ih,.refl])
    .exact .inr (.inl #[i1,.refl])
    .exact .inl i1
   .subst c1 c2;rcases ih with ih|⟨i1,i2⟩|⟨i1,i2⟩
    .exact .inr (.inr #[ih,.refl])
    .exact .inl i1
    .exact .inr (.inr #[i1,.refl])
def tE(nd:ps.Nodup)(G:EK ps os g)(G':EK ps Gs g')(h:∀u,u∈Gs↔u∈os\/u=t)(hc:BF g t.one t.Bp)(r:BF g' x y):BF g x y:=by
 rcases bR G G' h r with z|⟨z1,z2⟩|⟨z1,z2⟩
 .exact z
 .exact z1.trans (hc.trans z2)
 .exact z1.trans ((G.DM hc).trans z2)
theorem vn(nd:ps.Nodup)(G:EK ps os g)(G':EK ps Gs g')(h:∀u,u∈Gs↔u∈os\/u=t)(h1:t.one∈ps)(h2:t.Bp∈ps)(hc:¬ BF g t.one t.Bp):(GH ps g').length+1=(GH ps g).length:=by
 have L:=nG G nd;have LS  := λu hu=>(h u).mpr (.inl hu);have JJ:BF g' t.one t.Bp:=.step .refl ((G'.mem _ _ _).mpr #[t,(h t).mpr (.inr rfl),rfl,.inl #[rfl,rfl]]);generalize S5:DN os ps.length t.one=ra;generalize S4:DN os ps.length t.Bp=Lk;have a1:ra∈ps:=by rw[<- S5];exact L.Dt _ h1
 have b1:Lk∈ps:=by rw[<- S4];exact L.Dt _ h2
 have a2:BF g t.one ra:=by rw[<- S5];exact L.Mv _
 have b2:BF g t.Bp Lk:=by rw[<- S4];exact L.Mv _
 have rt  := λx hx=>B9.mpr λp hp e lt=>L.least x hx p hp ((L.Mv x).trans (G.DM e)) lt;have a3:root ps g ra=true:=by rw[<- S5];exact rt _ h1
 have b3:root ps g Lk=true:=by rw[<- S4];exact rt _ h2
 have hne:ra≠Lk:=λe=>hc (a2.trans (e ▸ G.DM b2));have both  := (fg G G' LS (G.DM a2)).trans (JJ.trans (fg G G' LS b2));obtain⟨hi,hh,Ry,U1⟩:∃hi,hi∈ps/\root ps g hi=true/\∀s∈ps,(root ps g' s=true↔root ps g s=true/\s≠hi):=by
  have main:∀lo hi,lo∈ps->hi∈ps->B0 lo hi->BF g' lo hi->(∀s∈ps,root ps g s=true->s≠hi->∀p∈ps,BF g' p s->¬ B0 p s)->∀s∈ps,(root ps g' s=true↔root ps g s=true/\s≠hi):=λlo hi hl hh lt hr key s hs=>by
   constructor
   .refine λr=>#[uQ G G' LS r,λe=>?_]
    subst e;exact B9.mp r lo hl hr lt
   .rintro⟨r,ne⟩;exact B9.mpr (key s hs r ne)
  have isA:∀s∈ps,root ps g s=true->BF g t.one s->s=ra:=λs hs r e=>(nH G a1 hs a3 r ((G.DM a2).trans e)).symm;have WC:∀s∈ps,root ps g s=true->BF g t.Bp s->s=Lk:=λs hs r e=>(nH G b1 hs b3 r ((G.DM b2).trans e)).symm;have Ym  := λp hp e lt=>by have:=L.least t.one h1 p hp (G.DM e);rw[S5]at this;exact this lt
  have leB  := λp hp e lt=>by have:=L.least t.Bp h2 p hp (G.DM e);rw[S4]at this;exact this lt
  rcases cX ra Lk with z|z|z
  .refine#[Lk,b1,b3,main ra Lk a1 b1 z both λs hs r ne p hp e lt=>?_];rcases bR G G' h e with w|⟨w1,w2⟩|⟨w1,w2⟩
   .exact B9.mp r p hp w lt
   .exact ne (WC s hs r w2)
   .have:=isA s hs r w2;subst this;rcases cX p Lk with q|q|q
    .exact leB p hp w1 q
    .subst q;exact dA z lt
    .exact dA z (dz q lt)
  .exact absurd z hne
  .refine#[ra,a1,a3,main Lk ra b1 a1 z (G'.DM both) λs hs r ne p hp e lt=>?_];rcases bR G G' h e with w|⟨w1,w2⟩|⟨w1,w2⟩
   .exact B9.mp r p hp w lt
   .have:=WC s hs r w2;subst this;rcases cX p ra with q|q|q
    .exact Ym p hp w1 q
    .subst q;exact dA z lt
    .exact dA z (dz q lt)
   .exact ne (isA s hs r w2)
 unfold GH;rw[aac,aac];have e1:ps.filter (root ps g')=(ps.filter (root ps g)).filter λs=>decide (s≠hi):=by rw[acb];refine ab1 λs hs=>?_;rw[aa0,U1 s hs,aaS,decide_eq_true_eq,and_comm]
 have OZ:(ps.filter (root ps g)).Nodup:=nd.sublist aa8;have hm  := List.mem_filter.mpr #[hh,Ry];have e2:((ps.filter (root ps g)).filter λs=>decide (s≠hi))=(ps.filter (root ps g)).erase hi:=by rw[OZ.erase_eq_filter];refine ab1 λs _=>?_;rw[aa0];simp
 rw[e1,e2,List.length_erase_of_mem hm];have:=acx hm;omega
open PySem L2 Q
noncomputable def B5(q:Str×Str):PV:=.tup [.str q.1,.str q.2]
noncomputable def EF(ps:Aaa)(g:Str->List (Str×Str)):PV:=.Cd (ps.map λp=>(aaU p,.lst ((g p).map B5)))
noncomputable def HK:Option (Str×Str)->PV
 |none=>.Bw
 |some q=>B5 q
noncomputable def Et(cs:Cs):PV:=.Cd (cs.map λc=>(aaU c.1,HK c.2))
structure Nt(ps:Aaa)(ts:Aaf):Prop where
 rise:ps.Pairwise B0
 ne:∀t∈ts,t.one≠t.Bp
 pl:ps.length<=60
 tl:ts.length<=1000
noncomputable def ft(ps:Aaa)(ts:Aaf):Aaa:=(ts.filter (BC ps)).map iF.nm
def bx:Fd:=λxs P=>∃(ps:Aaa) (ts:Aaf) (t:iF),xs=[Bt ps ts,iD t]/\P (.bl (BC ps t))
def bM:Fd:=λxs P=>∃(ps:Aaa) (ts:Aaf),xs=[Bt ps ts]/\ts.length<=1000/\P (.tup ((ft ps ts).map .str))
def bD:Fd:=λxs P=>∃(ps:Aaa) (ts:Aaf),xs=[Bt ps ts]/\Nt ps ts/\P (EF ps (BW ps ts))
def cy:Fd:=λxs P=>∃(ps:Aaa) (g:Str->List (Str×Str)) (start:Str),xs=[EF ps g,.str start]/\ps.Nodup/\start∈ps/\(∀p∈ps,∀q∈g p,q.2∈ps)/\ps.length<=1000 /\
 ∀cs,E7 g start cs->(∀y∈Dp cs,y∈ps)->(∀y∈Dp cs,∀q∈g y,q.2∈Dp cs)->P (Et cs)
def eR:Fd:=λxs P=>∃(ps:Aaa) (g:Str->List (Str×Str)) (start:Str),xs=[EF ps g,.str start]/\ps.Pairwise B0/\start∈ps/\(∀p∈ps,∀q∈g p,q.2∈ps)/\ps.length<=60/\P (.tup ((ps.filter (rb g start)).map .str))
def gf:Fd:=λxs P=>∃(ps:Aaa) (ts:Aaf),xs=[Bt ps ts]/\ts.length<=1000/\P (.lst ((ts.filter (BC ps)).map iD))
noncomputable def MI(ps:Aaa)(L:Str->Str):PV:=.Cd (ps.map λp=>(aaU p,.str (L p)))
noncomputable def FA(ps ns:Aaa)(ts:Aaf):Aaf:=(ts.filter (BC ps)).filter (B6 ns)
def bX:Fd:=λxs P=>∃(ps:Aaa) (ts:Aaf),xs=[Bt ps ts]/\Nt ps ts/\P (.tup ((GH ps (BW ps ts)).map λq=>.tup (q.map .str)))
variable{ps:Aaa}{ts:Aaf}
def aG:∀{l:Aaf},(l.map iF.nm).Nodup->∀{a b:iF},a∈l->b∈l->a.nm=b.nm->a=b
 |t::l,h,a,b,ha,hb,e=>by
  rw[aau,ack]at h;rcases List.mem_cons.mp ha with h1|h1
  .rcases List.mem_cons.mp hb with h2|h2
   .exact h1.trans h2.symm
   .exact absurd (h1 ▸ e ▸ aaV (f:=iF.nm) h2) h.1
  .rcases List.mem_cons.mp hb with h2|h2
   .exact absurd (h2 ▸ e ▸ aaV (f:=iF.nm) h1) h.1
   .exact aG h.2 h1 h2 e
def oC(ps ns:Aaa)(ts:Aaf):EK ps (FA ps ns ts) (BW ps (ts.filter (B6 ns))):=by unfold FA;rw[mw];exact cZ ps _
variable{g:Str->List (Str×Str)}
def sL{g':Str->List (Str×Str)}(h:∀x y,BF g x y↔BF g' x y):GH ps g=GH ps g':=by
 have e1:root ps g=root ps g':=by funext s;rw[aa0,B9,B9];exact#[λk p hp e=>k p hp ((h _ _).mpr e),λk p hp e=>k p hp ((h _ _).mp e)]
 have e2:∀s,rb g s=rb g' s:=λs=>by funext y;rw[aa0,Ds,Ds];exact h s y
 unfold GH;rw[e1];refine abJ λs _=>?_;rw[e2]
def D2(t u:iF):Prop:=t.cost<u.cost\/(t.cost=u.cost/\B0 t.nm u.nm)
theorem cp(t:iF):¬ D2 t t:=by
 rintro(h|⟨_,h⟩)
 .omega
 .exact bw _ h
variable{t u v:iF}
theorem g9(h:D2 t u)(k:D2 u v):D2 t v:=by
 rcases h with h|⟨h1,h2⟩<;>rcases k with k|⟨k1,k2⟩
 .exact .inl #[]
 .exact .inl #[]
 .exact .inl #[]
 .exact .inr #[#[],dz h2 k2]
def yL(h:t.nm≠u.nm):D2 t u\/D2 u t:=by
 rcases Int.lt_trichotomy t.cost u.cost with z|z|z
 .exact .inl (.inl z)
 .rcases cX t.nm u.nm with w|w|w
  .exact .inl (.inr #[z,w])
  .exact absurd w h
  .exact .inr (.inr #[z.symm,w])
 .exact .inr (.inl z)
def uq(h:D2 t u):¬ D2 u t:=λk=>cp t (g9 h k)
instance (t u:iF):Decidable (D2 t u):=inferInstanceAs (Decidable (t.cost<u.cost\/(t.cost=u.cost/\B0 t.nm u.nm)))
noncomputable def below(os:Aaf)(t:iF):Aaf:=os.filter λu=>decide (D2 u t)
variable{os:Aaf}
def BJ:u∈below os t↔u∈os/\D2 u t:=by unfold below;rw[abr,decide_eq_true_eq]
def Min(ps:Aaa)(os:Aaf)(t:iF):Prop:=¬ BF (BW ps (below os t)) t.one t.Bp
def Dv(h:∀u∈os,BC ps u=true):EK ps os (BW ps os):=by
 have:=cZ ps os
 rwa [List.filter_eq_self.mpr h]at this
variable{x y:Str}
def bS{Gs:Aaf}(h:∀u∈os,BC ps u=true)(h':∀u∈Gs,BC ps u=true)(k:∀u∈os,u∈Gs)(r:BF (BW ps os) x y):BF (BW ps Gs) x y:=fg (Dv h) (Dv h') k r
def bA(h:∀u∈os,BC ps u=true)(ht:t∈os):BF (BW ps os) t.one t.Bp:=.step .refl (((Dv h).mem _ _ _).mpr #[t,ht,rfl,.inl #[rfl,rfl]])
noncomputable def less(os:Aaf)(t:iF):Aaf:=os.filter λu=>decide (u.nm≠t.nm)
def oF:u∈less os t↔u∈os/\u.nm≠t.nm:=by unfold less;rw[abr,decide_eq_true_eq]
variable{L:Aaf}
def nJ{B:Aaf}(hL:∀u∈L,BC ps u=true)(ht:t∈L)(hB:∀u∈B,u∈L):∀D:Aaf,(D.map iF.nm).Nodup->(∀d∈D,d∈L/\(∀u∈B,u.nm≠d.nm)/\t.nm≠d.nm/\¬ BF (BW ps (less L d)) d.one d.Bp)->BF (BW ps (B++D)) t.one t.Bp->BF (BW ps B) t.one t.Bp
 |[],_,_,r=>by simp_all
 |d::D,nd,hD,r=>by
  rw[aau,ack]at nd;have Vl:=λu hu=>hD u (aam d hu);obtain⟨d1,d2,d3,d4⟩:=hD d aan;have SN  := λu hu=>hL u (by
   rcases List.mem_append.mp hu with z|z
   .exact hB u z
   .exact(Vl u z).1)
  have Ui:∀u∈B++d::D,BC ps u=true:=λu hu=>by
   rcases List.mem_append.mp hu with z|z
   .exact SN u (aaH _ z)
   .rcases List.mem_cons.mp z with rfl|z
    .exact hL _ d1
    .exact SN u (aak _ z)
  have hm:∀u,u∈B++d::D↔u∈B++D\/u=d:=λu=>by
   simp only[aa7,abf];constructor
   .rintro(h|h|h)
    .exact .inl (.inl h)
    .exact .inr h
    .exact .inl (.inr h)
   .rintro((h|h)|h)
    .exact .inl h
    .exact .inr (.inr h)
    .exact .inr (.inl h)
  have Uh:∀u∈less L d,BC ps u=true:=λu hu=>hL u (oF.mp hu).1;have up:∀{x y:Str},BF _ x y->BF _ x y:=bS SN Uh λu hu=>oF.mpr (by
   rcases List.mem_append.mp hu with z|z
   .exact#[hB u z,d2 u z]
   .exact#[(Vl u z).1,λe=>nd.1 #[1]])
  have te  := bA Uh (oF.mpr #[ht,d3]);have G:=Dv Uh;rcases bR (Dv SN) (Dv Ui) hm r with z|⟨z1,z2⟩|⟨z1,z2⟩
  .exact nJ hL ht hB D nd.2 Vl z
  .exact absurd ((G.DM (up z1)).trans (te.trans (G.DM (up z2)))) d4
  .exact absurd ((up z2).trans ((G.DM te).trans (up z1))) d4
def Kr(ps:Aaa)(X:Aaf)(G:Str->Str):Prop:=∀x∈ps,∀y∈ps,G x=G y↔BF (BW ps X) x y
def Kr.nil:Kr ps [] id:=λx _ y _=>by
 constructor
 .intro e;have  := e;subst this;exact .refl
 .intro r;induction r with
  |refl=>rfl
  |step _ e _=>cases e
variable{X:Aaf}
def Kr.step{G:Str->Str}(oX:∀u∈X,BC ps u=true)(ot:BC ps t=true)(pn:ps.Nodup)(h:Kr ps X G):
  (G t.one=G t.Bp->Kr ps (X++[t]) G)/\(G t.one≠G t.Bp->Kr ps (X++[t]) λp=>if G p=G t.Bp then G t.one else G p):=by
 have Ug:∀u∈X++[t],BC ps u=true:=λu hu=>by
  rcases List.mem_append.mp hu with z|z
  .exact oX u z
  .rw[List.mem_singleton.mp z];exact ot
 have A:=Dv oX;have A':=Dv Ug;have hm:∀u,u∈X++[t]↔u∈X\/u=t:=λu=>by simp_all
 have up:∀{x y:Str},BF _ x y->BF _ x y:=bS oX Ug λu hu=>aaH _ hu;have te:BF _ t.one t.Bp:=bA Ug #[0];obtain⟨o1,o2⟩:=BR.mp ot;refine#[λe x hx y hy=>(h x hx y hy).trans #[up,tE pn A A' hm ((h _ o1 _ o2).mp e)],λe x hx y hy=>?_];constructor
 .intro q;by_cases x1:G x=G t.Bp<;>by_cases y1:G y=G t.Bp
  .exact up ((h x hx y hy).mp (x1.trans y1.symm))
  .simp only[if_pos x1,if_neg y1]at q;exact(up ((h x hx _ o2).mp x1)).trans ((A'.DM te).trans (up ((h _ o1 y hy).mp q)))
  .simp only[if_neg x1,if_pos y1]at q;exact(up ((h x hx _ o1).mp q)).trans (te.trans (up ((h _ o2 y hy).mp y1.symm)))
  .simp only[if_neg x1,if_neg y1]at q;exact up ((h x hx y hy).mp q)
 .intro r;show (if G x=G t.Bp then G t.one else G x)=if G y=G t.Bp then G t.one else G y;rcases bR A A' hm r with z|⟨z1,z2⟩|⟨z1,z2⟩
  .rw[(h x hx y hy).mpr z]
  .have a:=(h x hx _ o1).mpr z1;have b:=(h _ o2 y hy).mpr z2;rw[if_neg #[1],if_pos b.symm,a]
  .have a:=(h x hx _ o2).mpr z1;have b:=(h _ o1 y hy).mpr z2;rw[if_pos a,if_neg #[1],b]
def Kr.min{G:Str->Str}(oX:∀u∈X,BC ps u=true)(oo:∀u∈os,BC ps u=true)(ot:BC ps t=true)(h:Kr ps X G)(hm:∀u,u∈X↔u∈below os t):G t.one≠G t.Bp↔Min ps os t:=by obtain⟨o1,o2⟩:=BR.mp ot;have oB:∀u∈below os t,BC ps u=true:=λu hu=>oo u (BJ.mp hu).1;rw[Ne,h _ o1 _ o2];exact#[λk r=>k (bS oB oX (λu hu=>(hm u).mpr hu) r),λk r=>k (bS oX oB (λu hu=>(hm u).mp hu) r)]
noncomputable abbrev Ur:Str := "cheaper_first.<locals>.<lambda>"
noncomputable abbrev Q8:Str := "cheapest_of.<locals>.<lambda>"
noncomputable def DH(T:Addr×Addr):PV:=.tup [Cj Q8 Us Ut T.1,Cj Ur Q9 Ra T.2]
open Classical in
noncomputable def D6(ps:Aaa)(os:Aaf)(t:iF):Bool:=decide (Min ps os t)
noncomputable def Gu(ps:Aaa)(ts:Aaf):Aaa:=((ts.filter (BC ps)).filter (D6 ps (ts.filter (BC ps)))).map iF.nm
def Dh:D6 ps os t=true↔Min ps os t:=by unfold D6;simp
def pS:∀{a b:Aaa},a.Perm b->a.Pairwise B0->b.Pairwise B0->a=b
 |[],b,p,_,_=>(List.nil_perm.mp p).symm
 |x::a,[],p,_,_=>by simp_all
 |x::a,y::b,p,ha,hb=>by
  have e  := aaZ λne=>by
   rw[adE]at ha hb;have h1:x∈b:=by
    rcases List.mem_cons.mp (p.mem_iff.mp aan)with z|z
    .exact absurd z ne
    .exact z
   have h2:y∈a:=by
    rcases List.mem_cons.mp (p.mem_iff.mpr aan)with z|z
    .exact absurd z.symm ne
    .exact z
   exact bw _ (dz (ha.1 y h2) (hb.1 x h1))
  subst e;rw[pS (List.perm_cons _ |>.mp p) (List.pairwise_cons.mp ha).2 (List.pairwise_cons.mp hb).2]
def bp:Fd:=λxs P=>∃(ps:Aaa) (ts:Aaf),xs=[Bt ps ts]/\ts.length<=1000/\(ts.map iF.nm).Nodup/\P (.Cd (ts.map λt=>(aaU t.nm,iD t)))
def cF:Fd:=λxs P=>∃(ps:Aaa) (ts:Aaf),xs=[Bt ps ts]/\ts.length<=1000/\(ts.map iF.nm).Nodup/\P (.Cd (ts.map λt=>(aaU t.nm,.tup [.int t.cost,.str t.nm])))
def bJ(T:Addr×Addr):Eu:=λc xs P=>c=DH T/\∃(ps:Aaa) (ts us:Aaf),xs=[Bt ps ts,.tup ((us.map iF.nm).map .str)]/\ts.length<=1000/\(ts.map iF.nm).Nodup/\us.length<64/\(us.map iF.nm).Nodup/\(∀u∈us,u∈ts) /\
 ∀vs:Aaf,vs.Perm us->vs.Pairwise D2->P (.lst ((vs.map iF.nm).map .str)) (DH T)
def bG:Fd:=λxs P=>∃(ps:Aaa) (ts vs:Aaf),xs=[Bt ps ts,.lst ((vs.map iF.nm).map .str)]/\Eh ps ts/\ps.length<=60/\ts.length<=60/\vs.Perm (ts.filter (BC ps))/\vs.Pairwise D2/\P (.tup ((Gu ps ts).map .str))
def dJ(T:Addr×Addr):Eu:=λc xs P=>c=DH T/\∃(ps:Aaa) (ts:Aaf),xs=[Bt ps ts]/\Eh ps ts/\ps.length<=60/\ts.length<=60/\P (.tup ((Gu ps ts).map .str)) (DH T)
variable{α:Type}
theorem dG{g:WG}{fk ff:WE}{js:Aah}{P:Aal}{env:En}(f:α->Str)(v:α->PV)(X:α->PV):∀{l done:List α},((done++l).map f).Nodup ->
  (∀a∈l,∀R:PV->PV->En->Prop,R (.str (f a)) (v a) env->g (X a) (EE js env) λb1=>fk b1 λkk b3=>ff b3 λy b4=>R kk y (Ce js env b4))->done.length+l.length<=100000 ->
  P (.Cd ((done++l).map λx=>((aaU (f x):Key),v x))) env->Gz g EM fk ff js P (l.map X) env (done.map λx=>((aaU (f x):Key),v x))
 |[],done,_,_,_,k=>by rw[aa9]at k;exact k
 |a::l,done,nd,h,hl,k=>by
  have HC  :=by simpa[abF]using hl
  refine h a #[0] (λkk y e=>(done.map _).length<=100000/\opt _ λkey=>Gz g EM fk ff js P _ e (Gr _ key y)) #[by rw[aac];omega,ae rfl ?_];have hn:f a∉done.map f:=λz=>by rw[aaM,abG]at nd;exact nd.2.2 _ z _ #[0] rfl
  rw[nR hn];have e:(done.map λx=>(aaU (f x),v x))++[(aaU (f a),v a)]=(done++[a]).map λx=>((aaU (f x):Key),v x):=by simp_all
  rw[e];refine dG f v X #[1] (λb hb=>h b (aam _ hb)) #[3] ?_;rw[ac9];exact k
def Ends(t:iF)(a c:Str):Prop:=(t.one=a/\t.Bp=c)\/(t.Bp=a/\t.one=c)
def Wk(os:Aaf):Str->List Str->Str->Prop
 |a,[],b=>a=b
 |a,n::ns,b=>∃t∈os,t.nm=n/\∃c,Ends t a c/\Wk os c ns b
variable{a c:Str}
def Ends.sym(h:Ends t a c):Ends t c a:=by
 rcases h with ⟨h1,h2⟩|⟨h1,h2⟩
 .exact .inr #[h2,h1]
 .exact .inl #[h2,h1]
def Ends.one{d:Str}(hn:t.one≠t.Bp)(h:Ends t a c)(k:Ends t a d):c=d:=by
 rcases h with ⟨h1,h2⟩|⟨h1,h2⟩<;>rcases k with ⟨k1,k2⟩|⟨k1,k2⟩
 .exact h2.symm.trans k2
 .exact absurd (h1.trans k1.symm) hn
 .exact absurd (k1.trans h1.symm) hn
 .exact h2.symm.trans k2
def Ends.two{e f:Str}(h:Ends t a c)(k:Ends t e f):(e=a/\f=c)\/(e=c/\f=a):=by
 rcases h with ⟨h1,h2⟩|⟨h1,h2⟩<;>rcases k with ⟨k1,k2⟩|⟨k1,k2⟩
 .exact .inl #[k1.symm.trans h1,k2.symm.trans h2]
 .exact .inr #[k1.symm.trans h2,k2.symm.trans h1]
 .exact .inr #[k1.symm.trans h2,k2.symm.trans h1]
 .exact .inl #[k1.symm.trans h1,k2.symm.trans h2]
def jj{n:Str}:∀{l:Aaa},n∈l->∃p q,l=p++n::q/\n∉p
 |x::l,h=>by
  by_cases e:x=n
  .exact#[[],l,#[1],#[0]]
  .obtain⟨p,q,rfl,hp⟩:=jj ((List.mem_cons.mp h).resolve_left λz=>e z.symm);exact#[x::p,q,rfl,λz=>#[1]]
def Wk.app:∀{ns ms:Aaa} {a b c:Str},Wk os a ns b->Wk os b ms c->Wk os a (ns++ms) c
 |[],_,_,_,_,h,k=>by cases h;exact k
 |n::ns,_,_,_,_,#[t,ht,e,c,q,h],k=>#[t,ht,e,c,q,h.app k]
def Wk.rev:∀{ns:Aaa} {a b:Str},Wk os a ns b->Wk os b ns.reverse a
 |[],_,_,h=>Eq.symm h
 |n::ns,a,_,#[t,ht,e,c,q,h]=>by rw[List.reverse_cons];exact h.rev.app #[t,ht,e,a,q.sym,rfl]
def Wk.cut:∀{ns ms:Aaa} {a c:Str},Wk os a (ns++ms) c->∃b,Wk os a ns b/\Wk os b ms c
 |[],_,a,_,h=>#[a,rfl,h]
 |n::ns,_,_,_,#[t,ht,e,c,q,h]=>by obtain⟨b,h1,h2⟩:=h.cut;exact#[b,#[t,ht,e,c,q,h1],h2]
def Wk.mem:∀{ns:Aaa} {a b:Str},Wk os a ns b->∀n∈ns,∃t∈os,t.nm=n
 |n::ns,_,_,#[t,ht,e,c,q,h],m,hm=>by
  rcases List.mem_cons.mp hm with rfl|hm
  .exact#[t,ht,e]
  .exact h.mem m hm
def Mm(os:Aaf):Prop:=∀a n ns,Wk os a (n::ns) a->n∉ns->False
def m6(nd:(os.map iF.nm).Nodup)(ne:∀t∈os,t.one≠t.Bp)(ac:Mm os):∀{ns ms:Aaa} {a b:Str},Wk os a ns b->Wk os a ms b->ns.Nodup->ms.Nodup->ns=ms
 |[],[],_,_,_,_,_,_=>rfl
 |[],m::ms,a,_,h,k,_,d=>by cases h;exact(ac a m ms k (List.nodup_cons.mp d).1).elim
 |n::ns,[],a,_,h,k,d,_=>by cases k;exact(ac a n ns h (List.nodup_cons.mp d).1).elim
 |n::ns,m::ms,a,b,h,k,d1,d2=>by
  have k0:=k;obtain⟨t,ht,e1,c,q1,h⟩:=h;obtain⟨u,hu,e2,d,q2,k⟩:=k;obtain⟨n1,n2⟩:=List.nodup_cons.mp d1;obtain⟨m1,m2⟩:=List.nodup_cons.mp d2;by_cases e:m=n
  .have  := aG nd ht hu (e1.trans (e.symm.trans e2.symm));subst this;have  := q1.one (ne t ht) q2;subst this;rw[e,m6 nd ne ac h k n2 m2]
  .exfalso;by_cases hn:n∈ms
   .obtain⟨p,q,rfl,np⟩:=jj hn;obtain⟨x,w1,w2⟩:=(show Wk os a ((m::p)++n::q) b from k0).cut;obtain⟨t',Lm,e3,f,q3,_⟩:=w2;have  := aG nd ht Lm (e1.trans e3.symm);subst this;rcases q1.two q3 with ⟨rfl,_⟩|⟨rfl,_⟩
    .exact ac _ m p w1 λz=>m1 (aaH _ z)
    .refine ac a n _ #[t,ht,e1,_,q1,w1.rev] λz=>?_;rw[List.mem_reverse,abf]at z;rcases z with z|z
     .exact e z.symm
     .exact np z
   .refine ac a n _ #[t,ht,e1,c,q1,h.app k0.rev] λz=>?_;rw[aa7,List.mem_reverse,abf]at z;rcases z with z|z|z
    .exact n1 z
    .exact e z.symm
    .exact hn z
def jM(G:EK ps os g):∀{ns:Aaa} {a b:Str},Wk os a ns b->BF g a b
 |[],_,_,h=>by cases h;exact .refl
 |n::ns,a,b,#[t,ht,e,c,q,h]=>BF.trans (.step .refl ((G.mem _ _ _).mpr #[t,ht,e.symm,q])) (jM G h)
noncomputable def BE(ps:Aaa)(ts:Aaf):Aaf:=(ts.filter (BC ps)).filter (D6 ps (ts.filter (BC ps)))
def bi(h:t∈BE ps ts):t∈ts/\BC ps t=true/\D6 ps (ts.filter (BC ps)) t=true:=by obtain⟨h1,h2⟩:=List.mem_filter.mp h;obtain⟨h3,h4⟩:=List.mem_filter.mp h1;exact#[h3,h4,h2]
def gF:∀t∈BE ps ts,BC ps t=true:=λt h=>(bi h).2.1
def uF(ps:Aaa)(ts:Aaf):(BE ps ts).length<=ts.length:=aaX (aaA _ _) (aaA _ _)
def kI(nd:(ts.map iF.nm).Nodup):((BE ps ts).map iF.nm).Nodup:=nd.sublist ((List.filter_sublist.trans aa8).map _)
variable{d:iF}
def yC(hd:d∈L)(h:D2 t d):(L.filter λu=>decide (D2 d u)).length<(L.filter λu=>decide (D2 t u)).length:=by
 have s:(L.filter λu=>decide (D2 d u)).Sublist _:=fU λx _ q=>decide_eq_true (g9 h (of_decide_eq_true q));rcases aaQ _ _ with z|z
 .exact z
 .have e:=s.eq_of_length_le z;have m:d∈L.filter λu=>decide _:=List.mem_filter.mpr #[hd,decide_eq_true h];rw[<- e]at m;exact absurd (of_decide_eq_true (List.mem_filter.mp m).2) (cp _)
theorem iX(nd:(ts.map iF.nm).Nodup):∀(n:Nat) (t:iF),t∈BE ps ts->((BE ps ts).filter λu=>decide (D2 t u)).length<n->¬ BF (BW ps (less (BE ps ts) t)) t.one t.Bp
 |0,_,_,h=>by omega
 |n+1,t,ht,h=>by
  intro r;have tn:=kI (ps:=ps) nd;have oL:∀u∈BE ps ts,BC ps u=true:=gF;have oB:∀u∈below _ t,u∈BE ps ts:=λu hu=>(BJ.mp hu).1;have hne:∀u∈BE ps ts,∀d∈BE ps ts,D2 u d->u.nm≠d.nm:=λu hu d hd c e=>by have:=aG tn hu hd e;subst this;exact cp _ c
  have r2:BF (BW ps (below (BE ps ts) t++(BE ps ts).filter λu=>decide (D2 t u))) t.one t.Bp:=by
   refine bS (λu hu=>oL u (oF.mp hu).1) (λu hu=>?_) (λu hu=>?_) r
   .rcases List.mem_append.mp hu with z|z
    .exact oL u (oB u z)
    .exact oL u (List.mem_filter.mp z).1
   .obtain⟨u1,u2⟩:=oF.mp hu;rcases yL u2 with z|z
    .exact aaH _ (BJ.mpr #[u1,z])
    .exact aak _ (List.mem_filter.mpr #[u1,decide_eq_true z])
  have r3:=nJ oL ht oB _ (tn.sublist (List.filter_sublist.map _)) (λd hd=>by
   obtain⟨d1,d2⟩:=List.mem_filter.mp hd;have d2:=of_decide_eq_true d2;refine#[d1,λu hu=>?_,hne t ht d d1 d2,iX nd n d d1 ?_]
   .obtain⟨u1,u2⟩:=BJ.mp hu;exact hne u u1 d d1 (g9 u2 d2)
   .have:=yC d1 d2
    omega) r2
  have mn:=Dh.mp (bi ht).2.2;refine mn (bS (λu hu=>oL u (oB u hu)) (λu hu=>(List.mem_filter.mp (BJ.mp hu).1).2) (λu hu=>?_) r3);obtain⟨u1,u2⟩:=BJ.mp hu;exact BJ.mpr #[(List.mem_filter.mp u1).1,u2]
def pD:∀{ns:Aaa} {a b:Str},Wk os a ns b->t.nm∉ns->Wk (less os t) a ns b
 |[],_,_,h,_=>h
 |n::ns,a,b,#[u,hu,e,c,q,h],hn=>by rw[abf,not_or]at hn;exact#[u,oF.mpr #[hu,λz=>hn.1 (z ▸ e)],e,c,q,pD h hn.2]
variable{b:Str}{ns:Aaa}
def rU(w:Wk os a ns b)(d:ns.Nodup):ns.length<=os.length:=by
 have:=aB d λn hn=>by obtain⟨t,ht,e⟩:=w.mem n hn;exact List.mem_map.mpr #[t,ht,e]
 rwa [aac]at this
def dt(oX:∀u∈X,BC ps u=true)(sym:∀{x y},BF g x y->BF g y x)(h:∀u∈X,BF g u.one u.Bp)(r:BF (BW ps X) x y):BF g x y:=by
 induction r with
 |refl=>exact .refl
 |step _ e ih=>
  obtain⟨t,ht,_,z⟩:=((Dv oX).mem _ _ _).mp e;rcases z with ⟨rfl,rfl⟩|⟨rfl,rfl⟩
  .exact ih.trans (h t ht)
  .exact ih.trans (sym (h t ht))
noncomputable def upTo(ps:Aaa)(os:Aaf)(u:iF):Aaf:=os.filter λv=>D6 ps os v && !decide (D2 u v)
def CT:v∈upTo ps os u↔v∈os/\D6 ps os v=true/\¬ D2 u v:=by unfold upTo;rw[abr,aaS,abl,decide_eq_false_iff_not]
def wq(hv:v∈below os u):(below os v).length<(below os u).length:=by
 have s:(below os v).Sublist (below os u):=fU λx _ h=>decide_eq_true (g9 (of_decide_eq_true h) (BJ.mp hv).2);rcases aaQ _ _ with z|z
 .exact z
 .have e:=s.eq_of_length_le z;rw[<- e]at hv;exact absurd (BJ.mp hv).2 (cp _)
theorem jB(oo:∀u∈os,BC ps u=true):∀(n:Nat) (u:iF),u∈os->(below os u).length<n->BF (BW ps (upTo ps os u)) u.one u.Bp
 |0,_,_,h=>by omega
 |n+1,u,hu,h=>by
  have oU:∀v∈upTo ps os u,BC ps v=true:=λv hv=>oo v (CT.mp hv).1;by_cases hm:Min ps os u
  .exact bA oU (CT.mpr #[hu,Dh.mpr hm,cp u])
  .have r  := aaZ hm;refine dt (λv hv=>oo v (BJ.mp hv).1) (λr=>(Dv oU).DM r) (λv hv=>?_) r;have hb:=BJ.mp hv;have ih:=jB oo n v hb.1 (by have:=wq hv;omega);exact bS (λw hw=>oo w (CT.mp hw).1) oU (λw hw=>by obtain⟨a,b,c⟩:=CT.mp hw;exact CT.mpr #[a,b,λz=>c (g9 hb.2 z)]) ih
def qF(ps:Aaa)(ts:Aaf):BW ps (ts.filter (BC ps))=BW ps ts:=by unfold BW;rw[acb];simp only[Bool.and_self]
def AQ(nd:(ts.map iF.nm).Nodup)(hu:u∈ts)(ht:t∈ts)(c:D2 u t):u.nm≠t.nm:=λe=>by have:=aG nd hu ht e;subst this;exact cp _ c
def Jr(r:BF (BW ps X) x y):BF (BW ps X) y x:=(cZ ps X).DM r
def bz{Y:Aaf}(h:∀u∈X,BC ps u=true->u∈Y)(r:BF (BW ps X) x y):BF (BW ps Y) x y :=
 fg (cZ ps X) (cZ ps Y) (λu hu=>by obtain⟨a,b⟩:=List.mem_filter.mp hu;exact List.mem_filter.mpr #[h u a b,b]) r
def J3:BF (BW ps (BE ps ts)) x y↔BF (BW ps ts) x y:=by
 constructor
 .exact bz λu hu _=>(bi hu).1
 .intro r;rw[<- qF]at r;have oo:∀u∈ts.filter (BC ps),BC ps u=true:=λu hu=>(List.mem_filter.mp hu).2;refine dt oo Jr (λu hu=>?_) r;refine bz (λv hv _=>?_) (jB oo _ u hu (abP _));obtain⟨v1,v2,v3⟩:=CT.mp hv;exact List.mem_filter.mpr #[v1,v2]
def rT{Gs:Aaf}:∀{ns:Aaa} {a b:Str},(∀u∈os,u.nm∈ns->u∈Gs)->Wk os a ns b->Wk Gs a ns b
 |[],_,_,_,h=>h
 |n::ns,a,b,k,#[u,hu,e,c,q,h]=>#[u,k u hu (by rw[e];exact aan),e,c,q,rT (λv hv hn=>k v hv (aam _ hn)) h]
noncomputable def aV(ps:Aaa)(ts:Aaf)(a:Str):Aaa:=ps.filter (rb (BW ps ts) a)
def Cq:x∈aV ps ts a↔x∈ps/\BF (BW ps ts) a x:=by unfold aV;rw[abr,Ds]
def jR[DecidableEq iF]:∀{L os:Aaf},L.Sublist os->os.Nodup->L=os.filter λu=>decide (u∈L):=by
 intro L os h;induction h with
 |slnil=>intro _;rfl
 |@cons l₁ l₂ a s ih=>intro nd;rw[ack]at nd;rw[ac2 (by simpa using λz=>nd.1 (s.subset z))];exact ih nd.2
 |@cons_cons l₁ l₂ a s ih=>intro nd;rw[ack]at nd;rw[List.filter_cons_of_pos #[0]];congr 1;refine(ih nd.2).trans (ab1 λu hu=>?_);rw[decide_eq_decide,abf];exact#[.inr,λz=>z.resolve_left λe=>nd.1 (e ▸ hu)]
def nA{M:Aaf}(nd:os.Nodup)(h1:L.Sublist os)(h2:M.Sublist os)(e:∀u,u∈L↔u∈M):L=M:=by
 classical
 rw[jR h1 nd,jR h2 nd];exact ab1 λu _=>by rw[decide_eq_decide];exact e u
def dI:Fd:=λxs P=>∃(ps ns:Aaa) (ts:Aaf),(xs=[Bt ps ts,.tup (ns.map .str)]\/xs=[Bt ps ts,.lst (ns.map .str)])/\ts.length<=1000/\ns.length<=1000/\P (Bt ps (ts.filter (B6 ns)))
def lO:Fd:=λxs P=>∃(ps:Aaa) (ts:Aaf) (fs:Aaa) (one Bp:Str),xs=[Bt ps ts,.tup (fs.map .str),.str one,.str Bp]/\Nt ps ts/\(ts.map iF.nm).Nodup/\fs.length<=1000/\one∈ps/\Bp∈ps /\
 (¬ BF (BW ps (ts.filter (B6 fs))) Bp one->P .Bw)/\∀ns:Aaa,Wk (FA ps fs ts) one ns Bp->ns.Nodup->ns.length<=1000->P (.tup (ns.map .str))
def cw:Fd:=λxs P=>∃(ps:Aaa) (ts:Aaf) (t u:iF),xs=[Bt ps ts,.str t.nm,.str u.nm]/\ts.length<=1000/\(ts.map iF.nm).Nodup/\t∈ts/\u∈ts/\P (.bl (decide (D2 t u)))
noncomputable def Ez(ps side:Aaa)(t:iF):Bool:=BC ps t && !decide (decide (t.one∈side)=decide (t.Bp∈side))
def ga:Fd:=λxs P=>∃(ps side:Aaa) (ts:Aaf),xs=[Bt ps ts,.tup (side.map .str)]/\ts.length<=1000/\P (.tup (((ts.filter (Ez ps side)).map iF.nm).map .str))
def Pk(us:Aaf)(t:iF):Prop:=t∈us/\∀u∈us,u.nm≠t.nm->D2 t u
open Classical in
noncomputable def Ei(os:Aaf)(a b:Str):Aaa:=if h:∃ns,Wk os a ns b/\ns.Nodup then h.choose else []
def uR(oo:∀u∈os,BC ps u=true)(r:BF (BW ps os) a b):∃ns,Wk os a ns b:=by
 induction r with
 |refl=>exact#[[],rfl]
 |step _ e ih=>obtain⟨ns,w⟩:=ih;obtain⟨t,ht,_,z⟩:=((Dv oo).mem _ _ _).mp e;exact#[ns++[t.nm],w.app #[t,ht,rfl,_,z,rfl]]
def m5(nd:(os.map iF.nm).Nodup):∀{ns:Aaa} {a b:Str},Wk os a ns b->∃ms,Wk os a ms b/\ms.Nodup
 |[],a,b,h=>#[[],h,#[0]]
 |n::ns,a,b,#[t,ht,e,c,q,h]=>by
  obtain⟨ms,w,md⟩:=m5 nd h;by_cases hn:n∈ms
  .obtain⟨p,r,rfl,hp⟩:=jj hn;obtain⟨x,w1,t',Lm,e',y,q',w2⟩:=w.cut;have  := aG nd ht Lm (e.trans e'.symm);subst this;have Wv  := (List.nodup_append.mp md).2.1;rcases Ends.two q q' with ⟨_,z2⟩|⟨_,z2⟩
   .subst z2;exact#[n::r,#[t,ht,e,_,q,w2],Wv]
   .subst z2;exact#[r,w2,(List.nodup_cons.mp Wv).2]
  .exact#[n::ms,#[t,ht,e,c,q,w],List.nodup_cons.mpr #[hn,md]]
def lQ(h:∃ns,Wk os a ns b/\ns.Nodup):Wk os a (Ei os a b) b/\(Ei os a b).Nodup:=by unfold Ei;rw[dif_pos h];exact h.choose_spec
noncomputable def NS(ps side:Aaa):Aaa:=ps.filter λp=>!decide (p∈side)
def xi:(GH ps (BW ps [])).length=ps.length:=by
 unfold GH;rw[aac,List.filter_eq_self.mpr λs _=>B9.mpr λp _ r=>?_];have e:p=s:=by
  cases r with
  |refl=>rfl
  |step _ h=>exact absurd h (by unfold BW;simp)
 rw[e];exact bw _
theorem kE(pn:ps.Nodup):∀{os:Aaf},(os.map iF.nm).Nodup->(∀u∈os,BC ps u=true)->(∀u∈os,¬ BF (BW ps (less os u)) u.one u.Bp)->os.length+(GH ps (BW ps os)).length=ps.length
 |[],_,_,_=>by rw[xi,ab4,aaP]
 |t::os,nd,o,b=>by
  rw[aau,ack]at nd;have o'  := λu hu=>o u (aam _ hu);have ol:less (t::os) t=os:=by unfold less;rw[ac2 #[0]];exact List.filter_eq_self.mpr λu hu=>by simp_all
  have ih:=kE pn nd.2 o' λu hu r=>b u (aam _ hu) (bS (λv hv=>o' v (oF.mp hv).1) (λv hv=>o v (oF.mp hv).1) (λv hv=>oF.mpr #[aam _ (oF.mp hv).1,(oF.mp hv).2]) r);have bt:=b t aan;rw[ol]at bt;obtain⟨o1,o2⟩:=BR.mp (o t aan);have:=vn pn (Dv o') (Dv o) (λu=>by rw[abf];exact or_comm) o1 o2 bt;rw[aaG];omega
structure Sp(ps:Aaa)(ts T:Aaf):Prop where
 sub:∀t∈T,t∈ts/\BC ps t=true
 nd:(T.map iF.nm).Nodup
 br:∀t∈T,¬ BF (BW ps (less T t)) t.one t.Bp
 sp:∀x y,BF (BW ps ts) x y->BF (BW ps T) x y
variable{T:Aaf}
def Sp.BC(h:Sp ps ts T):∀t∈T,BC ps t=true:=λt ht=>(h.sub t ht).2
def Sp.JJ(h:Sp ps ts T)(hu:u∈ts)(o:Pre.BC ps u=true):BF (BW ps T) u.one u.Bp:=by refine h.sp _ _ ?_;rw[<- qF];exact bA (λu hu=>(List.mem_filter.mp hu).2) (List.mem_filter.mpr #[hu,o])
def ie(nd:(ts.map iF.nm).Nodup):Sp ps ts (BE ps ts) where
 sub:=λt ht=>#[(bi ht).1,gF t ht]
 nd:=kI nd
 br:=λt ht=>iX nd _ t ht (abP _)
 sp:=λ_ _ r=>J3.mpr r
def Sp.XH(h:Sp ps ts T)(hd:d∈T)(r:BF (BW ps T) x y):BF (BW ps (less T d)) x y\/(BF (BW ps (less T d)) x d.one/\BF (BW ps (less T d)) d.Bp y)\/(BF (BW ps (less T d)) x d.Bp/\BF (BW ps (less T d)) d.one y):=by
 refine bR (Dv λu hu=>h.BC u (oF.mp hu).1) (Dv h.BC) (λv=>?_) r;rw[oF];constructor
 .intro hv;by_cases e:v.nm=d.nm
  .exact .inr (aG h.nd hv hd e)
  .exact .inl #[hv,e]
 .rintro(⟨hv,_⟩|rfl)
  .exact hv
  .exact hd
def Sp.R4(h:Sp ps ts T)(hd:d∈T)(hu:u∈ts)(o:Pre.BC ps u=true)(c:¬ (u.one∈aV ps (less T d) d.one↔u.Bp∈aV ps (less T d) d.one)):
  ¬ BF (BW ps (less T d)) u.one u.Bp/\((BF (BW ps (less T d)) d.one u.one/\BF (BW ps (less T d)) u.Bp d.Bp)\/(BF (BW ps (less T d)) d.one u.Bp/\BF (BW ps (less T d)) u.one d.Bp)):=by
 obtain⟨o1,o2⟩:=BR.mp o;have n  := λr=>c (by rw[Cq,Cq];exact#[λz=>#[o2,z.2.trans r],λz=>#[o1,z.2.trans (Jr r)]])
 refine#[n,?_];rcases h.XH hd (h.JJ hu o)with z|⟨z1,z2⟩|⟨z1,z2⟩
 .exact absurd z n
 .exact .inl #[Jr z1,Jr z2]
 .exact .inr #[z2,z1]
def Sp.swap(h:Sp ps ts T)(nd:(ts.map iF.nm).Nodup){T':Aaf}(hd:d∈T)(hu:u∈ts)(o:Pre.BC ps u=true)(c:¬ (u.one∈aV ps (less T d) d.one↔u.Bp∈aV ps (less T d) d.one))(p:T'.Perm (less T d++[u])):Sp ps ts T':=by
 obtain⟨n,q⟩:=h.R4 hd hu o c;have oL:∀v∈less T d,Pre.BC ps v=true:=λv hv=>h.BC v (oF.mp hv).1;have m:∀v,v∈T'↔v∈less T d\/v=u:=λv=>by rw[p.mem_iff,aa7,ac0]
 have oT:∀v∈T',Pre.BC ps v=true:=λv hv=>by
  rcases(m v).mp hv with z|rfl
  .exact oL v z
  .exact o
 have nu:∀v∈less T d,v.nm≠u.nm:=λv hv e=>by have:=aG nd (h.sub v (oF.mp hv).1).1 hu e;subst this;exact n (bA oL hv)
 have up:∀{x y:Str},BF _ x y->BF (BW ps T') x y:=λr=>bz (λv hv _=>(m v).mpr (.inl hv)) r;refine#[λv hv=>?_,?_,λv hv r=>?_,λx y r=>?_]
 .rcases(m v).mp hv with z|rfl
  .exact h.sub v (oF.mp z).1
  .exact#[hu,o]
 .rw[(p.map iF.nm).nodup_iff,aaM,abG];refine#[h.nd.sublist (List.filter_sublist.map _),#[0],λa ha b hb=>?_];obtain⟨v,hv,rfl⟩:=List.mem_map.mp ha;simp at hb;subst hb;exact nu v hv
 .rcases(m v).mp hv with z|rfl
  .have mv:∀w,w∈less T' v↔w∈less (less T d) v\/w=u:=λw=>by
    rw[oF,oF,m];constructor
    .rintro⟨a|rfl,b⟩
     .exact .inl #[a,b]
     .exact .inr rfl
    .rintro(⟨a,b⟩|rfl)
     .exact#[.inl a,b]
     .exact#[.inr rfl,abE (nu v z)]
   have oM:∀w∈less _ v,Pre.BC ps w=true:=λw hw=>oL w (oF.mp hw).1;have dn:∀{x y:Str},BF (BW ps (less (less T d) v)) x y->BF _ x y:=λr=>bz (λw hw _=>(oF.mp hw).1) r;have ev  := bA oL z;rcases bR (Dv oM) (Dv λw hw=>oT w (oF.mp hw).1) mv r with z1|⟨z1,z2⟩|⟨z1,z2⟩
   .refine h.br v (oF.mp z).1 (bz (λw hw _=>?_) z1);obtain⟨a,b⟩:=oF.mp hw;exact oF.mpr #[(oF.mp a).1,b]
   .exact n (((Jr (dn z1)).trans ev).trans (Jr (dn z2)))
   .exact n (Jr (((Jr (dn z1)).trans ev).trans (Jr (dn z2))))
  .refine n (bz (λw hw _=>?_) r);obtain⟨a,b⟩:=oF.mp hw;rcases(m w).mp a with z|rfl
   .exact z
   .exact absurd rfl b
 .have eu  := bA oT ((m u).mpr (.inr rfl));refine dt h.BC Jr (λv hv=>?_) (h.sp x y r);by_cases e:v.nm=d.nm
  .have:=aG h.nd hv hd e;subst this;rcases q with ⟨q1,q2⟩|⟨q1,q2⟩
   .exact((up q1).trans eu).trans (up q2)
   .exact((up q1).trans (Jr eu)).trans (up q2)
  .exact bA oT ((m v).mpr (.inl (oF.mpr #[hv,e])))
def Sp.one{S:Aaf}(h:Sp ps ts T)(k:Sp ps ts S)(s:∀t∈T,t∈S):∀t∈S,t∈T:=λt ht=>aaZ λn=>by refine k.br t ht (bz (λv hv _=>oF.mpr #[s v hv,λe=>?_]) (h.JJ (k.sub t ht).1 (k.sub t ht).2));exact n (aG k.nd (s v hv) ht e ▸ hv)
def lX{side:Aaa}(r:BF (BW ps X) x y)(c:¬ (x∈side↔y∈side)):∃u∈X,Pre.BC ps u=true/\¬ (u.one∈side↔u.Bp∈side):=by
 induction r with
 |refl=>exact absurd Iff.rfl c
 |@step y z nm _ e ih=>
  by_cases q:x∈side↔y∈side
  .obtain⟨u,hu,o,_,w⟩:=D3.mp e;refine#[u,hu,o,λi=>c (q.trans ?_)];rcases w with ⟨rfl,rfl⟩|⟨rfl,rfl⟩
   .exact i
   .exact i.symm
  .exact ih q
def yE(nd:(ts.map iF.nm).Nodup){side:Aaa}(h:Pk (ts.filter (Ez ps side)) t):t∈BE ps ts:=by obtain⟨h1,h2⟩:=List.mem_filter.mp h.1;unfold Ez at h2;rw[aaS,abl,decide_eq_false_iff_not,decide_eq_decide]at h2;refine List.mem_filter.mpr #[List.mem_filter.mpr #[h1,h2.1],Dh.mpr λr=>?_];obtain⟨u,hu,o,c⟩:=lX r h2.2;obtain⟨u1,u2⟩:=BJ.mp hu;have ut:=(List.mem_filter.mp u1).1;refine uq u2 (h.2 u (List.mem_filter.mpr #[ut,?_]) (AQ nd ut h1 u2));unfold Ez;rw[o,Bool.true_and,abl,decide_eq_false_iff_not,decide_eq_decide];exact c
def wJ(hs:∀u∈T,u∈ts/\Pre.BC ps u=true)(w:Wk T t.one ns t.Bp)(c:∀u∈T,u.nm∈ns->D2 u t):t∉BE ps ts:=λht=>by have mn:=Dh.mp (bi ht).2.2;refine mn (jM (cZ ps _) (rT (λu hu hn=>?_) w));obtain⟨a,b⟩:=hs u hu;exact List.mem_filter.mpr #[BJ.mpr #[List.mem_filter.mpr #[a,b],c u hu hn],b]
def Sp.VB(h:Sp ps ts T)(nd:(ts.map iF.nm).Nodup)(c:∀t∈T,∃side,Pk (ts.filter (Ez ps side)) t):∀t,t∈T↔t∈BE ps ts:=by
 have s:∀t∈T,t∈BE ps ts:=λt ht=>by obtain⟨side,l⟩:=c t ht;exact yE nd l
 exact λt=>#[s t,h.one (ie nd) s t]
def Sp.TB(h:Sp ps ts T)(nd:(ts.map iF.nm).Nodup)(c:∀t∈ts,Pre.BC ps t=true->t∉T->∃ns,Wk T t.one ns t.Bp/\∀u∈T,u.nm∈ns->D2 u t):∀t,t∈T↔t∈BE ps ts:=by
 have s  := λt ht=>aaZ λn=>by obtain⟨ns,w,k⟩:=c t (bi ht).1 (gF t ht) n;exact wJ h.sub w k ht
 exact λt=>#[(ie nd).one h s t,s t]
def Sp.count(h:Sp ps ts T)(pn:ps.Nodup):T.length+(GH ps (BW ps T)).length=ps.length:=kE pn h.nd h.BC h.br
def Sp.GH(h:Sp ps ts T):GH ps (BW ps T)=GH ps (BW ps ts):=sL λx y=>#[bz λu hu _=>(h.sub u hu).1,h.sp x y]
def Sp.Sb(h:Sp ps ts T):Mm T:=by
 rintro a n ns ⟨t,ht,e,c,q,w⟩ hn;have oL:∀u∈less T t,Pre.BC ps u=true:=λu hu=>h.BC u (oF.mp hu).1;have r:=jM (Dv oL) (pD w (e ▸ hn));refine h.br t ht ?_;rcases q with ⟨rfl,rfl⟩|⟨rfl,rfl⟩
 .exact Jr r
 .exact r
theorem jC:∀{X:Aaf} {d:iF},(X.map iF.nm).Nodup->d∈X->(X.map iF.cost).sum=((less X d).map iF.cost).sum+d.cost
 |[],_,_,h=>nomatch h
 |x::X,d,nd,h=>by
  rw[aau,ack]at nd;rcases List.mem_cons.mp h with rfl|h
  .have e:less (d::X) d=X:=by unfold less;rw[ac2 #[0]];refine List.filter_eq_self.mpr λu hu=>?_;simp only[decide_eq_true_eq];exact λe=>nd.1 (e ▸ aaV hu)
   rw[e,aau,adX];omega
  .have e:less (x::X) d=x::less X d:=by refine List.filter_cons_of_pos ?_;simp only[decide_eq_true_eq];exact λe=>nd.1 (e ▸ aaV h)
   rw[e,aau,aau,adX,adX,jC nd.2 h];omega
theorem nz:∀{X Y:Aaf},(X.map iF.nm).Nodup->(Y.map iF.nm).Nodup->(∀t,t∈X↔t∈Y)->(X.map iF.cost).sum=(Y.map iF.cost).sum
 |[],Y,_,_,h=>by
  cases Y with
  |nil=>rfl
  |cons y Y=>exact absurd ((h y).mpr aan) #[0]
 |x::X,Y,n1,n2,h=>by
  have hx  := (h x).mp aan;rw[aau,ack]at n1;rw[jC n2 hx,aau,adX,nz (Y:=less Y x) n1.2 (n2.sublist (List.filter_sublist.map _)) λt=>?_]
  .omega
  .rw[oF,<- h];constructor
   .exact λht=>#[aam _ ht,λe=>n1.1 (e ▸ aaV ht)]
   .rintro⟨ht,ne⟩;rcases List.mem_cons.mp ht with rfl|ht
    .exact absurd rfl ne
    .exact ht
theorem nB(nd:(ts.map iF.nm).Nodup):∀(n:Nat) {T:Aaf},Sp ps ts T->(T.filter λt=>!B6 (Gu ps ts) t).length<n->((BE ps ts).map iF.cost).sum<=(T.map iF.cost).sum
 |0,_,_,hl=>absurd hl (afs _)
 |n+1,T,h,hl=>by
  by_cases a:∀t∈T,t∈BE ps ts
  .exact Int.le_of_eq (nz (kI nd) h.nd λt=>#[h.one (ie nd) a t,a t])
  obtain⟨d,hd,nt⟩:∃d∈T,d∉BE ps ts:=aaZ λq=>a λt ht=>aaZ λz=>q #[t,ht,z];obtain⟨d1,d2⟩:=h.sub d hd;have r:=jB (λu hu=>(List.mem_filter.mp hu).2) _ d (List.mem_filter.mpr #[d1,d2]) (abP _);obtain⟨u,hu,o,c⟩:=lX r λi=>h.br d hd (Cq.mp (i.mp (Cq.mpr #[(BR.mp d2).1,.refl]))).2;obtain⟨u1,u2,u3⟩:=CT.mp hu;have ut  := List.mem_filter.mpr #[u1,u2];have k:=nB nd n (h.swap nd hd (bi ut).1 o c (.refl _)) ?_
  .rw[aaM,List.sum_append]at k;rw[jC h.nd hd];have  := Int.not_lt.mp λq=>u3 (.inl q);have e:([u].map iF.cost).sum=u.cost:=by simp
   omega
  .rw[aeC,aav];have e:([u].filter λt=>!B6 (Gu ps ts) t)=[]:=by rw[ac2,List.filter_nil];rw[abl,Bool.not_eq_false,ce];exact aaV ut
   rw[e];unfold less;rw[acb];have e2:(T.filter λt=>(!B6 (Gu ps ts) t) && decide (t.nm≠d.nm))=(T.filter λt=>!B6 (Gu ps ts) t).filter λt=>decide (t.nm≠d.nm):=by rw[acb];exact ab1 λt _=>Bool.and_comm _ _
   rw[e2];have:=(List.length_filter_lt_length_iff_exists (p:=λt:iF=>decide (t.nm≠d.nm)) (l:=T.filter λt=>!B6 (Gu ps ts) t)).mpr #[d,List.mem_filter.mpr #[hd,?_],#[0]]
   .simp only[ab4];omega
   .rw[abl,<- Bool.not_eq_true,ce];intro z;obtain⟨v,hv,e⟩:=List.mem_map.mp z;exact nt (aG nd (bi hv).1 d1 e ▸ hv)
def si(nd:(ts.map iF.nm).Nodup)(s:T.Sublist ts):ts.filter (B6 (T.map iF.nm))=T:=by
 refine nA (List.nodup_iff_pairwise_ne.mpr ((List.pairwise_map.mp (List.nodup_iff_pairwise_ne.mp nd)).imp λh e=>h (congrArg iF.nm e))) aa8 s λu=>?_;rw[abr,ce];constructor
 .rintro⟨h1,h2⟩;obtain⟨v,hv,e⟩:=List.mem_map.mp h2;exact aG nd (s.subset hv) h1 e ▸ hv
 .exact λh=>#[s.subset h,aaV h]
def Tr:Nat->PV->Prop
 |0,_=>False
 |d+1,x=>(∃s,x=.str s)\/(∃n,x=.int n)\/x=.Bw\/∃l,x=.tup l/\l.length<=1000/\∀y∈l,Tr d y
structure Nk(ps:Aaa)(ts:Aaf):Prop where
 ok:Eh ps ts
 pl:ps.length<=60
 tl:ts.length<=60
noncomputable def DL(n:Str)(l:Aaa):PV:=.tup [.str n,.tup (l.map .str)]
def bL:Fd:=λxs P=>∃x:Str,xs=[.str x]/\Cp x/\P (.bl true)
def bN:Fd:=λxs P=>∃ws:Aaa,xs=[.tup (ws.map .str)]/\ws.Pairwise B0/\ws.length<=1000/\P (.bl true)
def cM:Fd:=λxs P=>∃ws:Aaa,xs=[.tup (ws.map .str)]/\ws.Pairwise B0/\(∀x∈ws,Cp x)/\ws.length<=1000/\P (.bl true)
def bZ(T:Addr×Addr):Eu:=λc xs P=>c=DH T/\∃(ps:Aaa) (ts us:Aaf),xs=[Bt ps ts,.tup ((us.map iF.nm).map .str)]/\ts.length<=1000/\(ts.map iF.nm).Nodup/\us.length<64/\(us.map iF.nm).Nodup/\(∀u∈us,u∈ts)/\us≠[] /\
 ∀t,Pk us t->P (.str t.nm) (DH T)
def bE:Fd:=λxs P=>∃(n:Str) (l:Aaa),xs=[.str n,DL n l]/\Cp n/\(∀x∈l,Cp x)/\l.length<=1000/\P (.bl true)
def bq:Fd:=λxs P=>∃rs:List (Str×Aaa),(xs=[.tup ((rs.map (·.1)).map .str),.tup (rs.map λr=>DL r.1 r.2)]\/xs=[.lst ((rs.map (·.1)).map .str),.tup (rs.map λr=>DL r.1 r.2)])/\rs.length<=1000/\(∀r∈rs,Cp r.1/\(∀x∈r.2,Cp x)/\r.2.length<=1000)/\P (.bl true)
def cv:Fd:=λxs P=>∃(ps:Aaa) (ts us:Aaf),xs=[Bt ps ts,.tup ((us.map iF.nm).map .str)]/\ts.length<=1000/\us.length<=1000/\(ts.map iF.nm).Nodup/\(∀u∈us,u∈ts)/\P (.int (us.map iF.cost).sum)
def gn:Fd:=λxs P=>∃(ps:Aaa) (os:Aaf) (p:Str),xs=[.str p,.lst (os.map iD)]/\ps.Pairwise B0/\ps.length<=60/\os.length<=60/\p∈ps/\(∀t∈os,BC ps t=true)/\P (.lst ((ps.filter (rb (BW ps os) p)).map .str))
def lP:Fd:=λxs P=>∃(ps:Aaa) (os:Aaf) (one Bp:Str),xs=[.lst (os.map iD),.str one,.str Bp]/\(os.map iF.nm).Nodup/\os.length<=60/\(∀t∈os,t.one≠t.Bp/\BC ps t=true)/\Mm os/\ps.length<=60/\one∈ps/\(∃ns,Wk os one ns Bp/\ns.Nodup) /\
 ∀ns:Aaa,Wk os one ns Bp->ns.Nodup->P (.tup (ns.map .str))
instance TK:DecidableEq iF:=λa b=>decidable_of_iff (a.nm=b.nm/\a.one=b.one/\a.Bp=b.Bp/\a.cost=b.cost) #[λh=>by cases a;cases b;obtain⟨h1,h2,h3,h4⟩:=h;cases h1;cases h2;cases h3;cases h4;rfl,λh=>by subst h;exact#[rfl,rfl,rfl,rfl]]
structure Tk(ps:Aaa)(ts T:Aaf):Prop where
 nk:Nk ps ts
 sb:T.Sublist ts
 sp:Sp ps ts T
noncomputable abbrev Eb(T:Aaf):PV:=.tup ((T.map iF.nm).map .str)
noncomputable def Ek(ps:Aaa)(ts T:Aaf):Aaf:=(ts.filter (BC ps)).filter λt=>!B6 (T.map iF.nm) t
noncomputable def JX(T:Aaf)(t:iF):PV:=DL t.nm (Ei T t.one t.Bp)
noncomputable def Fw(ps:Aaa)(ts T:Aaf):PV:=.tup ((Ek ps ts T).map (JX T))
structure Sd(ps:Aaa)(t:iF)(side:Aaa):Prop where
 rise:side.Pairwise B0
 Dt:∀x∈side,x∈ps
 out:¬ (t.one∈side↔t.Bp∈side)
def bO:Fd:=λxs P=>∃(ps:Aaa) (ts T:Aaf),xs=[Bt ps ts,Eb T]/\Tk ps ts T/\P (.bl true)
def eU:Fd:=λxs P=>∃(ps:Aaa) (ts T:Aaf),xs=[Bt ps ts,Eb T]/\Tk ps ts T/\P (.bl true)
def eO:Fd:=λxs P=>∃(ps:Aaa) (ts T:Aaf),xs=[Bt ps ts,Eb T]/\Tk ps ts T/\P (Fw ps ts T)
def bH:Fd:=λxs P=>∃(ps:Aaa) (ts T:Aaf),xs=[Bt ps ts,Eb T,Fw ps ts T]/\Tk ps ts T/\T≠BE ps ts/\P (.bl false)
def gc(T:Addr×Addr):Eu:=λc xs P=>c=DH T/\∃(ps:Aaa) (ts:Aaf) (t:iF) (side:Aaa),xs=[Bt ps ts,.str t.nm,.tup (side.map .str)]/\Nk ps ts/\t∈ts/\BC ps t=true/\Sd ps t side/\∀b:Bool,(b=true->Pk (ts.filter (Ez ps side)) t)->P (.bl b) (DH T)
def bI(T:Addr×Addr):Eu:=λc xs P=>c=DH T/\∃(ps:Aaa) (ts X:Aaf) (S:iF->List Str),xs=[Bt ps ts,Eb X,.tup (X.map λt=>DL t.nm (S t))]/\Tk ps ts X/\X≠BE ps ts/\(∀t∈X,Sd ps t (S t))/\P (.bl false) (DH T)
def cN:Eu:=λc xs P=>∃(F:Nat) (ps:Aaa) (ts X:Aaf),c=.int (F:Int)/\2<=F/\xs=[Bt ps ts,.lst (X.map iD)]/\Tk ps ts X/\∀(f:Nat) (Y:Aaf),F<=f+2->Tk ps ts Y->P (.lst (Y.map iD)) (.int (f:Int))
def ib:Eu:=λc xs P=>∃(F:Nat) (ps:Aaa) (ts X:Aaf),c=.int (F:Int)/\200<=F/\xs=[Bt ps ts,.lst (X.map iD)]/\Tk ps ts X/\∀(f:Nat) (S:iF->List Str),F<=f+200->(∀t∈X,Sd ps t (S t))->P (.tup (X.map λt=>DL t.nm (S t))) (.int (f:Int))
def Tk.nd(h:Tk ps ts T):(ts.map iF.nm).Nodup:=bQ h.nk.ok
def Tk.only(h:Tk ps ts T):ts.filter (B6 (T.map iF.nm))=T:=si h.nd h.sb
def Tk.some(h:Tk ps ts T):FA ps (T.map iF.nm) ts=T:=by unfold FA;rw[mw,h.only];exact List.filter_eq_self.mpr h.sp.BC
def Tk.len(h:Tk ps ts T):T.length<=60:=aaX h.sb.length_le h.nk.tl
def Tk.rise(h:Tk ps ts T):(T.map iF.nm).Pairwise B0:=h.nk.ok.names.sublist (h.sb.map _)
def Tk.ne(h:Tk ps ts T):∀t∈T,t.one≠t.Bp:=λt ht=>j7 (h.nk.ok.tie t (h.sp.sub t ht).1).lt
def Tk.way(h:Tk ps ts T)(ht:t∈ts)(o:BC ps t=true):∃ns,Wk T t.one ns t.Bp/\ns.Nodup:=by obtain⟨ns,w⟩:=uR h.sp.BC (h.sp.JJ ht o);exact m5 h.sp.nd w
def Tk.Ei(h:Tk ps ts T)(w:Wk T a ns b)(d:ns.Nodup):ns=Pre.Ei T a b:=by obtain⟨w',d'⟩:=lQ #[ns,w,d];exact m6 h.sp.nd h.ne h.sp.Sb w w' d d'
def Dg:u∈Ek ps ts T↔u∈ts/\BC ps u=true/\u.nm∉T.map iF.nm:=by unfold Ek;rw[abr,abr,abl,<- Bool.not_eq_true,ce];exact and_assoc
def jw:(Ek ps ts T).length<=ts.length:=aaX (aaA _ _) (aaA _ _)
def e9(o:Nk ps ts):Tk ps ts (BE ps ts):=#[o,List.filter_sublist.trans aa8,ie (bQ o.ok)]
def dZ:WS :=
  (nE (DK (IY (Dr (CV (IP "str" (BV 0)))) (Dr (Bs (E2 Ir Ir (eC (.int 1)) (CF B7 (a1 (BV 0))) (eC (.int 8)))))) (BB (eC (.bl false))) Cr)
  (BB (CF CG (aS (D8 (Kt (eV 0)) (.nm 0) EM (E2 Ir Ir (eC (.str "a")) (eV 0) (eC (.str "z"))) [none]) bY))))
def cH:WS :=
  (BB (CF CG (aS (D8 (Rp (aS (eV 0) (aS (R1 (eV 0) (FH (eC (.int 1))) FI) bY))) (.tp [0,1]) EM (lT Jv (eV 0) (BV 1)) [none,none]) bY)))
def cI:WS :=
  (nE (DK (IY (Dr (CV (IP "tuple" (BV 0)))) (Dr (CV (CF CG (aS (D8 (iS (eV 0)) (.nm 0) EM (Br bL (aS (eV 0) bY)) [none]) bY))))) (BB (eC (.bl false))) Cr)
  (BB (Br bN (aS (eV 0) bY))))
def iU:WS :=
  (BB (KU (lT CK (lT lE (eV 1) (eC (.int 1))) (lT lE (eV 0) (eC (.int 0)))) (lT CK (lT lE (eV 1) (eC (.int 2))) (lT lE (eV 0) (eC (.int 0))))))
def bP:WS :=
  (BB (KS (iS (lT lE (eV 0) (eC (.int 1)))) (.nm 0) EM (lT lE (eV 0) (eC (.int 0))) (eV 0) [none]))
def gp:WS :=
  (BB (CF aF (aS (D8 (iS (lT lE (eV 0) (eC (.int 1)))) (.nm 0) (CV (Br bx (aS (eV 1) (aS (eV 0) bY)))) (lT lE (eV 0) (eC (.int 0))) [none,some 0]) bY)))
def gC:WS :=
  (BB (KS (iS (lT lE (eV 0) (eC (.int 1)))) (.nm 0) EM (lT lE (eV 0) (eC (.int 0))) (Dm (aS (lT lE (eV 0) (eC (.int 3))) (aS (lT lE (eV 0) (eC (.int 0))) bY))) [none]))
def iW:WS :=
  (nE (By 3 (Br cF (aS (eV 0) bY)))
  (BB (lT LL (lT lE (eV 3) (BV 1)) (lT lE (eV 3) (BV 2)))))
def dP(T:Addr×Addr):WS :=
  (nE (By 2 (Br cF (aS (eV 0) bY)))
  (BB (IM 3 2 "cheapest_of.<locals>.<lambda>" 26 26 T.1 true (eV 1))))
def jO:WS :=
  (BB (CF aF (aS (D8 (iS (lT lE (eV 0) (eC (.int 1)))) (.nm 0) (Gm (CV (Br bx (aS (eV 1) (aS (eV 0) bY)))) (Bs (lT ER (lT CK (lT lE (eV 0) (eC (.int 1))) (BV 2)) (lT CK (lT lE (eV 0) (eC (.int 2))) (BV 2))))) (lT lE (eV 0) (eC (.int 0))) [none,some 0,some 1]) bY)))
def eY:WS :=
  (nE (kY 1 (iS (lT lE (eV 0) (eC (.int 0)))))
  (nE (Ey (iS (lT lE (eV 0) (eC (.int 1)))) (gN 2) (DK (CV (Br bx (aS (eV 0) (aS (eV 2) bY)))) (nE (fj 1 (lT lE (eV 2) (eC (.int 1))) (Dm (aS (lT lE (eV 2) (eC (.int 0))) (aS (lT lE (eV 2) (eC (.int 2))) bY))))
  (fj 1 (lT lE (eV 2) (eC (.int 2))) (Dm (aS (lT lE (eV 2) (eC (.int 0))) (aS (lT lE (eV 2) (eC (.int 1))) bY))))) Cr))
  (kW 1)))
def eh:WS :=
  (nE (CA 2 (MV (((eV 1),(eC .Bw))::[])))
  (nE (CA 3 (CZ (aS (eV 1) bY)))
  (nE (DJ (CV (BV 3)) (nE (By 4 (HJ LK 3 bY))
  (Ey (iS (lT lE (eV 0) (BV 4))) (gT (BU (gN 5) (BU (gN 6) Ee))) (DK (Bs (lT CL (eV 6) (BV 2))) (nE (NF 2 (Dm (aS (eV 5) (aS (eV 4) bY))) (eV 6))
  (De (HJ aW 3 (aS (eV 6) bY)))) Cr))))
  (BB (eV 2)))))
def iR:WS :=
  (BB (CF aF (aS (C8 (aS (Br cy (aS (eV 0) (aS (eV 1) bY))) bY)) bY)))
def fJ:WS :=
  (nE (By 1 (Br bD (aS (eV 0) bY)))
  (nE (pP 2)
  (nE (CA 3 (CZ bY))
  (nE (Ey (iS (lT lE (eV 0) (eC (.int 0)))) (gN 4) (DK (Bs (lT CL (eV 4) (BV 2))) (nE (By 5 (Br eR (aS (eV 1) (aS (eV 4) bY))))
  (nE (Ey (iS (eV 5)) (gN 6) (pQ 2 (eV 6)))
  (De (HJ aW 3 (aS (eV 5) bY))))) Cr))
  (BB (CF aF (a1 (BV 3))))))))
def m8:WS :=
  (BB (Dm (aS (lT lE (eV 0) (eC (.int 0))) (aS (CF aF (aS (D8 (iS (lT lE (eV 0) (eC (.int 1)))) (.nm 0) (Bs (lT CK (lT lE (eV 0) (eC (.int 0))) (BV 1))) (eV 0) [none,some 1]) bY)) bY))))
def gq:WS :=
  (nE (DK (Dr (CV (Br cM (aS (eV 1) bY)))) (BB (eC (.bl false))) Cr)
  (nE (By 2 (Br bM (aS (eV 0) bY)))
  (nE (DK (Dr (CV (CF CG (aS (D8 (iS (eV 1)) (.nm 0) EM (lT CK (eV 0) (BV 1)) [none,some 2]) bY)))) (BB (eC (.bl false))) Cr)
  (BB (lT B4 (CF B7 (aS (Br bX (aS (Br dI (aS (eV 0) (aS (eV 1) bY))) bY)) bY)) (lT Ea (CF B7 (aS (lT lE (eV 0) (eC (.int 0))) bY)) (CF B7 (a1 (BV 1)))))))))
def iT:WS :=
  (BB (KU (Br bO (aS (eV 0) (aS (eV 1) bY))) (lT B4 (Br bX (aS (Br dI (aS (eV 0) (aS (eV 1) bY))) bY)) (Br bX (aS (eV 0) bY)))))
def iV:WS :=
  (nE (By 2 (Br bp (aS (eV 0) bY)))
  (BB (CF IZ (aS (D8 (iS (eV 1)) (.nm 0) EM (lT lE (lT lE (eV 1) (BV 0)) (eC (.int 3))) [none,some 2]) bY))))
def pE:WS :=
  (nE (By 4 (Br cy (aS (Br bD (aS (Br dI (aS (eV 0) (aS (eV 1) bY))) bY)) (aS (eV 3) bY))))
  (nE (DK (Bs (lT CL (eV 2) (BV 4))) (BB (eC .Bw)) Cr)
  (nE (CA 5 (CZ bY))
  (nE (By 6 (eV 2))
  (nE (DJ (Bs (lT ER (eV 6) (BV 3))) (nE (Jq (lT lE (eV 4) (BV 6)) (gT (BU (gN 7) (BU (gN 6) Ee))))
  (De (HJ aW 5 (aS (eV 7) bY)))))
  (BB (CF aF (a1 (BV 5)))))))))
def cQ(T:Addr×Addr):WS :=
  (nE (By 2 (Br cF (aS (eV 0) bY)))
  (BB (qp 3 2 "cheaper_first.<locals>.<lambda>" 88 29 T.2 (eV 1))))
def bF:WS :=
  (nE (By 2 (Br bp (aS (eV 0) bY)))
  (nE (CA 3 (KS (iS (lT lE (eV 0) (eC (.int 0)))) (.nm 0) EM (eV 0) (eV 0) [none]))
  (nE (CA 4 (CZ bY))
  (nE (Ey (iS (eV 1)) (gN 5) (nE (By 6 (lT lE (eV 2) (BV 5)))
  (nE (Jq (Dm (aS (Gy lE 3 (lT lE (eV 6) (eC (.int 1)))) (aS (Gy lE 3 (lT lE (eV 6) (eC (.int 2)))) bY))) (gT (BU (gN 7) (BU (gN 8) Ee))))
  (DK (Bs (lT ER (eV 7) (BV 8))) (nE (De (HJ aW 4 (aS (eV 5) bY)))
  (CA 3 (KS (lD 3) (.tp [0,1]) EM (eV 0) (OF (Bs (lT B4 (eV 1) (BV 3))) (eV 2) (eV 1)) [none,none,some 7,some 8]))) Cr))))
  (BB (CF aF (aS (C8 (a1 (BV 4))) bY)))))))
def db(T:Addr×Addr):WS :=
  (BB (Br bG (aS (eV 0) (aS (C9 (bJ T) 1 (aS (eV 0) (aS (Br bM (aS (eV 0) bY)) bY))) bY))))
def iQ:WS :=
  (nE (By 2 (D8 (iS (lT lE (eV 0) (eC (.int 1)))) (.nm 0) (Gm (CV (Br bx (aS (eV 1) (aS (eV 0) bY)))) (Bs (lT CL (lT lE (eV 0) (eC (.int 0))) (BV 2)))) (eV 0) [none,some 0,some 1]))
  (BB (CF aF (aS (D8 (iS (eV 2)) (.nm 0) EM (Dm (aS (lT lE (eV 0) (eC (.int 0))) (aS (Br lO (aS (eV 1) (aS (eV 2) (aS (lT lE (eV 0) (eC (.int 1))) (aS (lT lE (eV 0) (eC (.int 2))) bY))))) bY))) [none,some 0,some 1]) bY))))
def e8:WS :=
  (nE (DK (IY (Dr (CV (IP "tuple" (BV 1)))) (IY (Bs (lT ER (CF B7 (a1 (BV 1))) (eC (.int 2)))) (IY (Dr (CV (Br bL (aS (lT lE (eV 1) (eC (.int 0))) bY)))) (Bs (lT ER (lT lE (eV 1) (eC (.int 0))) (BV 0)))))) (BB (eC (.bl false))) Cr)
  (BB (KU (IP "tuple" (lT lE (eV 1) (eC (.int 1)))) (CF CG (aS (D8 (iS (lT lE (eV 1) (eC (.int 1)))) (.nm 0) EM (Br bL (aS (eV 0) bY)) [none]) bY)))))
def de:WS :=
  (nE (DK (IY (Dr (CV (IP "tuple" (BV 1)))) (Bs (lT ER (CF B7 (a1 (BV 1))) (CF B7 (a1 (BV 0)))))) (BB (eC (.bl false))) Cr)
  (BB (CF CG (aS (D8 (Rp (aS (eV 0) (aS (eV 1) bY))) (.tp [0,1]) EM (Br bE (aS (eV 0) (aS (eV 1) bY))) [none,none]) bY))))
def cO:WS :=
  (nE (DK (Dr (CV (Br bO (aS (eV 0) (aS (eV 1) bY))))) (BB (eC (.bl false))) Cr)
  (nE (By 3 (Br eO (aS (eV 0) (aS (eV 1) bY))))
  (nE (DK (IY (Dr (CV (Br bq (aS (D8 (iS (eV 3)) (.nm 0) EM (lT lE (eV 0) (eC (.int 0))) [none]) (aS (eV 2) bY))))) (Bs (lT neT (eV 2) (BV 3)))) (BB (eC (.bl false))) Cr)
  (BB (CF CG (aS (OE (iS (eV 3)) (.tp [0,1]) (iS (eV 1)) 2 (Br cw (aS (eV 3) (aS (eV 2) (aS (eV 0) bY)))) [none,none,none,some 0]) bY))))))
def jP(T:Addr×Addr):WS :=
  (nE (DK (IY (Dr (CV (Br bN (aS (eV 2) bY)))) (Dr (CV (CF CG (aS (D8 (iS (eV 2)) (.nm 0) EM (lT CK (eV 0) (lT lE (eV 1) (eC (.int 0)))) [none,some 0]) bY))))) (BB (eC (.bl false))) Cr)
  (BB (lT B4 (C9 (bZ T) 3 (aS (eV 0) (aS (Br ga (aS (eV 0) (aS (eV 2) bY))) bY))) (BV 1))))
def cP(T:Addr×Addr):WS :=
  (nE (DK (IY (Dr (CV (Br eU (aS (eV 0) (aS (eV 1) bY))))) (Dr (CV (Br bq (aS (eV 1) (aS (eV 2) bY)))))) (BB (eC (.bl false))) Cr)
  (BB (CF CG (aS (D8 (iS (eV 2)) (.tp [0,1]) EM (C9 (gc T) 3 (aS (eV 2) (aS (eV 0) (aS (eV 1) bY)))) [none,none,some 0,some 3]) bY))))
def dQ:WS :=
  (nE (By 2 (eC (.str "abcdefghijklmnopqrstuvwxyz")))
  (nE (By 3 (KR (eC (.str "")) (D8 (LP (aS (Bq av 0 (aS (eC (.int 7)) bY)) bY)) (.nm 0) EM (lT lE (eV 2) (Bq av 1 (aS (eC (.int 26)) bY))) [none,some 0,some 2])))
  (nE (By 4 (Bq av 0 (aS (lT BO (CF B7 (a1 (BV 3))) (eC (.int 1))) bY)))
  (nE (By 5 (Bq av 0 (aS (eC (.int 26)) bY)))
  (nE (By 6 (Bq av 0 (aS (eC (.int 3)) bY)))
  (nE (CA 7 (CZ bY))
  (nE (Ey (LP (aS (eV 1) bY)) (gN 8) (nE (By 9 (lT lE (eV 2) (lT DP (lT BO (eV 5) (BV 8)) (eC (.int 26)))))
  (DK (Bs (lT B4 (eV 6) (eC (.int 2)))) (De (HJ aW 7 (aS (lT Ec (lT lE (eV 2) (lT DP (lT BO (eV 5) (lT GU (eV 8) (eC (.int 8)))) (eC (.int 26)))) (lT BO (eC (.int 1)) (lT DP (eV 8) (eC (.int 8))))) bY))) (De (HJ aW 7 (aS (lT BO (lT BO (Mb (eV 3) FI (FH (BV 4))) (lT Ec (eV 9) (lT BO (eC (.int 1)) (lT GU (eV 8) (eC (.int 26)))))) (Mb (eV 3) (FH (BV 4)) FI)) bY))))))
  (Hv (C8 (a1 (BV 7)))))))))))
def jh:WS :=
  (nE (By 4 (CF B7 (a1 (BV 1))))
  (nE (DK (Bs (lT B4 (eV 2) (eC (.int 2)))) (By 5 (CZ (aS (lT lE (eV 1) (lT DP (eV 3) (BV 4))) (aS (lT lE (eV 1) (lT DP (lT BO (eV 3) (eC (.int 1))) (BV 4))) bY)))) (DK (Bs (lT B4 (eV 2) (eC (.int 3)))) (nE (By 6 (Bq av 0 (aS (eV 4) bY)))
  (By 5 (CZ (aS (lT lE (eV 1) (BV 6)) (aS (lT lE (eV 1) (lT DP (lT BO (eV 6) (eC (.int 1))) (BV 4))) bY))))) (DK (Gm (Bs (lT B4 (eV 2) (eC (.int 4)))) (Bs (lT JI (eV 4) (eC (.int 3))))) (nE (By 7 (lT lE (CZ (aS (R1 (eV 1) FI (FH (lT GU (eV 4) (eC (.int 2))))) (aS (R1 (eV 1) (FH (lT GU (eV 4) (eC (.int 2)))) FI) bY))) (Bq av 0 (aS (eC (.int 2)) bY))))
  (nE (By 6 (Bq av 0 (aS (CF B7 (a1 (BV 7))) bY)))
  (By 5 (CZ (aS (lT lE (eV 7) (BV 6)) (aS (lT lE (eV 7) (lT DP (lT BO (lT BO (eV 6) (eC (.int 1))) (Bq av 0 (aS (lT Ea (CF B7 (a1 (BV 7))) (eC (.int 1))) bY))) (CF B7 (a1 (BV 7))))) bY)))))) (nE (By 6 (Bq av 0 (aS (eV 4) bY)))
  (By 5 (CZ (aS (lT lE (eV 1) (BV 6)) (aS (lT lE (eV 1) (lT DP (lT BO (lT BO (eV 6) (eC (.int 1))) (Bq av 0 (aS (lT Ea (eV 4) (eC (.int 1))) bY))) (BV 4))) bY))))))))
  (BB (CF aF (aS (C8 (a1 (BV 5))) bY)))))
def m9:WS :=
  (nE (DK (Bs (lT B4 (eV 1) (eC (.int 0)))) (BB (lT Ea (Bq av 0 (aS (eC (.int 3)) bY)) (eC (.int 1)))) Cr)
  (nE (DK (Bs (lT B4 (eV 1) (eC (.int 1)))) (BB (lT Ea (Bq av 0 (aS (eC (.int 60)) bY)) (eC (.int 30)))) Cr)
  (nE (DK (Bs (lT B4 (eV 1) (eC (.int 2)))) (BB (lT lE (CZ (aS (lT Ea (lT FF (eC (.int 10)) (eC (.int 30))) (eC (.int 1))) (aS (lT Ea (eC (.int 1)) (lT FF (eC (.int 10)) (eC (.int 30)))) (aS (eC (.int 0)) (aS (lT BO (lT FF (eC (.int 10)) (eC (.int 29))) (Bq av 0 (aS (eC (.int 3)) bY))) bY))))) (Bq av 0 (aS (eC (.int 4)) bY)))) Cr)
  (BB (eC (.int 7))))))
def kH:WS :=
  (nE (CA 3 (Bq cG 0 (aS (lT BO (eC (.int 2)) (lT lE (CZ (aS (Bq av 0 (aS (lT BO (eV 1) (eC (.int 1))) bY)) (aS (eV 1) bY))) (CF GL (aS (lT B4 (Bq av 0 (aS (eC (.int 8)) bY)) (eC (.int 0))) bY)))) bY)))
  (nE (By 4 (D8 (LP (aS (eC (.int 2)) bY)) (.nm 0) EM (HJ FK 2 (aS (Bq av 1 (aS (CF B7 (a1 (BV 2))) bY)) bY)) [none,some 0,some 3]))
  (nE (By 5 (C8 (aS (Gy BO 3 (lT Ec (eV 4) (CF GL (aS (lT B4 (Bq av 0 (aS (eC (.int 3)) bY)) (eC (.int 0))) bY)))) bY)))
  (nE (By 6 (lT Ec (lT lE (CZ (aS (Bq av 0 (aS (eC (.int 9)) bY)) (aS (Bq av 0 (aS (lT BO (eV 2) (eC (.int 1))) bY)) (aS (eV 2) bY)))) (Bq av 0 (aS (eC (.int 3)) bY))) (CF GL (aS (lT JI (CF B7 (a1 (BV 5))) (eC (.int 1))) bY))))
  (nE (NG 7 8 (aS (Bq av 0 (aS (eC (.int 6)) bY)) (aS (Bq av 0 (aS (eC (.int 4)) bY)) bY)))
  (nE (CA 9 (CZ bY))
  (nE (Ey (iE (aS (Bq cG 0 (aS (eV 6) bY)) bY)) (gT (BU (gN 10) (BU (gN 11) Ee))) (De (HJ aW 9 (aS (lT BO (lT BO (Dm (aS (eV 11) bY)) (Bq gg 0 (aS (eV 5) (aS (eV 7) (aS (eV 10) bY))))) (Dm (aS (Bq gh 0 (aS (eV 8) bY)) bY))) bY))))
  (BB (Dm (aS (CF aF (a1 (BV 3))) (aS (CF aF (a1 (BV 9))) bY)))))))))))
def jg:WS :=
  (Hv (D8 (iS (lT lE (eV 0) (eC (.int 1)))) (.nm 0) (Gm (Bs (lT CK (lT lE (eV 0) (eC (.int 1))) (lT lE (eV 1) (eC (.int 0))))) (Bs (lT CK (lT lE (eV 0) (eC (.int 2))) (lT lE (eV 1) (eC (.int 0)))))) (eV 0) [none,some 0]))
def ji:WS :=
  (nE (CA 2 (CZ (aS (eV 0) bY)))
  (nE (By 3 (eC (.int 0)))
  (nE (DJ (Bs (lT Jv (eV 3) (CF B7 (a1 (BV 2))))) (nE (By 3 (CF B7 (a1 (BV 2))))
  (Ey (iS (eV 1)) (gT (BU (gN 4) (BU (gN 5) (BU (gN 6) (BU (gN 7) Ee))))) (DK (Bs (lT ER (lT CK (eV 5) (BV 2)) (lT CK (eV 6) (BV 2)))) (De (HJ aW 2 (aS (OF (Bs (lT CK (eV 5) (BV 2))) (eV 6) (eV 5)) bY))) Cr))))
  (BB (C8 (a1 (BV 2)))))))
def kG:WS :=
  (nE (CA 3 (CZ (aS (Dm (aS (eV 1) (aS (Dm bY) bY))) bY)))
  (nE (By 4 (eC (.int 0)))
  (nE (DJ (Bs (lT Jv (eV 4) (CF B7 (a1 (BV 3))))) (nE (Jq (Gy lE 3 (BV 4)) (gT (BU (gN 5) (BU (gN 6) Ee))))
  (nE (DK (Bs (lT B4 (eV 5) (BV 2))) (BB (eV 6)) Cr)
  (nE (Ey (iS (eV 0)) (gT (BU (gN 7) (BU (gN 8) (BU (gN 9) (BU (gN 10) Ee))))) (DK (Gm (Bs (lT CL (eV 7) (BV 6))) (Bs (lT CK (eV 5) (Dm (aS (eV 8) (aS (eV 9) bY)))))) (De (HJ aW 3 (aS (Dm (aS (OF (Bs (lT B4 (eV 5) (BV 8))) (eV 9) (eV 8)) (aS (lT BO (eV 6) (Dm (aS (eV 7) bY))) bY))) bY))) Cr))
  (By 4 (lT BO (eV 4) (eC (.int 1))))))))
  (BB (eC .Bw)))))
def gu:WS :=
  (nE (DK (Bs (lT B4 (eV 2) (CZ bY))) (BB (eV 2)) Cr)
  (nE (By 3 (lT lE (eV 2) (Bq av 0 (aS (CF B7 (a1 (BV 2))) bY))))
  (nE (By 4 (D8 (iS (eV 2)) (.nm 0) (Bs (lT neT (eV 0) (BV 1))) (eV 0) [none,some 3]))
  (nE (By 5 (Br gn (aS (lT lE (eV 3) (eC (.int 1))) (aS (eV 4) bY))))
  (nE (By 6 (D8 (iS (Br gf (aS (eV 1) bY))) (.nm 0) (Bs (lT ER (lT CK (lT lE (eV 0) (eC (.int 1))) (BV 1)) (lT CK (lT lE (eV 0) (eC (.int 2))) (BV 1)))) (eV 0) [none,some 5]))
  (BB (IL (aS (lT BO (eV 4) (CZ (aS (lT lE (eV 6) (Bq av 0 (aS (CF B7 (a1 (BV 6))) bY))) bY))) bY))))))))
def gD:WS :=
  (nE (CA 3 (CZ bY))
  (nE (Ey (iS (eV 2)) (gN 4) (nE (By 5 (Br gn (aS (lT lE (eV 4) (eC (.int 1))) (aS (D8 (iS (eV 2)) (.nm 0) (Bs (lT neT (eV 0) (BV 1))) (eV 0) [none,some 4]) bY))))
  (nE (DK (Bs (lT B4 (Bq av 0 (aS (eC (.int 3)) bY)) (eC (.int 0)))) (By 5 (D8 (iS (lT lE (eV 1) (eC (.int 0)))) (.nm 0) (Bs (lT CL (eV 0) (BV 1))) (eV 0) [none,some 5])) Cr)
  (nE (By 6 (lT lE (lT lE (eV 1) (eC (.int 0))) (Bq av 0 (aS (CF B7 (aS (lT lE (eV 1) (eC (.int 0))) bY)) bY))))
  (nE (DK (Gm (Bs (lT B4 (Bq av 0 (aS (eC (.int 3)) bY)) (eC (.int 0)))) (Bs (lT CL (eV 6) (BV 4)))) (By 5 (jJ (aS (lT BO (eV 5) (CZ (aS (eV 6) bY))) bY))) Cr)
  (De (HJ aW 3 (aS (Dm (aS (lT lE (eV 4) (eC (.int 0))) (aS (CF aF (a1 (BV 5))) bY))) bY))))))))
  (BB (CF aF (a1 (BV 3))))))
def ic(T:Addr×Addr):WS :=
  (nE (Q.fm 1 0)
  (nE (Ey (LP (aS (eC (.int 2)) bY)) (gN 2) (nE (By 3 (Bq fH 1 (aS (eC (.int 12)) (aS (eC (.int 30)) bY))))
  (nE (By 4 (C9 (dJ T) 10 (aS (eV 3) bY)))
  (nE (By 5 (D8 (iS (lT lE (eV 3) (eC (.int 1)))) (.nm 0) (Bs (lT CK (lT lE (eV 0) (eC (.int 0))) (BV 1))) (eV 0) [none,some 4]))
  (Ey (LP (aS (eC (.int 12)) bY)) (gN 6) (nE (DK (Bs (lT B4 (lT DP (eV 6) (eC (.int 3))) (eC (.int 0)))) (By 5 (D8 (iS (lT lE (eV 3) (eC (.int 1)))) (.nm 0) (Bs (lT CK (lT lE (eV 0) (eC (.int 0))) (BV 1))) (eV 0) [none,some 4])) Cr)
  (nE (By 5 (Bq cN 1 (aS (eV 3) (aS (eV 5) bY))))
  (nE (By 7 (CF aF (aS (D8 (iS (eV 5)) (.nm 0) EM (lT lE (eV 0) (eC (.int 0))) [none]) bY)))
  (DK (Bs (lT neT (eV 7) (BV 4))) (nE (By 8 (D8 (iS (Br gf (aS (eV 3) bY))) (.nm 0) (Bs (lT CL (eV 0) (BV 1))) (eV 0) [none,some 5]))
  (nE (By 9 (CF aF (aS (D8 (iS (eV 8)) (.nm 0) EM (Dm (aS (lT lE (eV 0) (eC (.int 0))) (aS (Br lP (aS (eV 1) (aS (lT lE (eV 0) (eC (.int 1))) (aS (lT lE (eV 0) (eC (.int 2))) bY)))) bY))) [none,some 5]) bY)))
  (nE (DK (IY (CV (Br bH (aS (eV 3) (aS (eV 7) (aS (eV 9) bY))))) (CV (C9 (bI T) 10 (aS (eV 3) (aS (eV 7) (aS (Bq ib 1 (aS (eV 3) (aS (eV 5) bY))) bY)))))) (BB (eC (.bl false))) Cr)
  (DK (Bs (lT JI (Br cv (aS (eV 3) (aS (eV 4) bY))) (Br cv (aS (eV 3) (aS (eV 7) bY))))) (BB (eC (.bl false))) Cr)))) Cr)))))))))
  (BB (eC (.bl true)))))
def bc(i j:Int):B4 (.int i) (.int j)=some (.bl (decide (i=j))):=rfl
variable{i j:Int}
def bU(h:0<j):DP (.int i) (.int j)=some (.int (i % j)):=if_pos (decide_eq_true h)
def ky(h:0<j)(h2:j<1073741824):GU (.int i) (.int j)=some (.int (i / j)):=if_pos #[1]
def zt(h : -(2 ^ 64)<j)(h2:j<2 ^ 64):Ec (.int i) (.int j)=some (.int (i*j)):=if_pos (by unfold OH;simp only[aee,aaS,decide_eq_true_eq];exact .inr #[h,h2])
def sy(h:(decide (0<=j) && decide (j<=1000000) && decide (i.natAbs<2 ^ 64))=true):FF (.int i) (.int j)=some (.int (i ^ j.toNat)):=if_pos h
def fh:Ea (.int i) (.int j)=some (.int (i - j)):=rfl
def aR:BO (.int i) (.int j)=some (.int (i+j)):=rfl
variable{k:Nat}
def oY(h:i=k)(hk:k<26):lE (.str M8) (.int i)=some (.str (ch k)):=by subst h;show (if M8.length<=100000 then (IQ M8.cps.toList _).map _ else none)=_;rw[am (AV k hk)];rfl
def pT(b m:Nat):(G5 (ch b) m).length=m:=by have:=congrArg ac8 (nO b m);rw[abg]at this;show (G5 _ m).cps.size=m;exact this
def xP(x y:Str):(x++y).length=x.length+y.length:=by exact Array.size_append
def add_str(h:x.length+y.length<=100000):BO (.str x) (.str y)=some (.str (x++y)):=if_pos h
variable{m:Nat}
theorem tB{b:Nat}(h:i=m)(hm:m<=1000):Ec (.str (ch b)) (.int i)=some (.str (G5 (ch b) m)):=by
 subst h;refine(if_pos #[#[],#[],?_]).trans ?_
 .rw[show ((m:Int)).toNat=m by omega]
 .show 1<=1000;decide
theorem gQ{n j:Nat}{x:PV}(h:(Gq 0 n)[j]?=some x):j<n/\x=.int j:=by
 unfold Gq at h;rw[aal]at h;rcases aaQ j n with z|z
 .rw[acq z]at h;refine#[z,?_];have:x=.int (0+j):=by simp_all
  rw[this];congr 1;omega
 .rw[aao #[1]]at h;cases h
def cU(n:Nat):(Gq 0 n).length=n:=by unfold Gq;rw[aac,acl]
variable{F:Nat}{P:Aaq}
theorem dr{m:Int}(hF:1<=F)(h0:0<m)(h1:m<1073741824)(k:∀f r:Nat,f+1=F->(r:Int)<m->P (.int r) (.int (f:Int))):av (.int (F:Int)) [.int m] P:=by
 obtain⟨f,rfl⟩:∃f,F=f+1:=#[F - 1,#[]]
 exact draw h0 h1 λr hr=>k f r rfl hr
theorem vc(c:PV)(xs:Aad)(P:Aaq)(h:gh c xs P):Q.Im 2 m9 c xs P:=by
 obtain⟨f,q,rfl,rfl,h⟩:=h;generalize hF:f+2=F;refine ai λN hN=>?_;lia;refine ae (bc _ _) ?_;lia;split
 .exact dr #[] #[2] #[2] λf1 r h1 hr=>ae fh (h _ f1 #[] #[] #[])
 subst hN;refine ai λN hN=>?_;lia;refine ae (bc _ _) ?_;lia;split
 .exact dr #[] #[2] #[2] λf1 r h1 hr=>ae fh (h _ f1 #[] #[] #[])
 subst hN;refine ai λN hN=>?_;lia;refine ae (bc _ _) ?_;lia;split
 .have c30:(10:Int) ^ (30:Int).toNat=10 ^ 30:=rfl;have c29:(10:Int) ^ (29:Int).toNat=10 ^ 29:=rfl;have pw:FF (.int 10) (.int 30)=some _:=(sy (rfl)).trans (rfl);have Yc:FF (.int 10) (.int 29)=some _:=(sy (rfl)).trans (rfl);refine ae pw (ae fh (ae pw (ae fh (ae Yc ?_))));refine dr #[] #[2] #[2] λf1 r h1 hr=>ae aR ?_;refine dr #[] #[2] #[2] λf2 x h2 hx=>?_
  match x,hx with
  |0,_=>exact ae (am rfl) (h _ f2 #[] #[] #[])
  |1,_=>exact ae (am rfl) (h _ f2 #[] #[] #[])
  |2,_=>exact ae (am rfl) (h _ f2 #[] #[] #[])
  |3,_=>exact ae (am rfl) (h _ f2 #[] #[] #[])
  |n+4,h=>omega
 subst hN;lia;exact h 7 F #[] #[] #[]
theorem turn(x d t:Int)(h0:0<t)(h1:0<=x)(h2:x<t)(h3:0<=d)(h4:d<t - 1):0<=(x+1+d) % t/\(x+1+d) % t<t/\x≠(x+1+d) % t:=by
 refine#[acF _ #[],acd _ h0,λe=>?_];have q:=Int.emod_add_mul_ediv (x+1+d) t;have  :=by omega
 generalize (x+1+d) / t=y at this;rcases(show y<=0\/1<=y by omega)with z|z
 .have:t*y<=0:=Int.mul_nonpos_of_nonneg_of_nonpos #[] #[];omega
 .have:t*1<=t*y:=Int.mul_le_mul_of_nonneg_left z #[];omega
noncomputable def Fv(ws:Aaa)(i:Int):Str:=ws.getD i.toNat #[#v[]]
variable{ws:Aaa}
theorem dY(h0:0<=i)(h1:i<ws.length):lE (.lst (ws.map .str)) (.int i)=some (.str (Fv ws i)):=by
 obtain⟨n,rfl⟩:∃n:Nat,i=n:=#[i.toNat,#[]]
 have hn:n<ws.length:=by omega
 refine am ?_;unfold Fv;rw[aal,aaq,show ((n:Int)).toNat=n by omega,aab hn];rfl
theorem kF(h0:0<=i)(h1:i<ws.length):Fv ws i∈ws:=by unfold Fv;rw[aaq,aab #[]];exact abQ _
theorem Bm(nd:ws.Nodup)(h0:0<=i)(h1:i<ws.length)(k0:0<=j)(k1:j<ws.length)(h:i≠j):Fv ws i≠Fv ws j:=λe=>by unfold Fv at e;rw[aaq,aaq,aab #[],aab #[]]at e;have:=(abD nd).mp e;omega
theorem vb(c:PV)(xs:Aad)(P:Aaq)(h:gg c xs P):Q.Im 8 jh c xs P:=by
 obtain⟨f,ws,st,k,rfl,rfl,w2,V6,nd,h⟩:=h;generalize hF:f+4=F;have m0:(0:Int)<(ws.length:Int):=by omega
 unfold jh;refine ai λN hN=>?_;lia;rw[aac];subst hN;refine ai λN hN=>?_;have fin:∀(us:Aaa) (i j:Int) (F':Nat) (e6 e7:Aat),f<=F'->us.Nodup->(∀x∈us,x∈ws)->0<=i->i<us.length->0<=j->j<us.length->i≠j->N [some #[2,.int (F':Int)],some #[0,.lst (ws.map .str)],some #[0,.int st],some #[0,.int k],some #[0,.int (ws.length:Int)],some #[0,.lst [.str (Fv us i),.str (Fv us j)]],e6,e7]:=by
  intro us i j F' e6 e7 Lz Nj uw i0 i1 j0 j1 ij;subst hN;lia;refine#[[Fv us i,Fv us j],rfl,(by show 2<64;decide),λss up=>ae rfl ?_];obtain⟨u,v,rfl,uv,hu,hv⟩:=yS up.1 up.2 (Bm Nj i0 i1 j0 j1 ij);refine h u v F' Lz ?_ ?_ uv
  .rcases hu with e|e<;>rw[e]
   .exact uw _ (kF i0 i1)
   .exact uw _ (kF j0 j1)
  .rcases hv with e|e<;>rw[e]
   .exact uw _ (kF i0 i1)
   .exact uw _ (kF j0 j1)
 refine bf λA B hA hB=>?_;lia;refine ae (bc _ _) ?_;lia;split
 .subst hA;lia;have a0:0<=k % (ws.length:Int):=acF _ #[];have a1:k % (ws.length:Int)<ws.length:=acd _ m0;have t:=turn (k % ws.length) 0 ws.length m0 a0 a1 #[] #[];have b0:0<=(k+1) % (ws.length:Int):=acF _ #[];have b1:(k+1) % (ws.length:Int)<ws.length:=acd _ m0;refine ae (bU m0) (ae (dY a0 a1) (ae aR (ae (bU m0) (ae (dY b0 b1) ?_))));refine fin ws _ _ F none none #[] nd (λx hx=>hx) a0 a1 b0 b1 λe=>t.2.2 (e.trans ?_);rw[Int.add_zero,Int.emod_add_emod]
 subst hB;refine bf λA B hA hB=>?_;lia;refine ae (bc _ _) ?_;lia;split
 .subst hA;refine ai λN' ET=>?_;lia;refine dr #[] m0 #[] λf1 r h1 hr=>?_;try lia
  subst ET;lia;have t:=turn (r:Int) 0 ws.length m0 #[] hr #[] #[];rw[Int.add_zero]at t;refine ae (dY #[] hr) (ae aR (ae (bU m0) (ae (dY t.1 t.2.1) ?_)));exact fin ws _ _ f1 _ none #[] nd (λx hx=>hx) #[] hr t.1 t.2.1 t.2.2
 subst hB;refine bf λA B hA hB=>?_;have last:B {Ma P with nx:=N} [some #[2,.int (F:Int)],some #[0,.lst (ws.map .str)],some #[0,.int st],some #[0,.int k],some #[0,.int (ws.length:Int)],none,none,none]:=by
  subst hB;refine ai λN' ET=>?_;lia;refine dr #[] m0 #[] λf1 r h1 hr=>?_;try lia
  subst ET;lia;refine ae (dY #[] hr) (ae aR (ae fh ?_));refine dr #[] #[] #[] λf2 d h2 hd=>?_;have t:=turn (r:Int) d ws.length m0 #[] hr #[] hd;try lia
  refine ae aR (ae (bU m0) (ae (dY t.1 t.2.1) ?_));exact fin ws _ _ f2 _ none #[] nd (λx hx=>hx) #[] hr t.1 t.2.1 t.2.2
 lia;refine ae (bc _ _) ?_;lia;by_cases c1:st=4;case neg=>rw[decide_eq_false c1];exact last
 rw[decide_eq_true c1];lia;by_cases c2:(3:Int)<ws.length;case neg=>rw[decide_eq_false c2];exact last
 rw[decide_eq_true c2];lia;subst hA;refine ai λN' ET=>?_;lia;have hd2:(ws.length:Int) / 2=((ws.length / 2:Nat):Int):=by omega
 refine ae (ky #[2] #[2]) ?_;rw[hd2];lia;refine ae (ky #[2] #[2]) ?_;rw[hd2];lia;rw[yG,mD,<- List.map_take,<- List.map_drop];refine dr #[] #[2] #[2] λf1 r h1 hr=>?_;obtain⟨us,e,u2,Nj,uw,u60⟩:∃us:Aaa,lE (.lst [.lst ((ws.take (ws.length / 2)).map .str),.lst ((ws.drop (ws.length / 2)).map .str)]) (.int r)=some (.lst (us.map .str))/\2<=us.length/\us.Nodup/\(∀x∈us,x∈ws)/\us.length<=60:=by
  match r,hr with
  |0,_=>exact#[ws.take (ws.length / 2),am (j:=0) rfl,by rw[abj];omega,nd.sublist (aeN _ _),λx hx=>acN hx,by rw[abj];omega]
  |1,_=>exact#[ws.drop (ws.length / 2),am (j:=1) rfl,by rw[acQ];omega,nd.sublist (List.drop_sublist _ _),λx hx=>List.mem_of_mem_drop hx,by rw[acQ];omega]
  |n+2,h=>omega
 refine ae e ?_;try lia
 subst ET;have u0:(0:Int)<us.length:=by omega
 refine ai λN' ET=>?_;lia;rw[aac];refine dr #[] u0 #[] λf2 x h2 hx=>?_;try lia
 subst ET;lia;rw[aac];refine ae (dY #[] hx) (ae aR (ae fh ?_));refine dr #[] #[] #[] λf3 d h3 hd=>?_;have t:=turn (x:Int) d us.length u0 #[] hx #[] hd;try lia
 refine ae aR ?_;try lia
 try rw[aac]
 refine ae (bU u0) (ae (dY t.1 t.2.1) ?_);exact fin us _ _ f3 _ _ #[] Nj uw #[] hx t.1 t.2.1 t.2.2
def tM(x:Str):x.length=x.cps.toList.length:=rfl
def uK{a:Nat}(h:a<=x.length):(adr x none (some (a:Int))).cps.toList=x.cps.toList.take a:=by
 unfold adr;rw[StrLaws.sliceIdx_none_lo];have e:=ae2 (aba _) h;have e2:=StrLaws.sliced_plain x (aba _) h;by_cases c:a=x.length
 .rw[if_pos]
  .rw[c,tM,abi]
  .show (1==1 && (adv (some (0:Nat)) _ 1 x.length).length==x.length)=true;rw[e,aac];simp[c]
 .rw[if_neg]
  .show (List.filterMap _ (adv (some (0:Nat)) _ 1 x.length))=_;rw[e2];rfl
  .show ¬ (1==1 && (adv (some (0:Nat)) _ 1 x.length).length==x.length)=true;rw[e,aac];simpa using c
theorem qO{a:Nat}(h:a<=x.length):(adr x (some (a:Int)) none).cps.toList=x.cps.toList.drop a:=by
 unfold adr;rw[StrLaws.sliceIdx_none_hi];have e:=ae2 h (aaj _);have e2:=StrLaws.sliced_plain x h (aaj _);rw[e2,e,aac];by_cases c:a=0
 .rw[if_pos #[1],c];rfl
 .rw[if_neg #[3]];refine ab7 ?_;rw[acQ];exact aaj _
def ql:∀ks:Aan,(Str.join (aaE "") (ks.map ch)).cps.toList=ks.map (97+·)
 |[]=>rfl
 |[k]=>rfl
 |k::l::r=>by show ((ch k++aaE "")++Str.join _ _).cps.toList=_;rw[fY,ql _];rfl
theorem wR{ks:Aan}(h:ks.length<=6):JoinOk (aaE "") (ks.map ch)=true:=by
 unfold JoinOk;rw[StrLaws.joinTotal];have e1:(aaE "").length=0:=rfl;have e2:((ks.map ch).map (·.length)).sum=ks.length:=by
  clear h;induction ks with
  |nil=>rfl
  |cons k ks ih=>rw[aau,aau,adX,ih];show 1+ks.length=_;rw[aaG,aco]
 rw[e1,e2];unfold Builtin.Str.tooLong;rw[aaJ,abl,decide_eq_false_iff_not];omega
noncomputable def wl(sl:Aan)(a t kd k:Nat):Aan:=if kd=2 then aaO (1+k % 8) (97+(t+k / 8) % 26)else (sl.take a++aaO (1+k / 26) (97+(t+k) % 26))++sl.drop a
noncomputable def wd(sl:Aan)(a t kd k:Nat):Str:=#[(wl sl a t kd k).toArray]
def jN(sl:Aan)(a t kd k:Nat):(wd sl a t kd k).cps.toList=wl sl a t kd k:=rfl
variable{sl:Aan}{kd:Nat}
theorem wI{a t:Nat}(hs:sl.length<=6)(hc:∀c∈sl,97<=c/\c<=122)(hk:k<52):Cp (wd sl a t kd k):=by
 have e:=jN sl a t kd k;refine#[?_,?_,?_]
 .rw[e];unfold wl;split
  .rw[abg];omega
  .rw[aav,aav,abg];omega
 .rw[e];unfold wl;split
  .rw[abg];omega
  .rw[aav,aav,abg,abj,acQ];omega
 .rw[e];unfold wl;intro c h;split at h
  .have:=List.eq_of_mem_replicate h;omega
  .rcases List.mem_append.mp h with h|h
   .rcases List.mem_append.mp h with h|h
    .exact hc c (acN h)
    .have:=List.eq_of_mem_replicate h;omega
   .exact hc c (List.mem_of_mem_drop h)
def nN{m' c c':Nat}(h:aaO (1+m) c=aaO (1+m') c'):c=c':=by simp_all
theorem yR{a t k':Nat}(hk:k<52)(hk':k'<52)(h:wd sl a t kd k=wd sl a t kd k'):k=k':=by
 have e:wl sl a t kd k=wl sl a t kd k':=by rw[<- jN,<- jN,h]
 unfold wl at e;have el:=congrArg ac8 e;split at e
 .rename_i c;rw[if_pos c,if_pos c,abg,abg]at el;have:=nN e;omega
 .rename_i c;rw[if_neg c,if_neg c]at el;simp only[aav,abg]at el;have:=nN (List.append_cancel_left (List.append_cancel_right e));omega
noncomputable def JW(sl:Aan)(a t kd:Nat)(m:Nat):Aaa:=(abd m).map (wd sl a t kd)
theorem rV{a t:Nat}(hm:m<=52):(JW sl a t kd m).Nodup:=by
 unfold JW;rw[ab8,adP];have:=(List.nodup_iff_pairwise_ne.mp (ad1 (n:=m)))
 refine List.Pairwise.imp_of_mem (λ{x y} hx hy hne e=>?_) this;exact hne (yR (by have:=List.mem_range.mp hx;omega) (by have:=List.mem_range.mp hy;omega) e)
def uD(sl:Aan)(a t kd m:Nat):JW sl a t kd (m+1)=JW sl a t kd m++[wd sl a t kd m]:=by unfold JW;rw[aft,aaM];rfl
def jS:∀ss:Aaa,(ss.map PV.str).mapM Fy=some ss
 |[]=>rfl
 |s::ss=>by rw[aau,abB,jS ss];rfl
theorem sN(c:PV)(xs:Aad)(P:Aaq)(h:cG c xs P):Q.Kf 10 dQ c xs P:=by
 obtain⟨f,n,rfl,rfl,hn,h⟩:=h;generalize hF:f+20=F;unfold dQ;refine ai λN hN=>?_;show N _;subst hN;refine ai λN hN=>?_;simp only[By,KR];lia;refine dr #[] #[2] #[2] λf1 r h1 hr=>?_;lia;refine#[#[],#[],?_];refine gX (λi acc e=>∃(ks:Aan) (f2:Nat),acc=ks.map (λk=>PV.str (ch k))/\ks.length=i/\(∀k∈ks,k<26)/\f2+i=f1/\e=[some #[2,.int (f2:Int)],some #[0,.int n],some #[0,.str M8],none,none,none,none,none,none,none]) (i:=0) #[[],f1,rfl,rfl,#[0],rfl,rfl] #[0] (by rw[cU];omega) ?_ ?_
 .rintro j x acc e R hj ⟨ks,f2,rfl,kl,kb,k2,rfl⟩ k;obtain⟨Td,rfl⟩:=gQ hj;refine#[rfl,?_];lia;show av (.int (f2:Int)) [.int 26] _;refine dr #[] #[2] #[2] λf3 q h3 hq=>?_;show opt (lE (.str M8) (.int q)) _;refine ae (oY rfl #[]) ?_;refine k (some (.str (ch q))) _ #[ks++[q],f3,?_,?_,λz hz=>?_,#[],rfl]
  .rw[aaM];rfl
  .rw[aav,kl];rfl
  .rcases List.mem_append.mp hz with z1|z1
   .exact kb z z1
   .rw[List.mem_singleton.mp z1];omega
 rintro acc e ⟨ks,f2,rfl,kl,kb,k2,rfl⟩ _;rw[cU,aaP]at kl k2;have Wz:ks.length<=6:=by omega
 have em:(ks.map λk=>PV.str (ch k))=(ks.map ch).map PV.str:=by rw[aaL];rfl
 rw[em];refine#[ks.map ch,jS _,wR Wz,?_];have es:(Txt.join (aaE "") (ks.map ch)).cps.toList=ks.map (97+·):=by show (Builtin.Str.glued _ _).cps.toList=_;rw[StrLaws.glued_eq_join,ql]
 have We:(ks.map (97+·)).length<=6:=by rw[aac];exact Wz
 have Wc:∀c∈ks.map (97+·),97<=c/\c<=122:=λc hc=>by obtain⟨k,hk,rfl⟩:=List.mem_map.mp hc;have:=kb k hk;omega
 generalize Txt.join (aaE "") (ks.map ch)=G0 at es;generalize ks.map (97+·)=sl at es We Wc;have sln:G0.length=sl.length:=by rw[tM,es]
 subst hN;refine ai λN hN=>?_;lia;refine ae (if_pos #[]) (ae aR ?_);refine dr #[] #[] #[] λf3 a h3 ha=>?_;try lia
 subst hN;refine ai λN hN=>?_;lia;refine dr #[] #[2] #[2] λf4 t h4 ht=>?_;try lia
 subst hN;refine ai λN hN=>?_;lia;refine dr #[] #[2] #[2] λf5 kd h5 IA=>?_;try lia
 subst hN;refine ai λN hN=>?_;try lia
 subst hN;refine ai λN hN=>ba λG B hG hB=>?_;lia;refine#[#[],#[],?_];subst hG;have Xc:a<=G0.length:=by omega
 refine aH (λi e=>∃v8 v9,e=[some #[2,.int (f5:Int)],some #[0,.int n],some #[0,.str M8],some #[0,.str G0],some #[0,.int a],some #[0,.int t],some #[0,.int kd],some #[1,.lst ((JW sl a t kd i).map .str)],v8,v9]) (i:=0) #[none,none,rfl] ?_ ?_;case refine_2=>
  rintro e ⟨v8,v9,rfl⟩;show N _;subst hN;rw[cU,show ((n:Int)).toNat=n by omega,aaP];simp only[Hv,C8];lia;refine#[_,jS _,by unfold JW;rw[aac,acl];omega,λss up=>?_];have nd:=rV (sl:=sl) (a:=a) (t:=t) (kd:=kd) hn;refine h ss f5 #[] ?_ (fo up.2 (up.1.nodup_iff.mpr nd)) λx hx=>?_
  .rw[up.1.length_eq];unfold JW;rw[aac,acl]
  .obtain⟨k,hk,rfl⟩:=List.mem_map.mp (up.1.mem_iff.mp hx);exact wI We Wc (by have:=List.mem_range.mp hk;omega)
 rintro j x e M hj ⟨v8,v9,rfl⟩ k;obtain⟨W0,rfl⟩:=gQ hj;rw[aaP]at k ⊢;subst hB;have Y1:j<n:=by omega
 have len:((JW sl a t kd j).map PV.str).length<=100000:=by rw[aac];unfold JW;rw[aac,acl];omega
 refine ai λN' ET=>?_;lia;refine ae aR ?_;refine ae (bU #[2]) ?_;refine ae (oY (k:=(t+j) % 26) #[] #[]) ?_;subst ET;have push:∀y:Str,y=wd sl a t kd j->M [some #[2,.int (f5:Int)],some #[0,.int n],some #[0,.str M8],some #[0,.str G0],some #[0,.int a],some #[0,.int t],some #[0,.int kd],some #[1,.lst ((JW sl a t kd j).map .str++[.str y])],some #[0,.int j],some #[0,.str (ch ((t+j) % 26))]]:=λy hy=>by refine k _ #[some #[0,.int j],some #[0,.str (ch ((t+j) % 26))],?_];rw[hy,uD,aaM];rfl
 refine bf λA1 B1 HF GP=>?_;lia;refine ae (bc _ _) ?_;lia;by_cases c:kd=2
 .have c2:((kd:Int)=2):=by omega
  rw[if_pos (decide_eq_true c2)];subst HF;lia;refine ae (ky #[2] #[2]) (ae aR (ae (bU #[2]) (ae (oY (k:=(t+j / 8) % 26) #[] #[]) ?_)));refine ae (bU #[2]) (ae aR (ae (tB (m:=1+j % 8) #[] #[]) ?_));refine ae (Fj len) ?_;refine push _ (kJ ?_);rw[nO,jN];unfold wl;rw[if_pos c]
 .have c2:¬ ((kd:Int)=2):=by omega
  rw[if_neg (by simpa using c2)];subst GP;have s6:G0.length<=1000:=by omega
  have l1:(adr G0 none (some (a:Int))).length<=G0.length:=Txt.slice_le _ _ _;have l2:(adr G0 (some (a:Int)) none).length<=G0.length:=Txt.slice_le _ _ _;simp only[De,HJ,aS,Mb];lia;refine ae (z:=(a:Int)) rfl (ae (if_pos s6) ?_);refine ae (ky #[2] #[2]) (ae aR (ae (tB (m:=1+j / 26) #[] #[]) ?_));refine ae (add_str (by rw[pT];omega)) ?_;refine ae (z:=(a:Int)) rfl (ae (if_pos s6) ?_);refine ae (add_str (by rw[xP,pT];omega)) ?_;refine ae (Fj len) ?_;refine push _ (kJ ?_);rw[fY,fY,uK Xc,qO Xc,nO,jN,es];unfold wl;rw[if_neg c]
variable{ys:Aad}
theorem uY{i:Nat}{y:PV}(hi:ys[i]?=some y)(hl:ys.length<=1000):FK ys [.int (i:Int)]=some (y,ys.eraseIdx i):=by
 have Cn  := (List.getElem?_eq_some_iff.mp hi).1;have e:Kp ys.length i=some i:=by unfold Kp;rw[if_pos #[],if_pos #[]];rfl
 refine(if_pos #[#[],#[]]).trans ?_;rw[(lB e).1];show (ys[i]?).map _=_;rw[hi];rfl
variable{w:Type}
def my(f:α->w):∀(l:List α) (i:Nat),(l.map f).eraseIdx i=(l.eraseIdx i).map f
 |[],_=>rfl
 |_::_,0=>rfl
 |a::l,i+1=>congrArg _ (my f l i)
def kn:∀(l:List α) (i:Nat) (h:i<l.length),l.Perm (l[i]::l.eraseIdx i)
 |a::l,0,_=>List.Perm.refl _
 |a::l,i+1,h=>((kn l i _).cons a).trans (List.Perm.swap _ _ _)
def sh:∀ts:Aaf,(ts.map iD).mapM L8=some (ts.map iF.nm)
 |[]=>rfl
 |t::ts=>by rw[aau,abB,sh ts];rfl
def nS{f:α->w}{l:List α}{a:α}{b:w}{ix:Aan}(h:∀i∈ix,i<l.length):(ix.map λi=>(l.map f).getD i b)=(ix.map λi=>l.getD i a).map f:=by simp_all
theorem m4{n:Nat}(hi:i=n)(hF:20<=F)(hn:n<=52)(k:∀(f':Nat) (ws:Aaa),F<=f'+20->ws.length=n->ws.Pairwise B0->(∀x∈ws,Cp x)->P (.lst (ws.map .str)) (.int (f':Int))):cG (.int (F:Int)) [.int i] P:=by subst hi;exact#[F - 20,n,#[1],rfl,hn,λws f' h=>k f' ws #[]]
theorem yu{st k:Int}(hF:4<=F)(w2:2<=ws.length)(V6:ws.length<=60)(nd:ws.Nodup)(kk:∀(f':Nat) (u v:Str),F<=f'+4->u∈ws->v∈ws->B0 u v->P (.tup [.str u,.str v]) (.int (f':Int))):gg (.int (F:Int)) [.lst (ws.map .str),.int st,.int k] P :=
 #[F - 4,ws,st,k,#[1],rfl,w2,V6,nd,λu v f' h=>kk f' u v #[]]
theorem yJ{q:Int}(hF:2<=F)(k:∀(f':Nat) (v:Int),F<=f'+2 -> -(10 ^ 30)<v->v<10 ^ 30->P (.int v) (.int (f':Int))):gh (.int (F:Int)) [.int q] P :=
 #[F - 2,q,#[1],rfl,λv f' h=>k f' v #[]]
def yt{j:Nat}{x:PV}(h:(Fc (ns.map .str))[j]?=some x):∃hj:j<ns.length,x=.tup [.int j,.str ns[j]]:=by
 unfold Fc at h;rw[aal,List.getElem?_zipIdx,aal]at h;rcases aaQ j ns.length with z|z
 .refine#[z,?_];rw[aab z]at h;have h  := aar h;rw[<- h,aaP]
 .rw[aao z]at h;cases h
def vY(ns:Aaa):(Fc (ns.map .str)).length=ns.length:=by unfold Fc;rw[aac,List.length_zipIdx,aac]
def bit(b:Bool):GL [.bl b]=some (.int (if b then 1 else 0)):=rfl
def lM{xs:Aad}(h:xs.length+ys.length<=100000):BO (.lst xs) (.lst ys)=some (.lst (xs++ys)):=if_pos h
def iA{xs:Aad}(h:xs.length+ys.length<=100000):BO (.tup xs) (.tup ys)=some (.tup (xs++ys)):=if_pos h
theorem xo(c:PV)(xs:Aad)(P:Aaq)(h:fH c xs P):Q.Im 12 kH c xs P:=by
 obtain⟨f,M,T,rfl,rfl,M0,M1,T0,T1,h⟩:=h;generalize hF:f+1000=F;unfold kH;refine ai λN hN=>?_;lia;refine ae aR ?_;refine dr #[] #[] #[] λf1 r1 h1 LU=>?_;try lia
 refine dr #[] #[2] #[2] λf2 r2 h2 S6=>?_;try lia
 refine ae (bc _ _) (ae (bit _) ?_);obtain⟨y,hy,hyM⟩:∃y:Nat,lE (.lst [.int (r1:Int),.int M]) (.int (if decide ((r2:Int)=0)then 1 else 0))=some (.int (y:Int))/\(y:Int)<=M:=by
  by_cases c:(r2:Int)=0
  .rw[decide_eq_true c];exact#[M.toNat,(am (j:=1) rfl).trans (by congr 2;omega),#[]]
  .rw[decide_eq_false c];exact#[r1,am (j:=0) rfl,#[]]
 refine ae hy (ae aR ?_);refine m4 (n:=2+y) #[] #[] #[] λf3 ws h3 wl wu ww=>?_;have wn:=bh wu;try lia
 subst hN;refine ai λN hN=>?_;lia;refine#[#[],#[],?_];refine gX (λi acc e=>∃(us fs:Aaa) (f4:Nat),acc=fs.map PV.str/\us.length+i=2+y/\us.Sublist ws/\(us++fs).Perm ws/\f3=f4+i/\e=[some #[2,.int (f4:Int)],some #[0,.int M],some #[0,.int T],some #[1,.lst (us.map .str)],none,none,none,none,none,none,none,none]) (i:=0) #[ws,[],f3,rfl,#[],adQ _,by rw[aa9],rfl,rfl] #[0] (by rw[cU];decide) ?_ ?_
 .rintro j x acc e R hj ⟨us,fs,f4,rfl,ul,SD,pm,k4,rfl⟩ k;obtain⟨Td,rfl⟩:=gQ hj;rw[aaP]at ul k k4;have j2:j<2:=Td;refine#[trivial,?_];refine#[rfl,?_];show opt (B7 [.lst (us.map PV.str)]) _;refine ae (z:=.int (us.length:Int)) (by show some (PV.int ((us.map PV.str).length:Int))=_;rw[aac]) ?_;simp only[bY];show av (.int (f4:Int)) [.int (us.length:Int)] _;refine dr #[] #[] #[] λf5 q h5 hq=>?_;have LV:q<us.length:=by omega
  show opt (FK (us.map .str) [.int (q:Int)]) _;refine ae (uY (y:=.str us[q]) (by rw[aal,aab LV];rfl) (by rw[aac];omega)) ?_;refine k (some (.str us[q])) _ #[us.eraseIdx q,fs++[us[q]],f5,?_,?_,(List.eraseIdx_sublist _ _).trans SD,?_,#[],?_]
  .rw[aaM];rfl
  .rw[ady LV];omega
  .refine List.Perm.trans ?_ pm;rw[<- ac9];refine(List.perm_append_comm (l₁:=us.eraseIdx q++fs) (l₂:=[us[q]])).trans ?_;show (us[q]::(us.eraseIdx q++fs)).Perm _;rw[<- List.cons_append];exact List.Perm.append_right fs (kn us q LV).symm
  .rw[<- my];rfl
 rintro acc e ⟨us,fs,f4,rfl,ul,SD,pm,k4,rfl⟩ _;rw[cU,aaP]at ul k4;replace ul:us.length+2=2+y:=ul;replace k4:f3=f4+2:=k4;have fl:fs.length=2:=by have:=pm.length_eq;rw[aav]at this;omega
 subst hN;refine ai λN hN=>?_;simp only[By,C8];lia;simp only[Gy];lia;refine dr #[] #[2] #[2] λf5 r5 h5 hr5=>?_;try lia
 refine ae (bc _ _) (ae (bit _) ?_);obtain⟨gs,hg,gl,gw⟩:∃gs:Aaa,Ec (.lst (fs.map .str)) (.int (if decide ((r5:Int)=0)then 1 else 0))=some (.lst (gs.map .str))/\gs.length<=2/\gs.Sublist fs:=by
  by_cases c:(r5:Int)=0
  .rw[decide_eq_true c];refine#[fs,(if_pos #[#[2],#[2],by rw[aac];omega]).trans ?_,#[],adQ _];show some (PV.lst ([fs.map PV.str].flatten))=_;simp
  .rw[decide_eq_false c];exact#[[],(if_pos #[#[2],#[2],by rw[aac];omega]).trans rfl,#[0],List.nil_sublist _]
 refine ae hg (ae (lM (by rw[aac,aac];omega)) ?_);try lia
 rw[<- aaM];refine#[us++gs,jS _,by rw[aav];omega,λHx up=>?_];have V7:(us++gs).Sublist (us++fs):=(adQ us).append gw;have Yb:Hx.Nodup:=up.1.nodup_iff.mpr ((pm.nodup_iff.mpr wn).sublist V7);have pw:∀x∈Hx,Cp x:=λx hx=>ww x (pm.mem_iff.mp (V7.subset (up.1.mem_iff.mp hx)));have pl:Hx.length<=60:=by rw[up.1.length_eq,aav];omega
 clear up;try lia
 subst hN;refine ai λN hN=>?_;lia;refine dr #[] #[2] #[2] λf6 r6 h6 hr6=>?_;try lia
 refine ae aR ?_;refine dr #[] #[] #[] λf7 r7 h7 hr7=>?_;try lia
 refine dr #[] #[2] #[2] λf8 r8 h8 YG=>?_;obtain⟨z,hz,Ys⟩:∃z:Nat,lE (.lst [.int (r6:Int),.int (r7:Int),.int T]) (.int (r8:Int))=some (.int (z:Int))/\(z:Int)<=T:=by
  match r8,YG with
  |0,_=>exact#[r6,am (j:=0) rfl,#[]]
  |1,_=>exact#[r7,am (j:=1) rfl,#[]]
  |2,_=>exact#[T.toNat,(am (j:=2) rfl).trans (by congr 2;omega),#[]]
  |n+3,h=>omega
 refine ae hz ?_;try lia
 rw[aac];refine ae (bit _) ?_;refine ae (zt (by split<;>decide) (by split<;>decide)) ?_;obtain⟨m,hm,hmT,UY⟩:∃m:Nat,(z:Int)*(if decide ((1:Int)<Hx.length)then 1 else 0)=m/\(m:Int)<=T/\(m≠0->2<=Hx.length):=by
  by_cases c:(1:Int)<Hx.length
  .rw[decide_eq_true c];exact#[z,#[0],Ys,λ_=>#[]]
  .rw[decide_eq_false c];exact#[0,#[0],#[],λq=>absurd rfl q]
 rw[hm];try lia
 subst hN;refine ai λN hN=>?_;simp only[NG];lia;refine dr #[] #[2] #[2] λf9 r9 h9 hr9=>?_;try lia
 refine dr #[] #[2] #[2] λfA rA hA hrA=>?_;try lia
 subst hN;refine ai λN hN=>?_;try lia
 subst hN;refine ai λN hN=>ba λG B hG hB=>?_;simp only[iE];lia;refine m4 (n:=m) rfl #[] #[] λfB ns Xj nl nu nw=>?_;try lia
 subst hG;have fuel:f+900<=fB:=by omega
 refine aH (λi e=>∃(ts:Aaf) (fC:Nat) (v10 v11:Aat),e=[some #[2,.int (fC:Int)],some #[0,.int M],some #[0,.int T],some #[1,.lst (us.map .str)],some #[0,.lst (fs.map .str)],some #[0,.lst (Hx.map .str)],some #[0,.int (m:Int)],some #[0,.int (r9:Int)],some #[0,.int (rA:Int)],some #[1,.lst (ts.map iD)],v10,v11]/\ts.map iF.nm=ns.take i/\ts.length=i/\(∀t∈ts,Nb t)/\fB<=fC+6*i) (i:=0) #[[],fB,none,none,rfl,rfl,rfl,#[0],#[]] ?_ ?_;case refine_2=>rintro e ⟨ts,fC,v10,v11,rfl,g1,g2,g3,g4⟩;rw[vY,aaP]at g1 g2 g4;show N _;subst hN;simp only[BB,Dm,CF,aS];lia;refine ae rfl (ae rfl ?_);refine h us ts fC #[] #[wu.sublist SD,λx hx=>ww x (SD.subset hx),?_,g3] #[] #[];rw[g1,abi];exact nu
 rintro j x e M' hj ⟨ts,fC,v10,v11,rfl,g1,g2,g3,g4⟩ k;obtain⟨W0,rfl⟩:=yt hj;rw[aaP]at g1 g2 g4 k;subst hB;have p2:2<=Hx.length:=UY #[];lia;refine yu #[] p2 pl Yb λfD u v hD hu hv uv=>?_;refine ae (iA #[0]) ?_;try lia
 refine yJ #[] λfE cc hE c0 c1=>?_;refine ae (iA #[0]) ?_;try lia
 refine ae (Fj (by rw[aac];omega)) ?_;refine k _ #[ts++[#[ns[j],u,v,cc]],fE,some #[0,.int j],some #[0,.str ns[j]],by rw[aaM];rfl,?_,by rw[aav,g2];rfl,λt ht=>?_,#[]]
 .rw[aaM,g1];show ns.take j++[ns[j]]=ns.take (j+1);rw[abI,aab W0];rfl
 .rcases List.mem_append.mp ht with z|z
  .exact g3 t z
  .have:t=#[ns[j],u,v,cc]:=by simpa using z
   subst this;exact#[nw _ (abQ _),pw u hu,pw v hv,uv,c0,c1]
section
variable{one Bp:Str}
def o8(xs:Aad)(P:Aap)(h:bx xs P):Q.run 2 iU xs P:=by
 obtain⟨ps,ts,t,rfl,h⟩:=h;refine ae (am rfl) (ae (am rfl) (ae aO ?_));try lia
 unfold BC at h;cases e:decide (t.one∈ps)with
 |false=>rw[e]at h;exact h
 |true=>rw[e]at h;exact ae (am rfl) (ae (am rfl) (ae aO h))
def aC(p:α->Bool)(f:α->w):∀(l:List α),l.filterMap (λa=>if p a=true then some (f a)else none)=(l.filter p).map f
 |[]=>rfl
 |a::l=>by rw[acT,adc,aC p f l];cases p a<;>rfl
theorem mM(xs:Aad)(P:Aap)(h:bM xs P):Q.run 1 gp xs P:=by
 obtain⟨ps,ts,rfl,hl,h⟩:=h;have e1:lE (Bt ps ts) (.int 1)=some _:=am rfl;refine ae e1 ?_;refine aX (λx=>match x with|.tup [.str a,.str b,.str c,.int d]=>if BC ps #[a,b,c,d]=true then some (.str a)else none|_=>none) (λx hx R hR=>?_) #[3] ?_
 .obtain⟨t,ht,rfl⟩:=List.mem_map.mp hx;refine#[ps,ts,t,rfl,?_];replace hR:R (if BC ps t=true then some _ else none) _:=hR;show opt (some _) _;rw[bv];cases e:BC ps t with
  |false=>rw[e]at hR;exact hR
  |true=>rw[e]at hR;refine ae (am rfl) ?_;exact hR
 .rw[abx];have e:ts.filterMap ((λx=>match x with|PV.tup [.str a,.str b,.str c,.int d]=>if BC ps #[a,b,c,d]=true then some (PV.str a)else none|_=>none) ∘ iD)=(ft ps ts).map .str:=by unfold ft;rw[aaL];exact aC _ _ ts
  rw[e];exact ae rfl h
def eq_int(i j:Int):B4 (.int i) (.int j)=some (.bl (i==j)):=rfl
def eq_str(i j:Str):B4 (.str i) (.str j)=some (.bl (i==j)):=rfl
def vf(ok:Eh ps ts):(ft ps ts).Nodup:=(bQ ok).sublist (List.filter_sublist.map _)
theorem Ba(ok:Eh ps ts)(h1:ps.length<=60)(h2:ts.length<=60):Nt ps ts:=#[ok.rise,λt ht=>j7 (ok.tie t ht).lt,h1,#[]]
def cz(fs:Aaa):(fs.map PV.str).mapM Fy=some fs:=by
 induction fs with
 |nil=>rfl
 |cons f fs ih=>rw[aau,abB,ih];rfl
def tQ(ps:Aaa):(ps.map PV.str).mapM FN=some (ps.map λp=>(aaU p:Key)):=by
 induction ps with
 |nil=>rfl
 |cons p ps ih=>rw[aau,abB,ih];rfl
def gZ(h:ps.Nodup):(ps.map λp=>(aaU p:Key)).Nodup:=by rw[ab8,adP];exact(List.nodup_iff_pairwise_ne.mp h).imp λhne e=>hne (Sum.inr.inj e)
def oS(ps:Aaa)(g:Str->List (Str×Str)):((ps.map λp=>((aaU p:Key),PV.lst ((g p).map B5))).map (·.1))=ps.map λp=>(aaU p:Key):=by simp_all
def uA(nd:ps.Nodup)(h:y∈ps):Q.GJ (ps.map λp=>((aaU p:Key),PV.lst ((g p).map B5))) (aaU y)=some ((g y).map B5):=by unfold Q.GJ;have:=aY (f:=id) (g:=λp=>PV.lst ((g p).map B5)) #[1] h;simp only[id]at this;rw[this]
def qC{q:Str×Str}:GV (ps.map λp=>((aaU p:Key),PV.lst ((g p).map B5))) (aaU y) ((g y).map B5++[B5 q])=ps.map λp=>((aaU p:Key),PV.lst ((if p=y then g y++[q]else g p).map B5)):=by
 unfold GV;rw[aaL];refine abJ λp hp=>?_;by_cases e:p=y
 .subst e;simp
 .simp[e]
theorem lr(xs:Aad)(P:Aap)(h:bD xs P):Q.Mu 3 eY xs P:=by
 obtain⟨ps,ts,rfl,ok,h⟩:=h;have nd:=bh ok.rise;have e0:lE (Bt ps ts) (.int 0)=some _:=am rfl;have e1:lE (Bt ps ts) (.int 1)=some _:=am rfl;refine ai λN hN=>?_;refine ae e0 #[_,tQ ps,gZ nd,by simp;have:=ok.pl;omega,?_];have e2:(ps.map λp=>aaU p).map (λk=>(k,PV.lst []))=ps.map λp=>((aaU p:Key),PV.lst ((BW ps (ts.take 0) p).map B5)):=by rw[aaL];rfl
 rw[e2];show N _;subst hN;refine ai λN hN=>ba λG B hG hB=>?_;refine ae e1 ?_;refine aH (λj e=>∃v2,e=[some _,some #[4,EF ps (BW ps (ts.take j))],v2]) #[none,rfl] ?_ ?_;case refine_2=>rintro e ⟨v2,rfl⟩;rw[aac,aaP,abi];subst hN;exact#[#[_,rfl],h]
 rintro j x e M hx ⟨v2,rfl⟩ k;rw[aaP]at k ⊢;have hj  :=by have:=(List.getElem?_eq_some_iff.mp hx).1;rwa [aac]at this
 have ex:x=iD ts[j]:=by simp_all
 subst ex hG hB;refine bf λA1 B1 hA hB=>?_;lia;refine#[ps,ts,_,rfl,?_];subst hA hB;refine CC.mpr ?_;have step:=λp=>wv (ps:=ps) hj p;cases eo:BC ps _ with
 |false=>
  refine k _ #[some #[0,iD ts[j]],?_];have e:BW ps (ts.take (j+1))=BW ps (ts.take j):=by funext p;rw[step p,eo];simp
  rw[e]
 |true=>
  obtain⟨h1,h2⟩:=BR.mp eo;have hne:=ok.ne ts[j] (abQ _);have hlen:∀p,(BW ps (ts.take j) p).length<=2000:=λp=>by
   have:=rh ps (ts.take j) p;have h3:(ts.take j).length<=1000:=by simp;have:=ok.tl;omega
   omega
  rw[if_pos rfl];refine ai λN' ET=>#[by rw[oS];exact gZ nd,?_]
  refine ae (am rfl) (ae rfl (ae (uA nd h1) ?_));refine ae (am rfl) ?_;refine ae (am rfl) #[by simp;have:=hlen ts[j].one;omega,?_];have ea:=qC (ps:=ps) (g:=BW ps (ts.take j)) (y:=ts[j].one) (q:=(ts[j].nm,ts[j].Bp));show N' [some _,some #[4,.Cd (GV _ _ ((BW ps _ _).map B5++[B5 (ts[j].nm,ts[j].Bp)]))],some _];rw[ea];generalize Lr:(λp=>if p=ts[j].one then BW ps _ _++[(ts[j].nm,ts[j].Bp)]else BW ps _ p)=g';have eg:∀p,(if p=ts[j].one then BW ps (ts.take j) ts[j].one++[(ts[j].nm,ts[j].Bp)]else BW ps (ts.take j) p)=g' p:=λp=>by rw[<- Lr]
  simp only[eg];subst ET;refine#[by rw[oS];exact gZ nd,?_];refine ae (am rfl) (ae rfl (ae (uA nd h2) ?_));refine ae (am rfl) ?_;refine ae (am rfl) #[by simp;rw[<- eg,if_neg hne.symm];have:=hlen ts[j].Bp;omega,?_];have eb:=qC (ps:=ps) (g:=g') (y:=ts[j].Bp) (q:=(ts[j].nm,ts[j].one));show M [some _,some #[4,.Cd (GV _ _ ((g' _).map B5++[B5 (ts[j].nm,ts[j].one)]))],some _];rw[eb];refine k _ #[some #[0,iD ts[j]],?_];have e:BW ps (ts.take (j+1))=λp=>if p=ts[j].Bp then g' ts[j].Bp++[(ts[j].nm,ts[j].one)]else g' p:=by
   funext p;rw[step p,eo,if_pos rfl];unfold ends;by_cases q1:p=ts[j].Bp
   .subst q1;rw[if_pos rfl,<- eg,if_neg hne.symm,if_neg hne,if_pos rfl];rfl
   .rw[if_neg q1,<- eg];by_cases q2:p=ts[j].one
    .subst q2;rw[if_pos rfl,if_pos rfl,if_neg (λz=>q1 z.symm)];rfl
    .rw[if_neg q2,if_neg (λz=>q2 z.symm),if_neg (λz=>q1 z.symm)];simp
  rw[e];rfl
def um{cs:Cs}(h:y∉Dp cs):Dc (cs.map λc=>((aaU c.1:Key),HK c.2)) (aaU y)=none:=lS h
def qy{cs:Cs}(nd:(Dp cs).Nodup)(h:y∈Dp cs):∃c∈cs,c.1=y/\Dc (cs.map λc=>((aaU c.1:Key),HK c.2)) (aaU y)=some (HK c.2):=by obtain⟨c,hc,rfl⟩:=List.mem_map.mp h;exact#[c,hc,rfl,aY nd hc]
def qb{eQ:List (Key×PV)}:CL (.str y) (.Cd eQ)=some (.bl (!(Dc eQ (aaU y)).isSome)):=rfl
structure OR(ps:Aaa)(g:Str->List (Str×Str))(start:Str)(cs:Cs)(as:Aaa):Prop where
 ok:E7 g start cs
 Dt:∀y∈Dp cs,y∈ps
 sub:∀y∈as,y∈Dp cs
 al:as.length<=cs.length
theorem pd(xs:Aad)(P:Aap)(h:cy xs P):Q.run 7 eh xs P:=by
 obtain⟨ps,g,start,rfl,nd,GN,Gf,CM,h⟩:=h;unfold eh;refine ai λN hN=>?_;refine ae (z:=aaU start) rfl ?_;show N _;subst hN;refine ai λN hN=>?_;subst hN;refine ai λN hN=>dM λC B hC hB=>?_;have c0:OR ps g start [(start,none)] [start]:=#[#[by simp[Dp],λi c hc=>?_,#[0]],λy hy=>?_,λy hy=>?_,#[0]]
 rotate_left
 .cases i with
  |zero=>exact .inl #[rfl,by simpa using hc.symm]
  |succ i=>simp at hc
 .simp[Dp]at hy;subst hy;exact GN
 .simpa[Dp]using hy
 have bes:∀y∈ps,lE (EF ps g) (.str y)=some _:=λy hy=>by have:=aY (f:=id) (g:=λp=>PV.lst ((g p).map B5)) (l:=ps) (a:=y) (by simpa using nd) hy;exact this
 refine dR (λk e=>∃cs as v4 v5 v6,e=[some #[0,EF ps g],some #[0,.str start],some #[1,Et cs],some #[1,.lst (as.map .str)],v4,v5,v6]/\OR ps g start cs as/\(∀y∈Dp cs,y∉as->∀q∈g y,q.2∈Dp cs)/\k=2*(ps.length - cs.length)+as.length) ?_ #[[(start,none)],[start],none,none,none,rfl,c0,λy hy hn=>absurd (by simpa[Dp]using hy) hn,rfl];rintro k e M ⟨cs,as,v4,v5,v6,rfl,ca,cl,rfl⟩ km;subst hC;refine CC.mpr ?_;cases hA:as with
 |nil=>show N _;subst hN;show P (Et cs);exact h cs ca.ok ca.Dt λy hy=>cl y hy (by rw[hA];simp)
 |cons a0 ar=>
 rw[<- hA];rw[show (!(List.map PV.str as).isEmpty)=true by rw[hA];rfl,if_pos rfl];have YI:0<as.length:=by rw[hA];simp
 obtain⟨here,hh⟩:∃y,as[as.length - 1]?=some y:=#[_,aab #[]]
 have W4:here∈as:=aaB hh;have U6:here∈ps:=ca.Dt _ (ca.sub _ W4);subst hB;refine ai λM' KC=>?_;lia;have ep:LK (as.map PV.str) []=some (.str here,(as.dropLast).map .str):=by show ((as.map PV.str)[(as.map PV.str).length - 1]?).map _=_;rw[aac,aal,hh,<- List.map_dropLast];rfl
 refine ae ep ?_;lia;subst KC;refine ba λG B hG hB=>?_;lia;refine ae (bes here U6) ?_;subst hG hB;have NU:∀y∈as,y=here\/y∈as.dropLast:=λy hy=>by
  obtain⟨i,hi,rfl⟩:=adu hy;by_cases e:i=as.length - 1
  .left;subst e;rw[aab hi]at hh;exact aar hh
  .right;rw[List.mem_iff_getElem];exact#[i,#[3],#[0]]
 refine aH (λj e=>∃HL LC v5 v6,e=[some #[0,EF ps g],some #[0,.str start],some #[1,Et HL],some #[1,.lst (LC.map .str)],some #[0,.str here],v5,v6]/\OR ps g start HL LC/\here∈Dp HL/\(∀y∈Dp HL,y≠here->y∉LC->∀q∈g y,q.2∈Dp HL)/\(∀i q,i<j->(g here)[i]?=some q->q.2∈Dp HL)/\2*(ps.length - HL.length)+LC.length<2*(ps.length - cs.length)+as.length) (i:=0)
  #[cs,as.dropLast,v5,v6,rfl,#[ca.ok,ca.Dt,λy hy=>ca.sub y (List.dropLast_subset _ hy),by have:=ca.al;simp;omega],ca.sub _ W4,λy hy hne hn=>cl y hy λz=>(NU y z).elim hne hn,λi q hi=>absurd hi #[],#[3]] ?_ ?_
 .rintro j x e M2 hx ⟨HL,LC,w5,w6,rfl,KZ,Ft,KY,seen,ms⟩ k2;obtain⟨q,hq,rfl⟩:∃q,(g here)[j]?=some q/\x=B5 q:=by
   rw[aal]at hx;cases e:(g here)[j]? with
   |none=>rw[e]at hx;cases hx
   |some q=>rw[e]at hx;exact#[q,rfl,(aar hx).symm]
  have UN:=aaB hq;unfold B5;lia;refine ae (qb) ?_;lia;by_cases JE:q.2∈Dp HL
  .obtain⟨c,_,_,ev⟩:=qy KZ.ok.nd JE;rw[ev];refine k2 _ #[HL,LC,_,_,rfl,KZ,Ft,KY,λi r hi hr=>?_,ms];by_cases ei:i<0+j
   .exact seen i r ei hr
   .have:i=j:=by omega
    subst this;rw[hq]at hr;cases hr;exact JE
  .rw[um JE];have Cn:HL.length<ps.length:=by
    have:=aB (ys:=ps) (List.nodup_cons.mpr #[JE,KZ.ok.nd]) λy hy=>by
     rcases List.mem_cons.mp hy with rfl|hy
     .exact Gf here U6 q UN
     .exact KZ.Dt y hy
    simp[Dp]at this;omega
   have RM:LC.length<=100000:=by have:=KZ.al;omega
   simp only[NF];lia;have ZI:Hu (.Cd (HL.map λc=>((aaU c.1:Key),HK c.2))) (.str q.2) (.tup [.str q.1,.str here])=some (Et (HL++[(q.2,some (q.1,here))])):=by refine(if_pos #[3]).trans ?_;show some (PV.Cd (Gr _ (aaU q.2) _))=_;rw[nR JE];unfold Et;rw[aaM];rfl
   refine ae (ZI) ?_;try lia
   refine ae (Fj (by simpa using RM)) ?_;have HM:∀y,y∈Dp (HL++[(q.2,some (q.1,here))])↔y∈Dp HL\/y=q.2:=λy=>by simp[Dp]
   refine k2 _ #[_,LC++[q.2],some #[0,.str q.1],some #[0,.str q.2],?_,#[KZ.ok.snoc JE Ft UN,λy hy=>?_,λy hy=>?_,by have:=KZ.al;simp;omega],(HM _).mpr (.inl Ft),λy hy hne hn r hr=>?_,λi r hi hr=>?_,?_]
   .rw[aaM];rfl
   .rcases(HM y).mp hy with z|rfl
    .exact KZ.Dt y z
    .exact Gf here U6 q UN
   .rcases List.mem_append.mp hy with z|z
    .exact(HM y).mpr (.inl (KZ.sub y z))
    .simp at z;exact(HM y).mpr (.inr z)
   .rcases(HM y).mp hy with z|rfl
    .exact(HM _).mpr (.inl (KY y z hne (λw=>hn (by simp[w])) r hr))
    .exact absurd #[0] hn
   .by_cases ei:i<0+j
    .exact(HM _).mpr (.inl (seen i r ei hr))
    .have:i=j:=by omega
     subst this;rw[hq]at hr;cases hr;exact(HM _).mpr (.inr rfl)
   .simp;omega
 .rintro e ⟨HL,LC,w5,w6,rfl,KZ,Ft,KY,seen,ms⟩;refine km _ _ ms #[HL,LC,_,_,_,rfl,KZ,λy hy hn r hr=>?_,rfl];by_cases e:y=here
  .subst e;obtain⟨i,hi,rfl⟩:=adu hr;exact seen i _ (by simp;exact hi) (aab hi)
  .exact KY y hy e hn r hr
def yH(cs:Cs):((cs.map λc=>((aaU c.1:Key),HK c.2)).map (·.1)).mapM FL=some (Dp cs):=by
 induction cs with
 |nil=>rfl
 |cons c cs ih=>rw[aau,aau,abB,ih];rfl
theorem o5(xs:Aad)(P:Aap)(h:eR xs P):Q.run 2 iR xs P:=by
 obtain⟨ps,g,start,rfl,rise,GN,Gf,CM,h⟩:=h;lia;refine#[ps,g,start,rfl,bh rise,GN,Gf,#[],λcs ok Dt cl=>?_];have hlen:=aB ok.nd Dt;refine#[_,yH cs,#[],λts up=>?_];have e  := jp (fo up.2 (up.1.nodup_iff.mpr ok.nd)) (rise.sublist aa8) λz=>by rw[up.1.mem_iff,ok.iff cl,abr,Ds];exact#[λh=>#[h.Dt GN Gf,h],λh=>h.2]
 rw[<- e]at h;exact ae rfl h
def qi{L:Str->Str}{p:Str}(nd:ps.Nodup)(h:p∈ps):lE (MI ps L) (.str p)=some (.str (L p)):=by exact aY (f:=id) #[1] h
def Kn(ps:Aaa)(ts:Aaf):lE (Bt ps ts) (.int 1)=some (.tup (ts.map iD)):=am rfl
def Ju(ps:Aaa)(ts:Aaf):lE (Bt ps ts) (.int 0)=some (.tup (ps.map .str)):=am rfl
theorem ju(xs:Aad)(P:Aap)(h:bp xs P):Q.run 1 bP xs P:=by obtain⟨ps,ts,rfl,hl,nd,h⟩:=h;unfold bP;lia;simp only[KS];lia;refine ae (Kn ps ts) ?_;lia;refine dG (done:=[]) iF.nm iD iD nd (λt ht R hR=>?_) #[3] h;refine ae (am rfl) ?_;exact hR
theorem sM(xs:Aad)(P:Aap)(h:cF xs P):Q.run 1 gC xs P:=by obtain⟨ps,ts,rfl,hl,nd,h⟩:=h;unfold gC;lia;simp only[KS];lia;refine ae (Kn ps ts) ?_;lia;refine dG (done:=[]) iF.nm _ iD nd (λt ht R hR=>?_) #[3] h;refine ae (am rfl) ?_;refine ae (am rfl) ?_;refine ae (am rfl) ?_;exact hR
theorem qm{us:Aaf}{ix:Aan}(hl:ix.length=us.length)(nd:ix.Nodup)(lt:∀i∈ix,i<us.length):(ix.map λi=>us.getD i t0).Perm us:=by
 have h1:ix.Perm (abd us.length):=by
  refine(afz nd ad1).mpr λi=>?_;rw[List.mem_range];refine#[lt i,λhi=>?_];exact aaZ λhn=>by
   have h2  := List.nodup_cons.mpr #[hn,nd];have h3:=aB h2 (λx hx=>by
    rcases List.mem_cons.mp hx with rfl|hx
    .exact List.mem_range.mpr hi
    .exact List.mem_range.mpr (lt x hx))
   simp at h3;omega
 have h2:((abd us.length).map λi=>us.getD i t0)=us:=by
  apply ab2;intro i;rw[aal];by_cases hi:i<us.length
  .simp[hi]
  .rw[aao #[1],aao #[]];rfl
 have h3:=h1.map λi=>us.getD i t0;rw[h2]at h3;exact h3
def qe{us:Aaf}{i j:Nat}(hi:i<us.length)(hj:j<us.length):HW (us.map λu=>(u.cost,u.nm)) i j=true↔D2 (us.getD i t0) (us.getD j t0):=by
 have g:∀i,i<us.length->(us.map λu=>(u.cost,u.nm)).getD i (0,#[#v[]])=((us.getD i t0).cost,(us.getD i t0).nm):=λi hi=>by simp_all
 unfold HW D2;rw[g i hi,g j hj,decide_eq_true_eq]
def fT{us:Aaf}{i:Nat}(hi:i<us.length):(us.map iF.nm).getD i #[#v[]]=(us.getD i t0).nm:=by simp_all
def iJ(T:Addr×Addr)(c:PV)(xs:Aad)(P:Aaq)(h:bJ T c xs P):Q.EO 3 (cQ T) c xs P:=by
 obtain⟨rfl,ps,ts,us,rfl,hl,nd,EJ,Nj,Gf,h⟩:=h;refine ai λN hN=>?_;lia;refine#[ps,ts,rfl,hl,nd,?_];lia;subst hN;refine#[_,us.map λu=>(u.cost,u.nm),#[.snd _ _,cz _,#[1],#[0],by rw[aaL];exact Nj,λm hm=>?_],λix ok=>?_]
 .rw[aac]at hm;have hu:us.getD m t0∈us:=by simp_all
  have e:(us.map λu=>(u.cost,u.nm)).getD m k0=((us.getD m t0).cost,(us.getD m t0).nm):=by simp_all
  rw[e,fT hm];exact aY nd (Gf _ hu)
 .have lt  := λi hi=>by have:=ok.lt i hi;rwa [aac]at this
  have e:(ix.map λm=>PV.str ((us.map iF.nm).getD m #[#v[]]))=((ix.map λi=>us.getD i t0).map iF.nm).map .str:=by simp_all
  rw[e];refine h _ (qm (by have:=ok.len;rwa [aac]at this) ok.nd lt) (List.pairwise_map.mpr (List.Pairwise.imp_of_mem (λhx hy hq=>?_) ok.up));exact(qe (lt _ hx) (lt _ hy)).mp hq
theorem nW(T:Addr×Addr)(c:PV)(xs:Aad)(P:Aaq)(h:dJ T c xs P):Q.EO 1 (db T) c xs P:=by obtain⟨rfl,ps,ts,rfl,ok,hp,ht,h⟩:=h;unfold db;have hf:=aaA (BC ps) ts;simp only[EO,JT];lia;simp only[C9];lia;refine#[ps,ts,rfl,#[],?_];lia;refine#[rfl,ps,ts,_,rfl,#[],bQ ok,#[],vf ok,λu hu=>(List.mem_filter.mp hu).1,λvs pm up=>?_];lia;refine#[ps,ts,vs,rfl,ok,hp,ht,pm,up,?_];exact h
def ly(a b:Str):ER (.str a) (.str b)=some (.bl (!decide (a=b))):=by show some _=_;simp
def ma(ok:Eh ps ts):(Gu ps ts).Pairwise B0:=ok.names.sublist ((List.filter_sublist.trans aa8).map _)
def xL{vs:Aaf}{l gs:Aaa}(ok:Eh ps ts)(pm:vs.Perm (ts.filter (BC ps)))(e:l=(vs.filter (D6 ps (ts.filter (BC ps)))).map iF.nm)(up:Ga l gs):gs=Gu ps ts:=by
 have p:gs.Perm (Gu ps ts):=by refine up.1.trans ?_;rw[e];exact(pm.filter _).map _
 exact pS p (fo up.2 (p.nodup_iff.mpr (bh (ma ok)))) (ma ok)
theorem iC(xs:Aad)(P:Aap)(h:bG xs P):Q.run 9 bF xs P:=by
 obtain⟨ps,ts,vs,rfl,ok,hp,ht,pm,up,h⟩:=h;have pn:=bh ok.rise;have tn:=bQ ok;have vl:vs.length<=60:=by rw[pm.length_eq];exact aaX (aaA _ _) ht
 have oo:∀u∈ts.filter (BC ps),BC ps u=true:=λu hu=>(List.mem_filter.mp hu).2;have vo:∀u∈vs,BC ps u=true:=λu hu=>oo u (pm.mem_iff.mp hu);have vt:∀u∈vs,u∈ts:=λu hu=>(List.mem_filter.mp (pm.mem_iff.mp hu)).1;unfold bF;refine ai λN hN=>?_;lia;refine#[ps,ts,rfl,#[],tn,?_];lia;subst hN;refine ai λN hN=>?_;lia;simp only[KS];lia;refine ae (Ju ps ts) ?_;lia;refine dG (done:=[]) (α:=Str) (λp=>p) PV.str PV.str (by simpa using pn) (λp hp R hR=>hR) #[3] ?_;subst hN;refine ai λN hN=>?_;lia;subst hN;refine ai λN hN=>ba λG B hG hB=>?_;lia;refine aH (λj e=>∃(g:Str->Str) (v5 v6 v7 v8:Aat),e=[some #[0,Bt ps ts],some _,some _,some #[1,MI ps g],some #[1,.lst ((((vs.take j).filter (D6 ps (ts.filter (BC ps)))).map iF.nm).map .str)],v5,v6,v7,v8]/\Kr ps (vs.take j) g) (i:=0)
  #[id,none,none,none,none,rfl,Kr.nil] ?_ ?_
 case refine_2=>
  rintro e ⟨g,v5,v6,v7,v8,rfl,hk⟩;show N _;rw[aac,aac,aaP,abi];subst hN;lia;simp only[C8];lia;refine#[_,cz _,?_,λgs us=>ae rfl ?_]
  .rw[aac];have:=aaA (D6 ps (ts.filter (BC ps))) vs;omega
  .rw[xL ok pm rfl us];exact h
 rintro j x e M hx ⟨g,v5,v6,v7,v8,rfl,hk⟩ k;rw[aaP]at k hk ⊢;have hj:j<vs.length:=by have:=(List.getElem?_eq_some_iff.mp hx).1;simpa using this
 obtain⟨t,et⟩:∃t,vs[j]?=some t:=#[_,aab hj]
 have ex:x=.str t.nm:=by simp_all
 have tv:t∈vs:=aaB et;have ot:=vo t tv;obtain⟨o1,o2⟩:=BR.mp ot;have Oz:vs.take (j+1)=vs.take j++[t]:=by rw[abI,et];rfl
 have oX:∀u∈vs.take j,BC ps u=true:=λu hu=>vo u (acN hu);have hm:∀u,u∈vs.take j↔u∈below (ts.filter (BC ps)) t:=λu=>by
  rw[BJ,<- pm.mem_iff];have WL:=List.pairwise_iff_getElem.mp up;have Vr:vs[j]=t:=by simp_all
  constructor
  .intro hu;obtain⟨i,hi,e⟩:=List.mem_iff_getElem.mp hu;rw[List.getElem_take]at e;have Ew:i<j:=by rw[abj]at hi;omega
   refine#[acN hu,?_];rw[<- e,<- Vr];exact WL i j #[] hj Ew
  .rintro⟨hu,hc⟩;obtain⟨i,hi,e⟩:=List.mem_iff_getElem.mp hu;rcases adO i j with z|z|z
   .rw[List.mem_iff_getElem];exact#[i,by rw[abj];omega,by rw[List.getElem_take];exact e]
   .subst z;rw[Vr]at e;subst e;exact absurd hc (cp _)
   .have:=WL j i hj hi z;rw[Vr,e]at this;exact absurd hc (uq this)
 have mn:=Kr.min oX oo ot hk hm;have st:=Kr.step oX ot pn hk;rw[<- Oz]at st;subst ex hG hB;refine ai λN' ET=>?_;lia;refine ae (z:=iD t) (aY (f:=iF.nm) (g:=iD) tn (vt t tv)) ?_;show N' _;subst ET;refine ai λN' ET=>?_;lia;simp only[Gy];lia;refine ae (z:=PV.str t.one) (am (j:=1) rfl) ?_;try lia
 refine ae (qi pn o1) ?_;try lia
 refine ae (z:=PV.str t.Bp) (am (j:=2) rfl) ?_;try lia
 refine ae (qi pn o2) ?_;try lia
 show N' _;subst ET;refine bf λA1 B1 HF GP=>?_;lia;refine ae (ly _ _) ?_;lia;have fe:(vs.take (j+1)).filter (D6 ps (ts.filter (BC ps)))=(vs.take j).filter (D6 ps (ts.filter (BC ps)))++(if D6 ps (ts.filter (BC ps)) t=true then [t]else []):=by rw[Oz,aeC];congr 1;rw[adc,List.filter_nil]
 have kl:((vs.take j).filter (D6 ps (ts.filter (BC ps)))).length<=60:=aaX (aaA _ _) (by rw[abj];omega);by_cases hg:g t.one=g t.Bp
 .rw[decide_eq_true hg,aeD,if_neg #[0]];subst GP;refine k _ #[g,some #[0,.str t.nm],some #[0,iD t],some #[0,.str (g t.one)],some #[0,.str (g t.Bp)],?_,st.1 hg];rw[fe,if_neg (λz=>(mn.mpr (Dh.mp z)) hg),aa9]
 .rw[decide_eq_false hg,Bool.not_false,if_pos rfl];subst HF;refine ai λN' ET=>?_;lia;refine ae (Fj #[3]) ?_;subst ET;show Gz _ _ _ _ _ _ _ _ [];rw[aaL];refine dG (done:=[]) (α:=Str) (λp=>p) (λp=>PV.str (if g p=g t.Bp then g t.one else g p)) _ (by simpa using pn) (λp hp R hR=>?_) #[3] ?_
  .refine#[rfl,?_];refine ae (eq_str _ _) ?_;refine CC.mpr ?_;by_cases z:g p=g t.Bp
   .rw[if_pos z]at hR;rw[beq_iff_eq.mpr z];exact hR
   .rw[if_neg z]at hR;rw[beq_eq_false_iff_ne.mpr z];exact hR
  .refine k _ #[_,some #[0,.str t.nm],some #[0,iD t],some #[0,.str (g t.one)],some #[0,.str (g t.Bp)],?_,st.2 hg];have e:(((vs.take (j+1)).filter (D6 ps (ts.filter (BC ps)))).map iF.nm).map PV.str=(((vs.take j).filter (D6 ps (ts.filter (BC ps)))).map iF.nm).map PV.str++[.str t.nm]:=by rw[fe,if_pos (Dh.mpr (mn.mp hg)),aaM,aaM];rfl
   rw[e];rfl
def wt(n:Nat):CG [.lst ((aaO n true).map .bl)]=some (.bl true):=by
 rw[ia];congr 2;induction n with
 |zero=>rfl
 |succ n ih=>rw[acp,List.all_cons,ih];rfl
def vB(l:Aad):l.map (λ_=>PV.bl true)=(aaO l.length true).map .bl:=by
 rw[List.map_replicate];induction l with
 |nil=>rfl
 |cons a l ih=>rw[aau,aaG,acp,ih]
def jG:CK (.str x) (.lst (ns.map .str))=some (.bl (decide (x∈ns))):=bW
theorem u8(xs:Aad)(P:Aap)(h:dI xs P):Q.run 2 m8 xs P:=by
 obtain⟨ps,ns,ts,hx,hl,HX,h⟩:=h;obtain⟨nv,rfl,Gf⟩:∃nv,xs=[Bt ps ts,nv]/\∀x:Str,CK (.str x) nv=some (.bl (decide (x∈ns))):=by
  rcases hx with rfl|rfl
  .exact#[_,rfl,λx=>aO]
  .exact#[_,rfl,λx=>jG]
 have e0:lE (Bt ps ts) (.int 0)=some _:=am rfl;have e1:lE (Bt ps ts) (.int 1)=some _:=am rfl;lia;refine ae e0 (ae e1 ?_);lia;refine aX (λx=>match x with|.tup [.str a,.str b,.str c,.int d]=>if B6 ns #[a,b,c,d]=true then some (.tup [.str a,.str b,.str c,.int d])else none|_=>none) (λx hx R hR=>?_) #[3] ?_
 .obtain⟨t,ht,rfl⟩:=List.mem_map.mp hx;refine ae (am rfl) (ae (Gf _) ?_);replace hR:R (if B6 ns t=true then some _ else none) _:=hR;show opt (some (B6 ns t)) _;rw[bv];cases e:B6 ns t with
  |false=>rw[e]at hR;exact hR
  |true=>rw[e]at hR;exact hR
 .rw[abx];have e:ts.filterMap ((λx=>match x with|PV.tup [.str a,.str b,.str c,.int d]=>if B6 ns #[a,b,c,d]=true then some (.tup [.str a,.str b,.str c,.int d])else none|_=>none) ∘ iD)=(ts.filter _).map iD:=aC _ iD ts;rw[e];exact ae rfl h
def pU(nd:(ts.map iF.nm).Nodup)(ht:t∈ts):lE (.Cd (ts.map λt=>((aaU t.nm:Key),.tup [.int t.cost,.str t.nm]))) (.str t.nm)=some (.tup [.int t.cost,.str t.nm]) :=
 aY nd ht
def qZ(a b:Bool):ER (.bl a) (.bl b)=some (.bl (!decide (a=b))):=by cases a<;>cases b<;>rfl
noncomputable def QR(ps side:Aaa):PV->Option PV
 |.tup [.str a,.str b,.str c,.int d]=>if Ez ps side #[a,b,c,d]=true then some (.str a)else none
 |_=>none
theorem qV(xs:Aad)(P:Aap)(h:ga xs P):Q.run 2 jO xs P:=by
 obtain⟨ps,side,ts,rfl,hl,h⟩:=h;lia;refine ae (Kn ps ts) ?_;lia;refine aX (QR ps side) (λx hx R hR=>?_) #[3] ?_
 .obtain⟨t,ht,rfl⟩:=List.mem_map.mp hx;replace hR:R (if Ez ps side t=true then some _ else none) _:=hR;refine#[ps,ts,t,rfl,ae rfl ?_];unfold Ez at hR;cases e:BC ps t with
  |false=>rw[e]at hR;exact hR
  |true=>
   rw[e]at hR;refine ae (am rfl) (ae aO (ae (am rfl) (ae aO (ae (qZ _ _) (ae rfl ?_)))));cases e2:(!decide (decide (t.one∈side)=decide (t.Bp∈side)))with
   |false=>rw[e2]at hR;exact hR
   |true=>rw[e2]at hR;refine ae (am rfl) ?_;exact hR
 .rw[abx];have e:ts.filterMap (QR ps side ∘ iD)=((ts.filter (Ez ps side)).map iF.nm).map .str:=by rw[aaL];exact aC _ _ ts
  rw[e];exact ae rfl h
def fZ(l:Aad):CG [.lst (l.map λ_=>PV.bl true)]=some (.bl true):=by rw[vB,wt]
end
variable{cs:Cs}
def wH(nd:(Dp cs).Nodup){i j:Nat}{v w:Option (Str×Str)}(h1:cs[i]?=some (a,v))(h2:cs[j]?=some (a,w)):i=j:=by
 have g1:(Dp cs)[i]?=some a:=by simp_all
 have g2:(Dp cs)[j]?=some a:=by simp_all
 obtain⟨i1,i2⟩:=List.getElem?_eq_some_iff.mp g1;obtain⟨j1,j2⟩:=List.getElem?_eq_some_iff.mp g2;exact(abD nd).mp (i2.trans j2.symm)
def Bl(nd:(Dp cs).Nodup){i:Nat}{v:Option (Str×Str)}(h:cs[i]?=some (a,v)):lE (Et cs) (.str a)=some (HK v):=by have:=aY (g:=λc=>HK c.2) nd (aaB h);exact this
def wG(h:y∈Dp cs):∃(i:Nat) (v:Option (Str×Str)),cs[i]?=some (y,v):=by obtain⟨c,hc,rfl⟩:=List.mem_map.mp h;obtain⟨i,hi,e⟩:=List.mem_iff_getElem.mp hc;exact#[i,c.2,#[1]]
theorem xk(xs:Aad)(P:Aap)(h:lO xs P):Q.run 8 pE xs P:=by
 obtain⟨ps,ts,fs,one,Bp,rfl,nt,tn,fl,h1,h2,hN,hW⟩:=h;have snd  := tn.sublist ((List.filter_sublist.trans aa8:(FA ps fs ts).Sublist ts).map _);refine ai λN ET=>?_;lia;refine#[ps,fs,ts,.inl rfl,nt.tl,fl,?_];refine#[ps,_,rfl,#[nt.rise,λt ht=>nt.ne t (List.mem_filter.mp ht).1,nt.pl,aaX (aaA _ _) nt.tl],?_];refine#[ps,_,Bp,rfl,bh nt.rise,h2,λp hp q hq=>iz q hq,by have:=nt.pl;omega,λcs ok sub cl=>?_];have afT:cs.length<=60:=by have:=aB ok.nd sub;rw[aac]at this;have:=nt.pl;omega
 subst ET;refine ai λN ET=>?_;lia;refine ae qb ?_;by_cases hc:one∈Dp cs;case neg=>rw[um hc];lia;exact hN λr=>hc ((ok.iff cl).mpr r)
 obtain⟨c,_,_,ec⟩:=qy ok.nd hc;rw[ec];lia;show N _;subst ET;refine ai λN ET=>?_;lia;subst ET;refine ai λN ET=>?_;lia;subst ET;refine ai λN ET=>dM λC B hC hB=>?_;obtain⟨k0,w0,WZ⟩:=wG hc;refine dR (λk e=>∃(ns:Aaa) (y:Str) (w:Option _) (v7:Aat),e=[some _,some _,some _,some _,some _,some #[1,.lst (ns.map .str)],some #[0,.str y],v7]/\cs[k]?=some (y,w)/\Wk (FA ps fs ts) one ns y/\ns.Nodup/\ns.length+k<=60/\∀n∈ns,∃i,k<i/\∃y' x',cs[i]?=some (y',some (n,x'))) ?_ (k:=k0)
  #[[],one,w0,none,rfl,WZ,rfl,#[0],by have:=(List.getElem?_eq_some_iff.mp WZ).1;simp;omega,#[0]]
 rintro k e M ⟨ns,y,w,v7,rfl,hk,hw,nd,hl,hu⟩ km;subst hC;lia;refine ae (ly _ _) ?_;lia;by_cases e:y=Bp
 .rw[decide_eq_true e];lia;show N _;subst ET;lia;refine ae rfl (hW ns (e ▸ hw) nd #[])
 rw[decide_eq_false e];lia;rcases ok.tree k _ hk with ⟨rfl,e2⟩|⟨_,nm,x,e2,e3,e4⟩
 .cases e2;exact absurd rfl e
 subst e2;obtain⟨j,w',hj⟩:=wG e4;have IB:j<k:=by have:=(List.getElem?_eq_some_iff.mp hj).1;rw[abj]at this;omega
 have Ho:cs[j]?=some (x,w'):=by simp_all
 obtain⟨t,ht,en,q⟩:=((oC ps fs ts).mem _ _ _).mp e3;have Yi:nm∉ns:=λz=>by
  obtain⟨i,hi,y',x',hy⟩:=hu nm z;rcases ok.tree i _ hy with ⟨rfl,_⟩|⟨_,nm',x2,g2,g3,g4⟩
  .exact absurd hi (afs _)
  .cases g2;obtain⟨t',Lm,ZJ,q'⟩:=((oC ps fs ts).mem _ _ _).mp g3;have:t=t':=aG snd ht Lm (en.symm.trans ZJ);subst this;rcases Ends.two q q' with ⟨_,z2⟩|⟨_,z2⟩
   .subst z2;have:=wH ok.nd hk hy;omega
   .subst z2;have:=wH ok.nd Ho hy;omega
 subst hB;refine ai λM' KC=>?_;lia;refine ae (Bl ok.nd hk) #[rfl,?_];subst KC;lia;refine ae (Fj (by rw[aac];omega)) ?_;refine km j _ IB #[ns++[nm],x,w',_,by rw[aaM];rfl,Ho,hw.app #[t,ht,en.symm,x,Ends.sym q,rfl],?_,#[3],λn hn=>?_]
 .rw[abG];exact#[nd,#[0],λa ha b hb=>by simp at hb;subst hb;exact λe=>Yi (e ▸ ha)]
 .rcases List.mem_append.mp hn with z|z
  .obtain⟨i,hi,r⟩:=hu n z;exact#[i,#[],r]
  .simp at z;subst z;exact#[k,IB,y,x,hk]
def xN(t u:iF):LL (.tup [.int t.cost,.str t.nm]) (.tup [.int u.cost,.str u.nm])=some (.bl (decide (D2 t u))):=by have e:gtB (u.cost,u.nm) (t.cost,t.nm)=decide (D2 t u):=decide_eq_decide.mpr Iff.rfl;rw[<- e];rfl
def pc(xs:Aad)(P:Aap)(h:cw xs P):Q.run 4 iW xs P:=by obtain⟨ps,ts,t,u,rfl,hl,nd,ht,hu,h⟩:=h;refine ai λN hN=>?_;lia;refine#[ps,ts,rfl,hl,nd,?_];lia;subst hN;lia;exact ae (pU nd ht) (ae (pU nd hu) (ae (xN t u) h))
variable{S:Aaa}
def FZ{k:Str}:y∈E4 S k↔y∈S\/y=k:=by
 unfold E4;split
 .rename_i h;exact#[.inl,λz=>z.elim id λe=>e ▸ h]
 .simp
def oW{k:Str}(h:S.Nodup):(E4 S k).Nodup:=by
 unfold E4;split
 .exact h
 .rename_i hk;rw[abG];exact#[h,#[0],λa ha b hb=>by simp at hb;subst hb;exact λe=>hk (e ▸ ha)]
def xE:CL (.str y) (.set S)=some (.bl (!decide (y∈S))):=rfl
theorem qU(xs:Aad)(P:Aap)(h:bX xs P):Q.run 7 fJ xs P:=by
 obtain⟨ps,ts,rfl,ok,h⟩:=h;have rise:=ok.rise;have e0:lE (Bt ps ts) (.int 0)=some (.tup (ps.map .str)):=am (j:=0) rfl;have Dt:∀p∈ps,∀q∈BW ps ts p,q.2∈ps:=λp _=>iz;unfold fJ;refine ai λN hN=>?_;lia;refine#[ps,ts,rfl,ok,?_];revert Dt h;generalize BW ps ts=g;intro h Dt;subst hN;refine ai λN hN=>?_;show N _;subst hN;refine ai λN hN=>?_;show N _;subst hN;refine ai λN hN=>ba λG B hG hB=>?_;lia;refine ae e0 ?_;refine aH (λi e=>∃(S:Aaa) (v4 v5 v6:Aat),e=[some #[0,Bt ps ts],some #[0,EF ps g],some #[1,.set S],some #[1,.lst ((((ps.take i).filter (root ps g)).map λs=>ps.filter (rb g s)).map λq=>.tup (q.map .str))],v4,v5,v6]/\S.Nodup/\(∀y∈S,y∈ps)/\(∀y,y∈S↔∃p∈ps.take i,BF g p y)) (i:=0)
  #[[],none,none,none,rfl,#[0],#[0],λy=>#[0]] ?_ ?_
 case refine_2=>rintro e ⟨S,v4,v5,v6,rfl,_⟩;show N _;rw[aac,aaP,abi];subst hN;exact ae rfl h
 rintro i x e M hx ⟨S,v4,v5,v6,rfl,Wt,Ll,hS⟩ k;rw[aaP]at k hS ⊢;have hit:i<ps.length:=by have:=(List.getElem?_eq_some_iff.mp hx).1;rwa [aac]at this
 have ex:x=.str ps[i]:=by simp_all
 subst ex hG hB;have fs:=jb (f:=root ps g) hit;have before:∀p∈ps,B0 p ps[i]↔p∈ps.take i:=λp hp=>by
  constructor
  .intro Cn;obtain⟨j,hj,rfl⟩:=adu hp;rcases adO j i with z|z|z
   .exact List.mem_take_iff_getElem.mpr #[j,#[],rfl]
   .subst z;exact absurd Cn (bw _)
   .exact absurd Cn (dA (List.pairwise_iff_getElem.mp rise i j hit hj z))
  .intro hm;obtain⟨j,hj,rfl⟩:=List.mem_take_iff_getElem.mp hm;exact List.pairwise_iff_getElem.mp rise j i #[] hit #[]
 have rt:root ps g ps[i]=!decide (ps[i]∈S):=by
  rw[aa0,B9,abl,decide_eq_false_iff_not];constructor
  .intro h e;obtain⟨p,hp,hr⟩:=(hS _).mp e;have S9:=acN hp;exact absurd ((before p S9).mpr hp) (h p S9 hr)
  .intro h p hp hr Cn;exact h ((hS _).mpr #[p,(before p hp).mp Cn,hr])
 have tk:∀p,p∈ps.take (i+1)↔p∈ps.take i\/p=ps[i]:=λp=>by rw[abI,aab hit,aa7];simp
 refine bf λA1 B1 HF GP=>?_;lia;refine ae xE ?_;lia;by_cases eS:ps[i]∈S
 .have e:(!decide (ps[i]∈S))=false:=by simp[eS]
  rw[e]at rt;simp only[e,abO,if_false];subst GP;refine k _ #[S,some #[0,.str ps[i]],v5,v6,?_,Wt,Ll,λy=>?_]
  .rw[fs,rt];simp
  .rw[hS y];constructor
   .rintro⟨p,hp,hr⟩;exact#[p,(tk p).mpr (.inl hp),hr]
   .rintro⟨p,hp,hr⟩;rcases(tk p).mp hp with hp|rfl
    .exact#[p,hp,hr]
    .obtain⟨p',LX,Kx⟩:=(hS _).mp eS;exact#[p',LX,BF.trans Kx hr]
 .have e:(!decide (ps[i]∈S))=true:=by simp[eS]
  rw[e]at rt;simp only[e,if_true];subst HF;refine ai λN2 Vh=>?_;lia;refine#[ps,g,ps[i],rfl,rise,abQ _,Dt,ok.pl,?_];lia;subst Vh;refine ai λN2 Vh=>ba λG B hG hB=>?_;lia;subst hG hB;refine aH (λj e=>∃(S':Aaa) (v6:Aat),e=[some #[0,Bt ps ts],some #[0,EF ps g],some #[1,.set S'],some _,some #[0,.str ps[i]],some _,v6]/\S'.Nodup/\(∀y∈S',y∈ps)/\(∀y,y∈S'↔y∈S\/y∈(ps.filter (rb g ps[i])).take j)) (i:=0)
   #[S,v6,rfl,Wt,Ll,λy=>#[0]] ?_ ?_
  .rintro j x e M2 hx ⟨S',w6,rfl,OZ,SW,Om⟩ k2;rw[aaP]at k2 Om;have hj  :=by have:=(List.getElem?_eq_some_iff.mp hx).1;rwa [aac]at this
   have ex:x=.str (ps.filter (rb g ps[i]))[j]:=by simp_all
   subst ex;have hlen:=aB OZ SW;refine#[trivial,by have:=ok.pl;omega,k2 _ #[_,_,rfl,oW OZ,λy hy=>?_,λy=>?_]]
   .rcases FZ.mp hy with z|rfl
    .exact SW y z
    .exact(List.mem_filter.mp (abQ hj)).1
   .rw[FZ,Om y,abI,aab hj,aa7];simp only[Option.toList_some,ac0];exact or_assoc
  .rintro e ⟨S',w6,rfl,OZ,SW,Om⟩;rw[aaP,aac,abi]at Om;show N2 _;subst Vh;lia;refine ae (Fj (by simp;have:=aaA (root ps g) (ps.take i);simp at this;have:=ok.pl;omega)) ?_;refine k _ #[S',some #[0,.str ps[i]],some #[0,.tup ((ps.filter (rb g ps[i])).map .str)],w6,?_,OZ,SW,λy=>?_]
   .rw[fs,rt];simp
   .rw[Om y,hS y];constructor
    .rintro(⟨p,hp,hr⟩|hy)
     .exact#[p,(tk p).mpr (.inl hp),hr]
     .exact#[ps[i],(tk _).mpr (.inr rfl),Ds.mp (List.mem_filter.mp hy).2]
    .rintro⟨p,hp,hr⟩;rcases(tk p).mp hp with hp|rfl
     .exact .inl #[p,hp,hr]
     .exact .inr (List.mem_filter.mpr #[hr.Dt (abQ _) Dt,Ds.mpr hr])
variable{us:Aaf}
def zw(hl:m<us.length)(h:HS (us.map λu=>(u.cost,u.nm)) us.length m):Pk us (us.getD m t0):=by
 have gm:us.getD m t0∈us:=by simp_all
 refine#[gm,λu hu hn=>?_];obtain⟨i,hi,rfl⟩:=adu hu;have e:us[i]=us.getD i t0:=by simp_all
 rw[e]at hn ⊢;exact(qe hl hi).mp (h.2 i hi λz=>hn (by rw[z]))
def n6(x:Str)(ys:Aaa):CL (.str x) (.tup (ys.map .str))=some (.bl (!decide (x∈ys))):=by show (JS _ _).map _=_;rw[lC];rfl
def ko:∀(d:Nat) (x:PV),Tr d x->∀e,Cc (e+d) x x=some true
 |0,x,h,_=>h.elim
 |d+1,x,h,e=>by
  rcases h with ⟨s,rfl⟩|⟨n,rfl⟩|rfl|⟨l,rfl,_,hl⟩
  .show some _=_;rw[beq_self_eq_true]
  .show some _=_;rw[beq_self_eq_true]
  .rfl
  .show (((l.zip l).mapM λp=>Cc (e+d) p.1 p.2).map _)=_;have:∀l:Aad,(∀y∈l,Tr d y)->((l.zip l).mapM λp=>Cc (e+d) p.1 p.2)=some (l.map λ_=>true):=λl=>by
    induction l with
    |nil=>intro _;rfl
    |cons a l ih=>intro h;rw[abX,abB,ko d a (h a aan),ih λy hy=>h y (aam _ hy)];rfl
   rw[this l hl];simp
def tJ(a b:Nat):B0 (#[#v[a]]:Str) (#[#v[b]]:Str)↔a<b:=by
 constructor
 .intro h;cases h with
  |rel h=>exact h
  |cons h=>cases h
 .exact λh=>.rel h
def Nk.nt(o:Nk ps ts):Nt ps ts:=Ba o.ok o.pl o.tl
def RY{d:Nat}{x:PV}(hd:d<=60)(h:Tr d x):Cc 60 x x=some true:=by
 have:=ko d x h (60 - d)
 rwa [Nat.sub_add_cancel hd]at this
theorem wV{c:Nat}(h:97<=c/\c<=122):decide (B0 #[#v[c]] (aaE "a"))=false/\decide (B0 (aaE "z") #[#v[c]])=false:=by have e1:(aaE "a")=#[#v[97]]:=rfl;have e2:(aaE "z")=#[#v[122]]:=rfl;rw[e1,e2,decide_eq_false_iff_not,decide_eq_false_iff_not,tJ,tJ];omega
theorem o6(xs:Aad)(P:Aap)(h:bL xs P):Q.run 1 dZ xs P:=by
 obtain⟨s,rfl,w,h⟩:=h;have hc:s.cps.toList.length=s.length:=rfl;have h1:=w.lo;have h2:=w.hi;unfold dZ;lia;rw[if_pos #[]];lia;have ZE:1<=(s.length:Int):=by omega
 have MS:(s.length:Int)<=8:=by omega
 simp only[ZE,MS,bv];refine bo (λ_=>.bl true) (λx hx R hR=>?_) (by simp[FC,hc];omega) ?_
 .obtain⟨c,hc,rfl⟩:=List.mem_map.mp hx;obtain⟨a,b⟩:=wV (w.ok c hc);simp only[EE,List.set_cons_zero];lia;simp only[a,b];exact hR
 .rw[aa3,fZ];exact CC.mpr h
def yQ(ws:Aaa):(Fu (ws.map PV.str) ((ws.drop 1).map PV.str))=(ws.zip (ws.drop 1)).map λp=>PV.tup [.str p.1,.str p.2]:=by unfold Fu;rw[List.zip_map,aaL];rfl
def wx:∀{ws:Aaa},ws.Pairwise B0->∀p∈ws.zip (ws.drop 1),B0 p.1 p.2
 |[],_,p,hp=>by simp_all
 |[_],_,p,hp=>by simp_all
 |a::b::ws,h,p,hp=>by
  rw[adE]at h;have e:(a::b::ws).zip ((a::b::ws).drop 1)=(a,b)::(b::ws).zip _:=rfl;rcases List.mem_cons.mp hp with rfl|hp
  .exact h.1 b aan
  .exact wx h.2 p hp
theorem mN(xs:Aad)(P:Aap)(h:bN xs P):Q.run 1 cH xs P:=by
 obtain⟨ws,rfl,up,hl,h⟩:=h;unfold cH;have cut:EC (ws.map PV.str) (some 1) none=(ws.drop 1).map PV.str:=by rw[show 1=((1:Nat):Int)from rfl,mD,List.map_drop]
 lia;simp only[Rp];lia;simp only[Js];rw[cut,yQ];refine bo (λ_=>.bl true) (λx hx R hR=>?_) #[3] ?_
 .obtain⟨p,hp,rfl⟩:=List.mem_map.mp hx;refine#[rfl,_,?_,hR];show some _=_;rw[decide_eq_true (wx up p hp)]
 .rw[aa3,fZ];exact CC.mpr h
theorem mP(xs:Aad)(P:Aap)(h:cM xs P):Q.run 1 cI xs P:=by
 obtain⟨ws,rfl,up,hw,hl,h⟩:=h;unfold cI;lia;refine bo (λ_=>.bl true) (λx hx R hR=>?_) #[3] ?_
 .obtain⟨w,hm,rfl⟩:=List.mem_map.mp hx;exact#[w,rfl,hw w hm,hR]
 rw[aa3,fZ];lia;exact#[ws,rfl,up,hl,h]
def j5(T:Addr×Addr)(c:PV)(xs:Aad)(P:Aaq)(h:bZ T c xs P):Q.EO 3 (dP T) c xs P:=by
 obtain⟨rfl,ps,ts,us,rfl,hl,nd,EJ,Nj,Gf,hne,h⟩:=h;simp only[EO,JT];refine ai λN hN=>?_;refine#[ps,ts,rfl,hl,nd,?_];try lia
 subst hN;simp only[BB,IM,eV,Js,ac1,List.getElem?_cons_succ];refine#[trivial,_,us.map λu=>(u.cost,u.nm),#[.fst _ _,cz _,#[1],#[0],by rw[aaL];exact Nj,λm hm=>?_],λz=>?_,λm mx=>?_]
 .rw[aac]at hm;have hu:us.getD m t0∈us:=by simp_all
  have e:(us.map λu=>(u.cost,u.nm)).getD m k0=((us.getD m t0).cost,(us.getD m t0).nm):=by simp_all
  rw[e,fT hm];exact aY nd (Gf _ hu)
 .rw[aac]at z;exact absurd (List.length_eq_zero_iff.mp z) hne
 .rw[aac]at mx;rw[fT mx.1];exact h _ (zw mx.1 mx)
theorem ls(xs:Aad)(P:Aap)(h:bE xs P):Q.run 2 e8 xs P:=by
 obtain⟨n,l,rfl,wn,wl,hl,h⟩:=h;have i0:lE (DL n l) (.int 0)=some _:=am rfl;have i1:lE (DL n l) (.int 1)=some _:=am rfl;refine ai λN hN=>?_;lia;refine ae rfl (ae rfl ?_);lia;refine ae rfl (ae rfl (ae rfl ?_));lia;refine ae i0 #[n,rfl,wn,ae rfl ?_];lia;refine ae i0 (ae (ly _ _) (ae (z:=false) #[0] ?_));lia;subst hN;lia;refine ae i1 ?_;lia;refine ae i1 ?_;lia;refine bo (λ_=>.bl true) (λx hx R hR=>?_) #[3] ?_
 .obtain⟨w,hm,rfl⟩:=List.mem_map.mp hx;exact#[w,rfl,wl w hm,hR]
 rw[aa3,fZ];exact CC.mpr h
def ne_int(a b:Int):ER (.int a) (.int b)=some (.bl (!decide (a=b))):=by show some _=_;simp
def uB(rs:List (Str×Aaa)):Fu ((rs.map (·.1)).map PV.str) (rs.map λr=>DL r.1 r.2)=rs.map λr=>PV.tup [.str r.1,DL r.1 r.2]:=by
 unfold Fu;induction rs with
 |nil=>rfl
 |cons r rs ih=>simp only[aau,abX]at ih ⊢;rw[ih]
theorem jv(xs:Aad)(P:Aap)(h:bq xs P):Q.run 2 de xs P:=by
 obtain⟨rs,hx,hl,hr,h⟩:=h;refine ai λN hN=>?_;have fin:∀a b:Aat,CD (Hs (.tp [0,1])) EM (Br bE (aS (eV 0) (aS (eV 1) bY))) [none,none] (λx e1=>opt (CG [x]) _) (Fu ((rs.map _).map PV.str) _) [a,b] []:=λa b=>by
  rw[uB];refine bo (λ_=>.bl true) (λx hx R hR=>?_) #[3] ?_
  .obtain⟨r,hm,rfl⟩:=List.mem_map.mp hx;obtain⟨h1,h2,h3⟩:=hr r hm;exact#[rfl,r.1,r.2,rfl,h1,h2,h3,hR]
  rw[aa3,fZ];exact CC.mpr h
 rcases hx with rfl|rfl;all_goals
  lia;refine ae (z:=.bl false) (by rw[ne_int,aac,aac,aac,decide_eq_true rfl];rfl) (ae rfl ?_);subst hN;lia;simp only[Rp];lia;exact fin _ _
variable{l:Aaa}
def AX{n:Str}(h:l.length<=1000):Tr 3 (DL n l):=.inr (.inr (.inr #[_,rfl,#[0],λy hy=>by
 rcases List.mem_cons.mp hy with rfl|hy
 .exact .inl #[_,rfl]
 rw[List.mem_singleton.mp hy];refine .inr (.inr (.inr #[_,rfl,#[1],λz hz=>?_]));obtain⟨s,_,rfl⟩:=List.mem_map.mp hz;exact .inl #[s,rfl]]))
theorem cE{g:WG}{f:WE}{js:Aah}{P:Aal}{env:En}(X G:α->PV):∀{l:List α} {acc:Aad},(∀a∈l,∀R:PV->En->Prop,R (G a) env->g (X a) (EE js env) λb1=>f b1 λy b3=>R y (Ce js env b3))->acc.length+l.length<=100000->P (.lst (acc++l.map G)) env->CD g EM f js P (l.map X) env acc
 |[],acc,_,_,k=>by simpa[CD]using k
 |a::l,acc,h,hl,k=>by
  have HC  :=by simpa[abF]using hl
  exact h a #[0] (λy e=>acc.length<=100000/\CD g EM f js P _ e _) #[#[],cE X G (λy hy=>h y #[1]) #[3] #[1]]
theorem zr{M T:Int}(hF:1000<=F)(h0:0<=M)(h1:M<=40)(h2:8<=T)(h3:T<=50)(k:∀(f':Nat) (ps:Aaa) (ts:Aaf),F<=f'+1000->Eh ps ts->(ps.length:Int)<=M->(ts.length:Int)<=T->P (Bt ps ts) (.int (f':Int))):fH (.int (F:Int)) [.int M,.int T] P :=
 #[F - 1000,M,T,#[1],rfl,h0,h1,h2,h3,λps ts f' h=>k f' ps ts #[]]
def wM(h:l.length<=1000):Tr 2 (.tup (l.map .str)):=.inr (.inr (.inr #[_,rfl,#[1],λz hz=>by obtain⟨s,_,rfl⟩:=List.mem_map.mp hz;exact .inl #[s,rfl]]))
noncomputable def QT(side:Aaa):PV->Option PV
 |.str a=>if (!decide (a∈side))=true then some (.str a)else none
 |_=>none
def vh(ps side:Aaa):(ps.map PV.str).filterMap (QT side)=(NS ps side).map .str:=by rw[abx];exact aC _ PV.str ps
structure Cm(ps:Aaa)(os:Aaf)(p:Str)(fs:Aaa):Prop where
 nd:fs.Nodup
 st:p∈fs
 Dt:∀y∈fs,y∈ps
 Mv:∀y∈fs,BF (BW ps os) p y
variable{p nm:Str}
def Cm.snoc{fs:Aaa}(c:Cm ps os p fs)(hx:x∈fs)(hy:y∉fs)(h:(nm,y)∈BW ps os x):Cm ps os p (fs++[y]):=by
 refine#[?_,aaH _ c.st,λz hz=>?_,λz hz=>?_]
 .rw[abG];refine#[c.nd,#[0],λa ha b hb e=>?_];rw[List.mem_singleton.mp hb]at e;exact hy (e ▸ ha)
 .rcases List.mem_append.mp hz with z1|z1
  .exact c.Dt z z1
  .rw[List.mem_singleton.mp z1];exact iz _ h
 .rcases List.mem_append.mp hz with z1|z1
  .exact c.Mv z z1
  .rw[List.mem_singleton.mp z1];exact .step (c.Mv x hx) h
variable{z:Str}
def Cm.full{fs:Aaa}(c:Cm ps os p fs)(cl:∀t∈os,t.one∈fs↔t.Bp∈fs)(r:BF (BW ps os) p z):z∈fs:=by
 induction r with
 |refl=>exact c.st
 |step _ e ih=>
  obtain⟨t,ht,_,_,h⟩:=D3.mp e;rcases h with ⟨rfl,rfl⟩|⟨rfl,rfl⟩
  .exact(cl t ht).mp ih
  .exact(cl t ht).mpr ih
theorem vd(xs:Aad)(P:Aap)(h:gn xs P):Q.run 8 ji xs P:=by
 obtain⟨ps,os,p,rfl,up,hp,ho,S9,oo,h⟩:=h;have pn:=bh up;unfold ji;refine ai λN hN=>?_;show N _;subst hN;refine ai λN hN=>?_;show N _;subst hN;refine ai λN hN=>dM λC B hC hB=>?_;have c0:Cm ps os p [p]:=#[#[0],#[0],λy hy=>by rw[List.mem_singleton.mp hy];exact S9,λy hy=>by rw[List.mem_singleton.mp hy];exact .refl]
 refine dR (λk e=>∃(fs:Aaa) (m:Nat) (v4 v5 v6 v7:Aat),e=[some #[0,.str p],some #[0,.lst (os.map iD)],some #[1,.lst (fs.map .str)],some #[0,.int (m:Int)],v4,v5,v6,v7]/\Cm ps os p fs/\(fs.length<=m->∀t∈os,t.one∈fs↔t.Bp∈fs)/\k=ps.length+1 - m) (k:=ps.length+1) ?_ #[[p],0,none,none,none,none,rfl,c0,λq=>by simp at q,rfl];rintro k e M ⟨fs,m,v4,v5,v6,v7,rfl,cm,cl,rfl⟩ km;subst hC;have fl:fs.length<=ps.length:=aB cm.nd cm.Dt;lia;rw[aac];by_cases hm:(m:Int)<fs.length;case neg=>
  rw[decide_eq_false hm,if_neg #[0]];show N _;subst hN;lia;refine#[fs,cz _,#[],λss us=>?_];have e:ss=ps.filter (rb (BW ps os) p):=by refine jp (fo us.2 (us.1.nodup_iff.mpr cm.nd)) (up.sublist aa8) λz=>?_;rw[us.1.mem_iff,abr,Ds];exact#[λhz=>#[cm.Dt z hz,cm.Mv z hz],λhz=>cm.full (cl #[]) hz.2]
  rw[e];exact h
 rw[decide_eq_true hm,if_pos rfl];subst hB;refine ai λM' KC=>?_;lia;rw[aac];subst KC;refine ba λG B hG hB=>?_;lia;refine aH (λj e=>∃(ext:Aaa) (v4 v5 v6 v7:Aat),e=[some #[0,.str p],some #[0,.lst (os.map iD)],some #[1,.lst ((fs++ext).map .str)],some #[0,.int (fs.length:Int)],v4,v5,v6,v7]/\Cm ps os p (fs++ext)/\(ext=[]->∀t∈os.take j,t.one∈fs↔t.Bp∈fs)) (i:=0) #[[],v4,v5,v6,v7,by rw[aa9],by rw[aa9];exact cm,λ_ t ht=>by simp at ht] ?_ ?_;case refine_2=>
  rintro e ⟨ext,w4,w5,w6,w7,rfl,MX,KY⟩;rw[aac,aaP,abi]at KY;refine km (ps.length+1 - fs.length) _ #[] #[fs++ext,fs.length,w4,w5,w6,w7,rfl,MX,λq=>?_,rfl];have:ext=[]:=by rw[aav]at q;exact List.length_eq_zero_iff.mp #[]
  rw[this,aa9];exact KY this
 rintro j x e M2 hj ⟨ext,w4,w5,w6,w7,rfl,MX,KY⟩ k;rw[aaP]at k KY;have Tc:j<os.length:=by have:=(List.getElem?_eq_some_iff.mp hj).1;simpa using this
 obtain⟨t,et⟩:∃t,os[j]?=some t:=#[_,aab Tc]
 have ex:x=iD t:=by simp_all
 have tm:t∈os:=aaB et;have Oz:os.take (j+1)=os.take j++[t]:=by rw[abI,et];rfl
 have e1  := D3.mpr #[t,tm,oo t tm,rfl,.inl #[rfl,rfl]];have e2  := D3.mpr #[t,tm,oo t tm,rfl,.inr #[rfl,rfl]];have gl  := aB MX.nd MX.Dt;subst ex hG hB;generalize os.map iD=ov at k ⊢;unfold iD;lia;refine ae bW (ae bW (ae (qZ _ _) ?_));lia;have push:∀y:Str,Cm ps os p ((fs++ext)++[y])->M2 [some #[0,.str p],some #[0,.lst ov],some #[1,.lst ((fs++ext).map .str++[.str y])],some #[0,.int (fs.length:Int)],some #[0,.str t.nm],some #[0,.str t.one],some #[0,.str t.Bp],some #[0,.int t.cost]]:=λy hy=>by refine k _ #[ext++[y],some ⟨0,.str t.nm⟩,some ⟨0,.str t.one⟩,some ⟨0,.str t.Bp⟩,some ⟨0,.int t.cost⟩,#[1],by rw[<- ac9];exact hy,λq=>by simp at q]
 have ln:((fs++ext).map PV.str).length<=100000:=by rw[aac];omega
 by_cases c1:t.one∈fs++ext<;>by_cases c2:t.Bp∈fs++ext
 .rw[decide_eq_true c1,decide_eq_true c2,if_neg #[2]];refine k _ #[ext,_,_,_,_,rfl,MX,λq u hu=>?_];rw[Oz]at hu;rcases List.mem_append.mp hu with z|z
  .exact KY q u z
  .rw[List.mem_singleton.mp z];rw[q,aa9]at c1 c2;exact#[λ_=>c2,λ_=>c1]
 .rw[decide_eq_true c1,decide_eq_false c2,if_pos #[2]];simp only[OF];lia;refine ae bW ?_;rw[decide_eq_true c1];lia;exact ae (Fj ln) (push _ (MX.snoc c1 c2 e1))
 .rw[decide_eq_false c1,decide_eq_true c2,if_pos #[2]];simp only[OF];lia;refine ae bW ?_;rw[decide_eq_false c1];lia;exact ae (Fj ln) (push _ (MX.snoc c2 c1 e2))
 .rw[decide_eq_false c1,decide_eq_false c2,if_neg #[2]];refine k _ #[ext,_,_,_,_,rfl,MX,λq u hu=>?_];rw[Oz]at hu;rcases List.mem_append.mp hu with z|z
  .exact KY q u z
  .rw[List.mem_singleton.mp z];rw[q,aa9]at c1 c2;exact#[λw=>absurd w c1,λw=>absurd w c2]
section
variable{one Bp:Str}{i:Nat}{js:Aaf}{R:Jn}
abbrev Jn:=List (Str×Aaa)
structure Rw(os:Aaf)(one Bp:Str)(i:Nat)(js:Aaf)(R:Jn):Prop where
 wk:∀r∈R,Wk os one r.2 r.1/\r.2.Nodup
 nd:(R.map (·.2)).Nodup
 rt:(one,[])∈R
 par:∀r∈R,r.2=[]\/∃(k:Nat) (r':Str×Aaa) (m:Str),k<=i/\R[k]?=some r'/\r.2=r'.2++[m]/\(k=i->m∈js.map iF.nm)
 cl:∀(k:Nat) (r:Str×Aaa),R[k]?=some r->k<i->r.1≠Bp/\∀t∈os,t.nm∉r.2->∀c,Ends t r.1 c->(c,r.2++[t.nm])∈R
 cj:∀r:Str×Aaa,R[i]?=some r->∀t∈js,t.nm∉r.2->∀c,Ends t r.1 c->(c,r.2++[t.nm])∈R
def Rw.new:Rw os one Bp 0 [] [(one,[])]:=by
 refine#[λr hr=>?_,#[0],#[0],λr hr=>?_,λk r _ h=>absurd h (afs _),λr _ t ht=>#[1]]
 .rw[List.mem_singleton.mp hr];exact#[rfl,#[0]]
 .rw[List.mem_singleton.mp hr];exact .inl rfl
theorem Rw.next(h:Rw os one Bp i os R){r:Str×Aaa}(hr:R[i]?=some r)(ho:r.1≠Bp):Rw os one Bp (i+1) [] R:=by
 refine#[h.wk,h.nd,h.rt,λs hs=>?_,λk s hk hl=>?_,λs _ t ht=>#[1]]
 .rcases h.par s hs with z|⟨k,r',m,k1,k2,k3,_⟩
  .exact .inl z
  .exact .inr #[k,r',m,#[],k2,k3,λe=>#[]]
 .rcases aaQ k i with z|z
  .exact h.cl k s hk z
  .have e:k=i:=by omega
   rw[e]at hk;have e2  := aar (hk.symm.trans hr);rw[e2];exact#[ho,h.cj r hr]
def Rw.skip(h:Rw os one Bp i js R){r:Str×Aaa}(hr:R[i]?=some r)(hs:t.nm∈r.2\/∀c,¬ Ends t r.1 c):Rw os one Bp i (js++[t]) R:=by
 refine#[h.wk,h.nd,h.rt,λs S3=>?_,h.cl,λs hk u hu hn c hc=>?_]
 .rcases h.par s S3 with z|⟨k,r',m,k1,k2,k3,k4⟩
  .exact .inl z
  .exact .inr #[k,r',m,k1,k2,k3,λe=>#[1]]
 .rcases List.mem_append.mp hu with z|z
  .exact h.cj s hk u z hn c hc
  .rw[hr]at hk;cases hk;rw[List.mem_singleton.mp z]at hn hc;rcases hs with q|q
   .exact absurd q hn
   .exact absurd hc (q c)
theorem Rw.add(h:Rw os one Bp i js R){r:Str×Aaa}(hr:R[i]?=some r)(ht:t∈os)(ne:t.one≠t.Bp)(hn:t.nm∉r.2)(hc:Ends t r.1 c)(hj:t.nm∉js.map iF.nm):Rw os one Bp i (js++[t]) (R++[(c,r.2++[t.nm])]):=by
 have hm  := aaB hr;have il  := (List.getElem?_eq_some_iff.mp hr).1;have old:∀(k:Nat) (s:Str×Aaa),k<R.length->(R++[(c,r.2++[t.nm])])[k]?=some s->R[k]?=some s:=λk s hk e=>by rwa [aat hk]at e
 obtain⟨w,d⟩:=h.wk r hm;have new:r.2++[t.nm]∉R.map (·.2):=λz=>by
  obtain⟨s,hs,e⟩:=List.mem_map.mp z;rcases h.par s hs with q|⟨k,r',m,k1,k2,k3,k4⟩
  .rw[q]at e;exact absurd e #[0]
  .rw[e]at k3;have q:=List.append_inj' k3 rfl;have ki:k=i:=by
    have g1:(R.map (·.2))[k]?=some r'.2:=by simp_all
    have g2:(R.map (·.2))[i]?=some r.2:=by simp_all
    obtain⟨a1,a2⟩:=List.getElem?_eq_some_iff.mp g1;obtain⟨b1,b2⟩:=List.getElem?_eq_some_iff.mp g2;exact(abD h.nd).mp (a2.trans (q.1.symm.trans b2.symm))
   have m1:t.nm=m:=by simp_all
   exact hj (m1 ▸ k4 ki)
 refine#[λs hs=>?_,?_,aaH _ h.rt,λs hs=>?_,λk s hk hl=>?_,λs hk u hu Ji c' Ft=>?_]
 .rcases List.mem_append.mp hs with z|z
  .exact h.wk s z
  .rw[List.mem_singleton.mp z];refine#[w.app #[t,ht,rfl,c,hc,rfl],?_];rw[abG];exact#[d,#[0],λa ha b hb e=>hn #[1]]
 .rw[aaM,abG];exact#[h.nd,#[0],λa ha b hb e=>new #[1]]
 .rcases List.mem_append.mp hs with z|z
  .rcases h.par s z with q|⟨k,r',m,k1,k2,k3,k4⟩
   .exact .inl q
   .refine .inr #[k,r',m,k1,?_,k3,λe=>#[1]];rw[aat #[]];exact k2
  .rw[List.mem_singleton.mp z];refine .inr #[i,r,t.nm,aaj _,?_,rfl,λ_=>#[1]];rw[aat il];exact hr
 .obtain⟨a,b⟩:=h.cl k s (old k s #[] hk) hl;exact#[a,λu hu hn c hc=>aaH _ (b u hu hn c hc)]
 .have hk:=old i s il hk;rcases List.mem_append.mp hu with z|z
  .exact aaH _ (h.cj s hk u z Ji c' Ft)
  .rw[hr]at hk;cases hk;rw[List.mem_singleton.mp z]at Ji Ft ⊢;rw[Ends.one ne Ft hc];exact aak _ #[0]
theorem Rw.full(h:Rw os one Bp i [] R)(hl:R.length<=i):∀(n:Nat) (ns:Aaa) (v:Str),ns.length=n->Wk os one ns v->ns.Nodup->(v,ns)∈R
 |0,ns,v,e,w,_=>by have:=List.length_eq_zero_iff.mp e;subst this;cases w;exact h.rt
 |n+1,ns,v,e,w,d=>by
  obtain⟨ms,m,rfl⟩:∃ms m,ns=ms++[m]:=#[ns.dropLast,ns.getLast (λz=>#[1]),(List.dropLast_concat_getLast _).symm]
  obtain⟨b,w1,t,ht,et,c,q,w2⟩:=w.cut;subst w2;obtain⟨d1,_,d2⟩:=List.nodup_append.mp d;have ih:=Rw.full h hl n ms b #[1] w1 d1;obtain⟨k,hk,ek⟩:=List.mem_iff_getElem.mp ih;have:=(h.cl k (b,ms) #[1] #[]).2 t ht (λz=>d2 _ z _ #[0] et) c q
  rwa [et]at this
theorem Rw.len(h:Rw os one Bp i js R)(nd:(os.map iF.nm).Nodup)(ne:∀t∈os,t.one≠t.Bp)(ac:Mm os)(oo:∀t∈os,BC ps t=true)(ho:one∈ps):R.length<=ps.length:=by
 have fn:(R.map (·.1)).Nodup:=by
  rw[ab8,ace];intro a b ha hb W9 e;rw[aac]at ha hb;rw[ae6,ae6]at e;obtain⟨w1,d1⟩:=h.wk R[a] (abQ _);obtain⟨w2,d2⟩:=h.wk R[b] (abQ _);rw[<- e]at w2;have q:=m6 nd ne ac w1 w2 d1 d2;have:(R.map (·.2))[a]'#[1]=(R.map (·.2))[b]'#[1]:=by simp_all
  have:=(abD h.nd).mp this;omega
 have:=aB fn λv hv=>by obtain⟨r,hr,rfl⟩:=List.mem_map.mp hv;exact BF.Dt (jM (Dv oo) (h.wk r hr).1) ho λp _ q hq=>iz q hq
 rwa [aac]at this
noncomputable def FE(r:Str×Aaa):PV:=.tup [.str r.1,.tup (r.2.map .str)]
def zQ(x a b:Str):CK (.str x) (.tup [.str a,.str b])=some (.bl (decide (x=a\/x=b))):=by
 have:=aO (ys:=[a,b]) (x:=x);have e:decide (x∈[a,b])=decide (x=a\/x=b):=by simp
 rw[<- e];exact this
theorem xm(xs:Aad)(P:Aap)(h:lP xs P):Q.run 11 kG xs P:=by
 obtain⟨ps,os,one,Bp,rfl,nd,ol,oo,ac,hp,h1,⟨Yh,w0,d0⟩,h⟩:=h;have ne:∀t∈os,t.one≠t.Bp:=λt ht=>(oo t ht).1;have op:∀t∈os,BC ps t=true:=λt ht=>(oo t ht).2;unfold kG;refine ai λN hN=>?_;show N _;subst hN;refine ai λN hN=>?_;show N _;subst hN;refine ai λN hN=>dM λC B hC hB=>?_;refine dR (λk e=>∃(R:Jn) (i:Nat) (v5 v6 v7 v8 v9 v10:Aat),e=[some #[0,.lst (os.map iD)],some #[0,.str one],some #[0,.str Bp],some #[1,.lst (R.map FE)],some #[0,.int (i:Int)],v5,v6,v7,v8,v9,v10]/\Rw os one Bp i [] R/\k=ps.length+1 - i) (k:=ps.length+1) ?_ #[[(one,[])],0,none,none,none,none,none,none,rfl,Rw.new,rfl];rintro k e M ⟨R,i,v5,v6,v7,v8,v9,v10,rfl,QB,rfl⟩ km;subst hC;have rl:=QB.len nd ne ac op h1;lia;rw[aac];by_cases hi:(i:Int)<R.length;case neg=>exfalso;have hm:=QB.full #[] _ Yh Bp rfl w0 d0;obtain⟨k,hk,ek⟩:=List.mem_iff_getElem.mp hm;exact(QB.cl k _ (by rw[aab hk,ek]) #[]).1 rfl
 rw[decide_eq_true hi,if_pos rfl];have FQ:i<R.length:=by omega
 obtain⟨r,hr⟩:∃r,R[i]?=some r:=#[_,aab FQ]
 obtain⟨Wj,rd⟩:=QB.wk r (aaB hr);subst hB;refine ai λM' KC=>?_;simp only[Jq,Gy];lia;refine ae (z:=FE r) (am (by rw[aal,hr];rfl)) ?_;refine#[rfl,?_];subst KC;refine ai λM' KC=>?_;lia;refine ae (eq_str _ _) ?_;lia;by_cases hq:r.1=Bp
 .rw[if_pos (beq_iff_eq.mpr hq)];exact h r.2 (hq ▸ Wj) rd
 rw[if_neg (by simpa using hq)];subst KC;refine ai λM' KC=>ba λG B hG hB=>?_;lia;refine aH (λj e=>∃(R':Jn) (v7 v8 v9 v10:Aat),e=[some #[0,.lst (os.map iD)],some #[0,.str one],some #[0,.str Bp],some #[1,.lst (R'.map FE)],some #[0,.int (i:Int)],some #[0,.str r.1],some #[0,.tup (r.2.map .str)],v7,v8,v9,v10]/\Rw os one Bp i (os.take j) R'/\R'[i]?=some r) (i:=0) #[R,v7,v8,v9,v10,rfl,QB,hr] ?_ ?_;case refine_2=>rintro e ⟨R',w7,w8,w9,TF,rfl,Mt,Kx⟩;rw[aac,aaP,abi]at Mt;show M' _;subst KC;lia;refine ae aR ?_;exact km (ps.length+1 - (i+1)) _ #[] #[R',i+1,_,_,_,_,_,_,rfl,Mt.next Kx hq,rfl]
 rintro j x e M2 hj ⟨R',w7,w8,w9,TF,rfl,Mt,Kx⟩ k;rw[aaP]at k Mt;have Tc:j<os.length:=by have:=(List.getElem?_eq_some_iff.mp hj).1;simpa using this
 obtain⟨t,et⟩:∃t,os[j]?=some t:=#[_,aab Tc]
 have ex:x=iD t:=by simp_all
 have tm:t∈os:=aaB et;have Oz:os.take (j+1)=os.take j++[t]:=by rw[abI,et];rfl
 have rl':=Mt.len nd ne ac op h1;have nj:t.nm∉(os.take j).map iF.nm:=λz=>by
  rw[List.map_take]at z;obtain⟨a,ha,e⟩:=List.mem_take_iff_getElem.mp z;have g:(os.map iF.nm)[j]'(by rw[aac];exact Tc)=t.nm:=by simp_all
  have:=(abD nd).mp (e.trans g.symm);omega
 subst ex hG hB;rw[Oz]at k;generalize os.map iD=ov at k ⊢;unfold iD;lia;refine ae (n6 _ _) ?_;lia;by_cases c1:t.nm∈r.2
 .rw[decide_eq_true c1];lia;exact k _ #[R',_,_,_,_,rfl,Mt.skip Kx (.inl c1),Kx]
 rw[decide_eq_false c1];lia;refine ae (zQ _ _ _) ?_;lia;by_cases c2:r.1=t.one\/r.1=t.Bp;case neg=>
  rw[decide_eq_false c2];lia;refine k _ #[R',_,_,_,_,rfl,Mt.skip Kx (.inr λc hc=>c2 ?_),Kx];rcases hc with ⟨a,_⟩|⟨a,_⟩
  .exact .inl a.symm
  .exact .inr a.symm
 rw[decide_eq_true c2];lia;simp only[OF];lia;refine ae (eq_str _ _) ?_;lia;have ln:(R'.map FE).length<=100000:=by rw[aac];omega
 have al:(r.2.map PV.str).length+[PV.str t.nm].length<=100000:=by have:=rU Wj rd;rw[aac];simp;omega
 have push:∀c:Str,Ends t r.1 c->M2 [some #[0,.lst ov],some #[0,.str one],some #[0,.str Bp],some #[1,.lst (R'.map FE++[.tup [.str c,.tup (r.2.map .str++[.str t.nm])]])],some #[0,.int (i:Int)],some #[0,.str r.1],some #[0,.tup (r.2.map .str)],some #[0,.str t.nm],some #[0,.str t.one],some #[0,.str t.Bp],some #[0,.int t.cost]]:=λc hc=>by
  refine k _ #[R'++[(c,r.2++[t.nm])],some #[0,.str t.nm],some #[0,.str t.one],some #[0,.str t.Bp],some #[0,.int t.cost],?_,Mt.add Kx tm (ne t tm) c1 hc nj,?_]
  .have e2:FE (c,r.2++[t.nm])=.tup [.str c,.tup (r.2.map .str++[.str t.nm])]:=by unfold FE;rw[aaM];rfl
   rw[aaM,<- e2];rfl
  .rw[aat (List.getElem?_eq_some_iff.mp Kx).1];exact Kx
 by_cases c3:r.1=t.one
 .rw[if_pos (beq_iff_eq.mpr c3)];try lia
  refine ae (iA al) ?_;try lia
  refine ae (Fj ln) ?_;exact push _ (.inl #[c3.symm,rfl])
 .rw[if_neg (by simpa using c3)];try lia
  refine ae (iA al) ?_;try lia
  refine ae (Fj ln) ?_;exact push _ (.inr #[(c2.resolve_left c3).symm,rfl])
end
def AB(a b:iF):Cc 60 (iD a) (iD b)=some (decide (a=b)):=by show some _=_;congr 1;rw[aa0];cases a;cases b;simp
def xW(us:Aaf):JS (iD t) (.lst (us.map iD))=some (decide (t∈us)):=by
 have e:(us.map iD).mapM (λy=>Cc 60 y (iD t))=some (us.map λy=>decide (y=t)):=by
  induction us with
  |nil=>rfl
  |cons u us ih=>rw[aau,abB,ih,AB];rfl
 show ((us.map iD).mapM (λy=>Cc 60 y _)).map _=_;rw[e];show some ((us.map _).any id)=_;congr 1;rw[aa0];simp
def vj(us:Aaf):CL (iD t) (.lst (us.map iD))=some (.bl (!decide (t∈us))):=by show (JS _ _).map _=_;rw[xW];rfl
def tz(nd:(ts.map iF.nm).Nodup){a b:iF}(ha:a∈ts)(hb:b∈ts):neT (iD a) (iD b)=some (.bl (decide (a.nm≠b.nm))):=by
 show some _=_;by_cases e:a.nm=b.nm
 .have:=aG nd ha hb e;subst this;simp
 .simp[e]
def mo:∀ns:Aas,(ns.map PV.int).mapM E9=some ns
 |[]=>rfl
 |n::ns=>by rw[aau,abB,mo ns];rfl
def uI(ns:Aas):IZ [.lst (ns.map .int)]=some (.int ns.sum):=by show ((ns.map PV.int).mapM E9).map _=_;rw[mo];rfl
theorem o9(xs:Aad)(P:Aap)(h:cv xs P):Q.run 3 iV xs P:=by
 obtain⟨ps,ts,us,rfl,hl,hul,nd,Gf,h⟩:=h;refine ai λN hN=>?_;lia;refine#[ps,ts,rfl,hl,nd,?_];lia;subst hN;lia;have fc:∀u∈us,ts.find? _=some u:=λu hu=>by
  cases e:ts.find? (λt=>decide (t.nm=u.nm))with
  |none=>rw[List.find?_eq_none]at e;exact absurd (decide_eq_true rfl) (e u (Gf u hu))
  |some t=>
   have h1:=adH e;have h2:=afw e;have h2:t.nm=u.nm:=by simp_all
   rw[aG nd h1 (Gf u hu) h2]
 refine bo (λx=>match x with|.str n=>.int ((ts.find? λt=>decide (t.nm=n)).getD t0).cost|_=>.Bw) (λx hx R hR=>?_) #[3] ?_
 .obtain⟨n,hn,rfl⟩:=List.mem_map.mp hx;obtain⟨u,hu,rfl⟩:=List.mem_map.mp hn;dsimp only at hR;rw[fc u hu]at hR;refine ae (aY nd (Gf u hu)) ?_;refine ae (am rfl) ?_;exact hR
 .rw[aaL,aaL];have e:us.map (((λx=>match x with|PV.str n=>PV.int ((ts.find? λt=>decide (t.nm=n)).getD t0).cost|_=>.Bw) ∘ PV.str) ∘ iF.nm)=(us.map iF.cost).map PV.int:=by simp_all
  rw[e];exact ae (uI _) h
def xI(a b:Aaa):neT (.tup (a.map .str)) (.tup (b.map .str))=some (.bl (!decide (a=b))):=by show (Cc 60 _ _).map _=_;rw[yn];rfl
section
variable{one Bp:Str}
theorem u9(xs:Aad)(P:Aap)(h:gf xs P):Q.LH 1 jg xs P:=by
 obtain⟨ps,ts,rfl,hl,h⟩:=h;have e0:lE (Bt ps ts) (.int 0)=some _:=am rfl;have e1:lE (Bt ps ts) (.int 1)=some _:=am rfl;simp only[LH,Hv];lia;refine ae e1 ?_;lia;refine aX (λx=>match x with|.tup [.str a,.str b,.str c,.int d]=>if BC ps #[a,b,c,d]=true then some (.tup [.str a,.str b,.str c,.int d])else none|_=>none) (λx hx R hR=>?_) #[3] ?_
 .obtain⟨t,ht,rfl⟩:=List.mem_map.mp hx;refine ae (am rfl) (ae e0 (ae aO ?_));replace hR:R (if BC ps t=true then some _ else none) _:=hR;unfold BC at hR;show opt _ _;rw[bv];cases e:decide (t.one∈ps)with
  |false=>rw[e]at hR;exact hR
  |true=>
   rw[e]at hR;refine ae (am rfl) (ae e0 (ae aO ?_));show opt _ _;rw[bv];cases e2:decide (t.Bp∈ps)with
   |false=>rw[e2]at hR;exact hR
   |true=>rw[e2]at hR;exact hR
 .rw[abx];have e:ts.filterMap ((λx=>match x with|PV.tup [.str a,.str b,.str c,.int d]=>if BC ps #[a,b,c,d]=true then some (.tup [.str a,.str b,.str c,.int d])else none|_=>none) ∘ iD)=(ts.filter _).map iD:=aC _ iD ts;rw[e];exact h
end
theorem mO(xs:Aad)(P:Aap)(h:bO xs P):Q.run 3 gq xs P:=by
 obtain⟨ps,ts,T,rfl,k,h⟩:=h;have o:=k.nk;have ml:=k.len;have tl:=o.tl;refine ai λN hN=>?_;lia;refine#[_,rfl,k.rise,λx hx=>?_,by rw[aac];omega,?_]
 .obtain⟨t,ht,e⟩:=List.mem_map.mp hx;rw[<- e];exact(o.ok.tie t (k.sp.sub t ht).1).nm
 refine ae rfl ?_;show N _;subst hN;refine ai λN hN=>?_;lia;refine#[ps,ts,rfl,#[],?_];lia;subst hN;refine ai λN hN=>?_;lia;refine bo (λ_=>.bl true) (λx hx R hR=>?_) #[3] ?_
 .obtain⟨n,hn,rfl⟩:=List.mem_map.mp hx;obtain⟨t,ht,e⟩:=List.mem_map.mp hn;obtain⟨t1,t2⟩:=k.sp.sub t ht;have m:n∈ft ps ts:=by rw[<- e];exact aaV (List.mem_filter.mpr #[t1,t2])
  refine ae aO ?_;rw[decide_eq_true m];exact hR
 rw[aa3,fZ];lia;subst hN;lia;refine#[ps,_,ts,.inl rfl,#[],by rw[aac];omega,?_];rw[k.only];refine#[ps,T,rfl,#[o.ok.rise,k.ne,o.pl,#[]],?_];lia;refine ae (Ju ps ts) ?_;lia;refine ae (z:=.int ((ps.length:Int) - ((T.map iF.nm).length:Int))) (by simp[Ea,iI]) (ae (eq_int _ _) ?_);have c:=k.sp.count (bh o.ok.rise);have e:((GH ps _).map λq=>PV.tup (q.map .str)).length=(GH ps (BW ps T)).length:=aac _;have e2:(((GH ps (BW ps T)).map λq=>PV.tup (q.map .str)).length==ps.length - ((T.map iF.nm).length:Int))=true:=by rw[beq_iff_eq,e,aac];omega
 rw[e2];exact h
theorem o7(xs:Aad)(P:Aap)(h:eU xs P):Q.run 2 iT xs P:=by
 obtain⟨ps,ts,T,rfl,k,h⟩:=h;have o:=k.nk;have ml:=k.len;have tl:=o.tl;lia;refine#[ps,ts,T,rfl,k,?_];lia;refine#[ps,_,ts,.inl rfl,#[],by rw[aac];omega,?_];rw[k.only];refine#[ps,T,rfl,#[o.ok.rise,k.ne,o.pl,#[]],?_];refine#[ps,ts,rfl,o.nt,?_];rw[k.sp.GH];refine ae ?_ h;have pl:=o.pl;have tr:Tr 3 (.tup ((GH ps (BW ps ts)).map λq=>PV.tup (q.map .str))):=.inr (.inr (.inr #[_,rfl,by
  unfold GH;rw[aac,aac];have:=aaA (root ps (BW ps ts)) ps
  omega,λy hy=>by
  obtain⟨q,hq,rfl⟩:=List.mem_map.mp hy;refine wM ?_;obtain⟨s,_,rfl⟩:=List.mem_map.mp hq;have:=aaA (rb (BW ps ts) s) ps
  omega]))
 show (Cc 60 _ _).map _=_;rw[RY #[2] tr];rfl
noncomputable def MD(ps ns:Aaa):PV->Option PV
 |.tup [.str a,.str b,.str c,.int d]=>if (BC ps #[a,b,c,d] && !B6 ns #[a,b,c,d])=true then some (.tup [.str a,.str b,.str c,.int d])else none
 |_=>none
theorem o4(xs:Aad)(P:Aap)(h:eO xs P):Q.run 3 iQ xs P:=by
 obtain⟨ps,ts,T,rfl,k,h⟩:=h;have o:=k.nk;have tl:=o.tl;have nd:=k.nd;have ol:(Ek ps ts T).length<=60:=aaX jw tl;refine ai λN hN=>?_;lia;refine ae (Kn ps ts) ?_;lia;refine aX (MD ps (T.map iF.nm)) (λx hx R hR=>?_) #[3] ?_
 .obtain⟨t,Lm,rfl⟩:=List.mem_map.mp hx;replace hR:R (if (BC ps t && !B6 _ t)=true then some _ else none) _:=hR;refine#[ps,ts,t,rfl,?_];show opt (some _) _;rw[bv];cases e:BC ps t with
  |false=>rw[e]at hR;exact hR
  |true=>
   rw[e]at hR;refine ae (am rfl) (ae (n6 _ _) ?_);show opt (some (!B6 _ t)) _;rw[bv];cases e2:B6 _ t with
   |false=>rw[e2]at hR;exact hR
   |true=>rw[e2]at hR;exact hR
 rw[abx];have e:ts.filterMap (MD ps (T.map iF.nm) ∘ iD)=(ts.filter _).map iD:=aC _ iD ts;have e2:(ts.filter λt=>BC ps t && !B6 (T.map iF.nm) t)=Ek ps ts T:=by unfold Ek;rw[acb];exact ab1 λt _=>Bool.and_comm _ _
 rw[e,e2];subst hN;lia;refine cE iD (JX T) (λt Lm R hR=>?_) #[3] ?_
 .obtain⟨t1,t2,_⟩:=Dg.mp Lm;have ot:=BR.mp t2;refine ae (am rfl) (ae (am rfl) (ae (am rfl) ?_));refine#[ps,ts,_,t.one,t.Bp,rfl,o.nt,nd,by have:=k.len;rw[aac];omega,ot.1,ot.2,λnr=>?_,λns w d hl=>?_]
  .rw[k.only]at nr;exact absurd (Jr (k.sp.JJ t1 t2)) nr
  .rw[k.some]at w;have e:=k.Ei w d;subst e;exact hR
 .exact ae rfl h
def cR(k:Tk ps ts T)(ht:t∈Ek ps ts T):Wk T t.one (Ei T t.one t.Bp) t.Bp/\(∀x∈Ei T t.one t.Bp,Cp x)/\(Ei T t.one t.Bp).length<=60:=by obtain⟨h1,h2,_⟩:=Dg.mp ht;obtain⟨w,d⟩:=lQ (k.way h1 h2);refine#[w,λx hx=>?_,aaX (rU w d) k.len];obtain⟨v,hv,rfl⟩:=w.mem x hx;exact(k.nk.ok.tie v (k.sp.sub v hv).1).nm
theorem oA{f:WE}{K:Aad->En->Prop}{b:En}(hb:b.set k none=b)(I:Str->Prop):∀{ys:Aaa} {bs:List Bool},(∀y∈ys,∀R:PV->En->Prop,(∀z:Bool,(z=true->I y)->R (.bl z) (b.set k (some #[0,.str y])))->f (b.set k (some #[0,.str y])) R)->bs.length+ys.length<=100000 ->
  (∀cs:List Bool,cs.length=bs.length+ys.length->(cs.all id=true->bs.all id=true/\∀y∈ys,I y)->K (cs.map .bl) b)->LO k f K (ys.map PV.str) b (bs.map .bl)
 |[],bs,_,_,h=>h bs rfl λa=>#[a,#[0]]
 |y::ys,bs,hf,hl,h=>by
  rw[aaG]at hl;refine hf y aan _ λz hz=>#[by rw[aac];omega,?_]
  rw[List.set_set,hb];have e:bs.map PV.bl++[PV.bl z]=(bs++[z]).map PV.bl:=by simp_all
  rw[e];refine oA hb I (λz hz=>hf z (aam _ hz)) (by rw[aav,aca];omega) λcs hc ha=>h cs ?_ λq=>?_
  .rw[hc,aav,aca,aaG];omega
  .obtain⟨q1,q2⟩:=ha q;rw[List.all_append,aaS]at q1;refine#[q1.1,λw hw=>?_];rcases List.mem_cons.mp hw with rfl|hw
   .exact hz #[1]
   .exact q2 w hw
theorem iG(xs:Aad)(P:Aap)(h:bH xs P):Q.run 4 cO xs P:=by
 obtain⟨ps,ts,T,rfl,k,ne,h⟩:=h;have o:=k.nk;have nd:=k.nd;have tl:=o.tl;have ol:(Ek ps ts T).length<=ts.length:=jw;refine ai λN hN=>?_;lia;refine#[ps,ts,T,rfl,k,ae rfl ?_];show N _;subst hN;refine ai λN hN=>?_;lia;refine#[ps,ts,T,rfl,k,?_];subst hN;refine ai λN hN=>?_;lia;refine cE (JX T) _ (λt ht R hR=>ae (am (j:=0) rfl) hR) #[3] ?_;rw[aa3];refine#[(Ek ps ts T).map λt=>(t.nm,Ei T t.one t.Bp),.inr ?_,by rw[aac];omega,λr hr=>?_,ae rfl ?_]
 .rw[aaL,aaL,aaL];rfl
 .obtain⟨t,ht,rfl⟩:=List.mem_map.mp hr;obtain⟨_,a,b⟩:=cR k ht;exact#[(o.ok.tie t (Dg.mp ht).1).nm,a,by show (Ei _ _ _).length<=1000;omega]
 lia;have tr:Tr 4 (Fw ps ts T):=.inr (.inr (.inr #[_,rfl,by rw[aac];omega,λy hy=>by obtain⟨t,ht,rfl⟩:=List.mem_map.mp hy;have:=(cR k ht).2.2;exact AX #[]]))
 refine ae (z:=.bl false) ?_ (ae rfl ?_)
 .show (Cc 60 (Fw ps ts T) (Fw ps ts T)).map _=_;rw[RY #[2] tr];rfl
 subst hN;lia;have fin:∀bs:List Bool,(bs.all id=true->∀t∈Ek ps ts T,∀n∈Ei T t.one t.Bp,∃v∈T,v.nm=n/\D2 v t)->opt (CG [.lst (bs.map .bl)]) λz=>P z:=λbs hb=>by
  refine ae (ia _) ?_;cases e:bs.all id with
  |false=>exact h
  |true=>
   refine absurd ?_ ne;have q:=k.sp.TB nd λt h1 h2 h3=>by
    have ht  := Dg.mpr #[h1,h2,λz=>by obtain⟨v,hv,e⟩:=List.mem_map.mp z;exact h3 (aG nd (k.sp.sub v hv).1 h1 e ▸ hv)]
    refine#[_,(cR k ht).1,λu hu hn=>?_];obtain⟨v,hv,e2,c⟩:=hb e t ht u.nm hn;exact aG k.sp.nd hv hu e2 ▸ c
   exact nA (List.nodup_iff_pairwise_ne.mpr ((List.pairwise_map.mp (List.nodup_iff_pairwise_ne.mp nd)).imp λh e=>h (congrArg iF.nm e))) k.sb (e9 o).sb q
 have go:∀(l:Aaf) (bs:List Bool),(∀t∈l,t∈Ek ps ts T)->bs.length+60*l.length<=100000->(bs.all id=true->∀t∈Ek ps ts T,t∉l->∀n∈Ei T t.one t.Bp,∃v∈T,v.nm=n/\D2 v t)->Hz (Hs (.tp [0,1])) (iS (eV 1)) 2 (Br cw (aS (eV 3) (aS (eV 2) (aS (eV 0) bY)))) [none,none,none,some 0] (λx e1=>opt (CG [x]) λz=>P z) (l.map (JX T)) [some #[0,Bt ps ts],some #[0,Eb T],some #[0,Fw ps ts T],some #[0,Fw ps ts T]] (bs.map .bl):=λl=>by
  induction l with
  |nil=>exact λbs _ _ hb=>fin bs λq t ht=>hb q t ht #[0]
  |cons t l ih=>
   intro bs hm hl hb;rw[aaG]at hl;have ht:=hm t aan;obtain⟨w,_,wl⟩:=cR k ht;rw[aau];refine#[rfl,?_];refine oA rfl (λn=>∃v∈T,v.nm=n/\D2 v t) (λm hn R hR=>?_) #[] λcs hc ha=>?_
   .obtain⟨v,hv,rfl⟩:=w.mem m hn;refine#[ps,ts,v,t,rfl,#[],nd,(k.sp.sub v hv).1,(Dg.mp ht).1,?_];exact hR _ λq=>#[v,hv,rfl,of_decide_eq_true q]
   .refine ih cs (λu hu=>hm u (aam _ hu)) #[] λq u hu nu=>?_;obtain⟨q1,q2⟩:=ha q;by_cases e:u=t
    .subst e;exact q2
    .exact hb q1 u hu λz=>(List.mem_cons.mp z).elim e nu
 exact go _ [] (λ_ h=>h) #[3] λ_ t ht nt=>absurd ht nt
theorem qW(T:Addr×Addr)(c:PV)(xs:Aad)(P:Aaq)(h:gc T c xs P):Q.EO 3 (jP T) c xs P:=by
 obtain⟨rfl,ps,ts,t,side,rfl,o,ht,ot,k,h⟩:=h;have nd:=bQ o.ok;have tl:=o.tl;have sl  := aaX (aB (bh k.rise) k.Dt) o.pl;have fl:(ts.filter (Ez ps side)).length<=ts.length:=aaA _ _;have tm:t∈ts.filter (Ez ps side):=List.mem_filter.mpr #[ht,by unfold Ez;rw[ot,Bool.true_and,abl,decide_eq_false_iff_not,decide_eq_decide];exact k.out]
 simp only[EO,JT];refine ai λN hN=>?_;refine#[side,rfl,k.rise,#[],ae rfl ?_];try lia
 refine bo (λ_=>.bl true) (λx hx R hR=>?_) #[3] ?_
 .obtain⟨w,hm,rfl⟩:=List.mem_map.mp hx;refine ae (Ju ps ts) (ae aO ?_);rw[decide_eq_true (k.Dt w hm)];exact hR
 rw[aa3,fZ];subst hN;try lia
 refine#[ps,side,ts,rfl,#[],?_];refine#[rfl,ps,ts,_,rfl,#[],nd,#[],nd.sublist (List.filter_sublist.map _),λu hu=>(List.mem_filter.mp hu).1,λe=>?_,λu lo=>?_]
 .rw[e]at tm;cases tm
 .refine ae (eq_str _ _) (h _ λq=>?_);have q  :=by simpa using q
  exact aG nd (List.mem_filter.mp lo.1).1 ht q ▸ lo
theorem iH(T:Addr×Addr)(c:PV)(xs:Aad)(P:Aaq)(h:bI T c xs P):Q.EO 3 (cP T) c xs P:=by
 obtain⟨rfl,ps,ts,X,S,rfl,x,ne,k,h⟩:=h;have o:=x.nk;have nd:=x.nd;have xl:=x.len;have sl  := λt ht=>aaX (aB (bh (k t ht).rise) (k t ht).Dt) o.pl;simp only[EO,JT];refine ai λN hN=>?_;refine#[ps,ts,X,rfl,x,ae rfl ?_];refine#[X.map λt=>(t.nm,S t),.inl ?_,by rw[aac];omega,λr hr=>?_,ae rfl ?_]
 .rw[aaL,aaL,aaL];unfold Eb;rw[aaL];rfl
 .obtain⟨t,ht,rfl⟩:=List.mem_map.mp hr;exact#[(o.ok.tie t (x.sp.sub t ht).1).nm,λy hy=>o.ok.word y ((k t ht).Dt y hy),by have:=sl t ht;show (S t).length<=1000;omega]
 subst hN;refine og (λi acc=>∃bs:List Bool,acc=bs.map .bl/\(bs.all id=true->∀t∈X.take i,∃side,Pk (ts.filter (Ez ps side)) t)) (i:=0) #[[],rfl,#[0]] #[0] #[3] ?_ ?_
 .rintro j y acc R hj ⟨bs,rfl,hb⟩ kk;rw[aaP]at hb kk;rw[aal]at hj;cases et:X[j]? with
  |none=>rw[et]at hj;cases hj
  |some t=>
   rw[et]at hj;cases hj;have ht:=aaB et;obtain⟨t1,t2⟩:=x.sp.sub t ht;refine#[rfl,?_];refine#[rfl,ps,ts,t,S t,rfl,o,t1,t2,k t ht,λb lo=>?_];refine kk _ #[bs++[b],#[1],λq u hu=>?_];rw[List.all_append,aaS]at q;rw[abI,et]at hu;rcases List.mem_append.mp hu with z|z
   .exact hb q.1 u z
   .have:u=t:=by simp_all
    subst this;exact#[_,lo #[1]]
 .rintro acc ⟨bs,rfl,hb⟩ _;refine ae (ia _) ?_;cases e:bs.all id with
  |false=>exact h
  |true=>refine absurd ?_ ne;have q:=x.sp.VB nd λt ht=>hb e t #[1];exact nA (List.nodup_iff_pairwise_ne.mpr ((List.pairwise_map.mp (List.nodup_iff_pairwise_ne.mp nd)).imp λh e=>h (congrArg iF.nm e))) x.sb (e9 o).sb q
def nI:∀{a b:Aaf},a.Perm b->(a.map iF.nm).Pairwise B0->(b.map iF.nm).Pairwise B0->a=b
 |[],b,p,_,_=>(List.nil_perm.mp p).symm
 |x::a,[],p,_,_=>by have:=p.length_eq;simp at this
 |x::a,y::b,p,ha,hb=>by
  have e:x=y:=aaZ λne=>by
   rw[aau,adE]at ha hb;have h1:x∈b:=by
    rcases List.mem_cons.mp (p.mem_iff.mp aan)with z|z
    .exact absurd z ne
    .exact z
   have h2:y∈a:=by
    rcases List.mem_cons.mp (p.mem_iff.mpr aan)with z|z
    .exact absurd z.symm ne
    .exact z
   exact bw _ (dz (ha.1 y.nm (aaV h2)) (hb.1 x.nm (aaV h1)))
  subst e;rw[aau,adE]at ha hb;rw[nI (List.perm_cons _ |>.mp p) ha.2 hb.2]
def yo(X:Aaf):B4 (.lst (X.map iD)) (.lst [])=some (.bl X.isEmpty):=by cases X<;>rfl
noncomputable def Ko(n:Str):PV->Option PV
 |.tup [.str a,.str b,.str c,.int d]=>if decide (a≠n)=true then some (.tup [.str a,.str b,.str c,.int d])else none
 |_=>none
def me(n:Str)(X:Aaf)(d:iF)(h:d.nm=n):(X.map iD).filterMap (Ko n)=(less X d).map iD:=by subst h;rw[abx];exact aC _ iD X
noncomputable def KW(side:Aaa):PV->Option PV
 |.tup [.str a,.str b,.str c,.int d]=>if (!decide (decide (b∈side)=decide (c∈side)))=true then some (.tup [.str a,.str b,.str c,.int d])else none
 |_=>none
def rK(side:Aaa)(X:Aaf):(X.map iD).filterMap (KW side)=(X.filter λu=>!decide (decide (u.one∈side)=decide (u.Bp∈side))).map iD:=by rw[abx];exact aC _ iD X
def Tk.swap(k:Tk ps ts X){Y:Aaf}(hd:d∈X)(hu:u∈ts)(o:BC ps u=true)(c:¬ (u.one∈aV ps (less X d) d.one↔u.Bp∈aV ps (less X d) d.one))(p:Y.Perm (less X d++[u]))(up:(Y.map iF.nm).Pairwise B0):Tk ps ts Y:=by
 have s:=k.sp.swap k.nd hd hu o c p;refine#[k.nk,?_,s];have nd:=k.nd;have e:(ts.filter (B6 (Y.map iF.nm)))=Y:=by
  refine nI ?_ (k.nk.ok.names.sublist (List.filter_sublist.map _)) up;refine(afz ?_ ?_).mpr λv=>?_
  .exact(List.nodup_iff_pairwise_ne.mpr ((List.pairwise_map.mp (List.nodup_iff_pairwise_ne.mp nd)).imp λh e=>h (congrArg iF.nm e))).sublist aa8
  .exact List.nodup_iff_pairwise_ne.mpr ((List.pairwise_map.mp (List.nodup_iff_pairwise_ne.mp s.nd)).imp λh e=>h (congrArg iF.nm e))
  .rw[abr,ce];constructor
   .rintro⟨h1,h2⟩;obtain⟨w,hw,e⟩:=List.mem_map.mp h2;exact aG nd (s.sub w hw).1 h1 e ▸ hw
   .exact λh=>#[(s.sub v h).1,aaV h]
 rw[<- e];exact aa8
theorem mQ(c:PV)(xs:Aad)(P:Aaq)(h:cN c xs P):Q.Im 7 gu c xs P:=by
 obtain⟨F,ps,ts,X,rfl,hF,rfl,k,h⟩:=h;have o:=k.nk;have xl:=k.len;have tl:=o.tl;have nd:=k.nd;refine ai λN hN=>bf λA1 B1 HF GP=>?_;lia;refine ae (yo X) (ae rfl ?_);cases ex:X.isEmpty with
 |true=>subst HF;exact h F X #[] k
 |false=>
 have x0:X.length≠0:=λz=>by simp_all
 subst GP;show N _;subst hN;refine ai λN hN=>?_;lia;refine dr #[] (by rw[aac];omega) (by rw[aac];omega) λf1 r1 h1 LU=>?_;rw[aac]at LU;have hr:r1<X.length:=by omega
 obtain⟨d,ed⟩:∃d,X[r1]?=some d:=#[_,aab hr]
 have hd:=aaB ed;obtain⟨d1,d2⟩:=k.sp.sub d hd;have ll:(less X d).length<=X.length:=aaA _ _;try lia
 refine ae (z:=iD d) (am #[1]) ?_;subst hN;refine ai λN hN=>?_;lia;refine aX (Ko d.nm) (λx hx R hR=>?_) #[3] ?_
 .obtain⟨u,hu,rfl⟩:=List.mem_map.mp hx;refine ae (tz nd (k.sp.sub u hu).1 d1) (ae rfl ?_);replace hR:R (if decide (u.nm≠d.nm)=true then some (iD u)else none) _:=hR;cases e:decide (u.nm≠d.nm)with
  |false=>rw[e]at hR;exact hR
  |true=>rw[e]at hR;exact hR
 rw[aa3,me _ X d rfl];subst hN;refine ai λN hN=>?_;lia;refine ae (am (j:=1) rfl) ?_;refine#[ps,less X d,d.one,rfl,o.ok.rise,o.pl,#[],(BR.mp d2).1,λu hu=>k.sp.BC u (oF.mp hu).1,?_];show N [some _,some _,some _,some #[0,iD d],some _,some #[0,.lst ((aV ps (less X d) d.one).map .str)],none];have dc:¬ (d.one∈aV ps (less X d) d.one↔d.Bp∈aV ps (less X d) d.one):=λi=>k.sp.br d hd (Cq.mp (i.mp (Cq.mpr #[(BR.mp d2).1,.refl]))).2;generalize hS:aV ps (less X d) d.one=S at dc ⊢;subst hN;refine ai λN hN=>?_;lia;refine#[ps,ts,rfl,#[],?_];have fl:(ts.filter (BC ps)).length<=ts.length:=aaA _ _;try lia
 refine aX (KW S) (λx hx R hR=>?_) #[3] ?_
 .obtain⟨u,hu,rfl⟩:=List.mem_map.mp hx;refine ae (am (j:=1) rfl) (ae jG (ae (am (j:=2) rfl) (ae jG (ae (qZ _ _) (ae rfl ?_)))));replace hR:R (if (!decide _)=true then some (iD u)else none) _:=hR;cases e:!decide (decide (u.one∈S)=decide (u.Bp∈S))with
  |false=>rw[e]at hR;exact hR
  |true=>rw[e]at hR;exact hR
 rw[aa3,rK];generalize hC:(ts.filter (BC ps)).filter _=C;have cm:∀u,u∈C↔u∈ts/\BC ps u=true/\¬ (u.one∈S↔u.Bp∈S):=λu=>by rw[<- hC,abr,abr,abl,decide_eq_false_iff_not,decide_eq_decide];exact and_assoc
 have cl:C.length<=ts.length:=by rw[<- hC];exact aaX (aaA _ _) fl
 have c0:0<C.length:=acx ((cm d).mpr #[d1,d2,dc]);subst hN;simp only[BB,IL];lia;refine dr #[] #[1] (by rw[aac];omega) λf2 r2 h2 S6=>?_;rw[aac]at S6;obtain⟨u,eu⟩:∃u,C[r2]?=some u:=#[_,aab #[]]
 obtain⟨u1,u2,u3⟩:=(cm u).mp (aaB eu);refine ae (z:=iD u) (am #[1]) ?_;refine ae (lM (by rw[aac];simp;omega)) ?_;rw[<- hS]at u3;have ep:(less X d).map iD++[iD u]=(less X d++[u]).map iD:=by rw[aaM];rfl
 rw[ep];have knd:=(k.sp.swap nd hd u1 u2 u3 (.refl _)).nd;generalize hK:less X d++[u]=Z at knd;have zl:Z.length<=61:=by rw[<- hK,aav,aca];omega
 refine#[_,sh Z,knd,by rw[aac];omega,λix il SX iw=>?_];rw[aac]at il SX;rw[nS (a:=t0) SX];rw[nS (a:=t0) SX]at iw;have ind:ix.Nodup:=by rw[aaL,adP]at iw;exact List.nodup_iff_pairwise_ne.mpr (iw.imp λq e=>by rw[e]at q;exact bw _ q)
 refine h f2 _ #[] (k.swap hd u1 u2 u3 ?_ iw);rw[hK];exact qm il ind SX
def xF:CL (.str x) (.lst (l.map .str))=some (.bl (!decide (x∈l))):=by show (JS _ _).map _=_;rw[ou];rfl
def xD(e:Str)(t:iF):CL (.str e) (iD t)=some (.bl (!((t.nm==e) || ((t.one==e) || ((t.Bp==e) || false))))):=rfl
def Tk.side(k:Tk ps ts X)(ht:t∈X):Sd ps t (aV ps (less X t) t.one) where
 rise:=k.nk.ok.rise.sublist aa8
 Dt:=λx hx=>(List.mem_filter.mp hx).1
 out:=λi=>k.sp.br t ht (Cq.mp (i.mp (Cq.mpr #[(BR.mp (k.sp.BC t ht)).1,.refl]))).2
def Sd.off{side:Aaa}(h:Sd ps t side)(ro:ps.Pairwise B0)(o:BC ps t=true):Sd ps t (NS ps side) where
 rise:=ro.sublist aa8
 Dt:=λx hx=>(List.mem_filter.mp hx).1
 out:=λi=>h.out (by obtain⟨o1,o2⟩:=BR.mp o;unfold NS at i;rw[abr,abr]at i;simp only[o1,o2,true_and,abl,decide_eq_false_iff_not]at i;exact#[λa=>aaZ λb=>i.mpr b a,λa=>aaZ λb=>i.mp b a])
def Sd.more{side gs:Aaa}{e:Str}(h:Sd ps t side)(he:e∈ps)(n1:t.one≠e)(n2:t.Bp≠e)(up:Ga (Gg (side++[e])) gs):Sd ps t gs:=by
 have m:∀x,x∈gs↔x∈side\/x=e:=λx=>by rw[up.1.mem_iff,qr,aa7,ac0]
 refine#[fo up.2 (up.1.nodup_iff.mpr (mB _)),λx hx=>?_,λi=>h.out ?_]
 .rcases(m x).mp hx with z|rfl
  .exact h.Dt x z
  .exact he
 .rw[m,m]at i;simpa[n1,n2]using i
theorem sO(c:PV)(xs:Aad)(P:Aaq)(h:ib c xs P):Q.Im 7 gD c xs P:=by
 obtain⟨F,ps,ts,X,rfl,hF,rfl,k,h⟩:=h;have o:=k.nk;have xl:=k.len;have tl:=o.tl;have pl:=o.pl;have nd:=k.nd;have xn:X.Nodup:=List.nodup_iff_pairwise_ne.mpr ((List.pairwise_map.mp (List.nodup_iff_pairwise_ne.mp k.sp.nd)).imp λh e=>h (congrArg iF.nm e));unfold gD;refine ai λN hN=>?_;show N _;subst hN;refine ai λN hN=>ba λG B hG hB=>?_;lia;refine aH (λj e=>∃(f:Nat) (S:iF->List Str) (v4 v5 v6:Aat),F<=f+3*j/\(∀t∈X.take j,Sd ps t (S t))/\e=[some #[2,.int (f:Int)],some #[0,Bt ps ts],some #[0,.lst (X.map iD)],some #[1,.lst ((X.take j).map λt=>DL t.nm (S t))],v4,v5,v6]) (i:=0) #[F,λ_=>[],none,none,none,#[],#[0],rfl] ?_ ?_;case refine_2=>rintro e ⟨f,S,v4,v5,v6,hf,hS,rfl⟩;show N _;rw[aac,aaP]at *;rw[abi]at hS ⊢;subst hN;lia;exact ae rfl (h f S #[] hS)
 rintro j x e M hx ⟨f,S,v4,v5,v6,hf,hS,rfl⟩ kk;rw[aaP]at kk hf hS ⊢;have hj:j<X.length:=by have:=(List.getElem?_eq_some_iff.mp hx).1;simpa using this
 obtain⟨t,et⟩:∃t,X[j]?=some t:=#[_,aab hj]
 have ex:x=iD t:=by simp_all
 have ht:t∈X:=aaB et;obtain⟨t1,t2⟩:=k.sp.sub t ht;have ll:(less X t).length<=X.length:=aaA _ _;have pp:0<ps.length:=acx (BR.mp t2).1;have tk:X.take (j+1)=X.take j++[t]:=by rw[abI,et];rfl
 have nt:t∉X.take j:=λz=>by have q:(X.take (j+1)).Nodup:=xn.sublist (aeN _ _);rw[tk,abG]at q;exact q.2.2 t z t #[0] rfl
 subst ex hG hB;generalize hA:(X.take j).map (λt=>DL t.nm (S t))=acc;have al:acc.length<=60:=by rw[<- hA,aac,abj];omega
 refine ai λN1 Fm=>?_;have rest:∀side,Sd ps t side->N1 [some #[2,.int (f:Int)],some #[0,Bt ps ts],some #[0,.lst (X.map iD)],some #[1,.lst acc],some #[0,iD t],some #[0,.lst (side.map .str)],v6]:=λside sd=>by
  subst Fm;refine ai λN1 Fm=>?_;have rest:∀(f1:Nat) side,f1+1=f->Sd ps t side->N1 [some #[2,.int (f1:Int)],some #[0,Bt ps ts],some #[0,.lst (X.map iD)],some #[1,.lst acc],some #[0,iD t],some #[0,.lst (side.map .str)],v6]:=λf1 side e1 sd=>by
   subst Fm;refine ai λN1 Fm=>?_;lia;refine ae (Ju ps ts) (ae (Ju ps ts) ?_);lia;refine dr #[] (by rw[aac];omega) (by rw[aac];omega) λf2 r2 h2 S6=>?_;rw[aac]at S6;obtain⟨ex,Xq⟩:∃ex,ps[r2]?=some ex:=#[_,aab #[]]
   have Xm:=aaB Xq;refine ae (z:=.str ex) (am (by rw[aal,Xq];rfl)) ?_;subst Fm;refine ai λN1 Fm=>?_;have rest:∀(f3:Nat) side,f3+1=f2->Sd ps t side->N1 [some #[2,.int (f3:Int)],some #[0,Bt ps ts],some #[0,.lst (X.map iD)],some #[1,.lst acc],some #[0,iD t],some #[0,.lst (side.map .str)],some #[0,.str ex]]:=λf3 side e3 sd=>by
    subst Fm;lia;refine ae (z:=.str t.nm) (am (j:=0) rfl) (ae rfl ?_);refine ae (Fj #[]) ?_;refine kk _ #[f3,λu=>if u=t then side else S u,some #[0,iD t],some #[0,.lst (side.map .str)],some #[0,.str ex],#[],λu hu=>?_,?_]
    .rw[tk]at hu;rcases List.mem_append.mp hu with z|z
     .have:u≠t:=λe=>nt (e ▸ z);simp only[this,if_false];exact hS u z
     .have:u=t:=by simpa using z
      subst this;simp only[if_true];exact sd
    .rw[tk,aaM,<- hA];have e1:(X.take j).map (λu=>DL u.nm (if u=t then side else S u))=(X.take j).map λu=>DL u.nm (S u):=abJ λu hu=>by have:u≠t:=λe=>nt (e ▸ hu);simp only[this,if_false]
     rw[e1];have e2:[t].map (λu=>DL u.nm (if u=t then side else S u))=[DL t.nm side]:=by simp
     rw[e2];rfl
   refine bf λA1 B1 HF GP=>?_;lia;refine dr #[] #[2] #[2] λf3 r3 h3 hr3=>?_;try lia
   refine ae (bc _ _) (ae rfl ?_);cases decide ((r3:Int)=0)with
   |false=>
    try lia
    subst GP;exact rest f3 side h3 sd
   |true=>
    try lia
    refine ae (xD ex t) (ae rfl ?_);cases en:!((t.nm==ex) || ((t.one==ex) || ((t.Bp==ex) || false)))with
    |false=>
     try lia
     subst GP;exact rest f3 side h3 sd
    |true=>
     try lia
     subst HF;simp only[By,jJ,aS,bY];try lia
     have sl:side.length<=60:=aaX (aB (bh sd.rise) sd.Dt) pl;refine ae (lM (by rw[aac];simp;omega)) ?_;have ea:side.map PV.str++[PV.str ex]=(side++[ex]).map PV.str:=by rw[aaM];rfl
     rw[ea];refine#[side++[ex],cz _,by rw[aav,aca];omega,?_,λgs up=>?_]
     .have:=aB (mB (side++[ex])) (ys:=ps) λx hx=>by
       rcases List.mem_append.mp ((qr _ _).mp hx)with z|z
       .exact sd.Dt x z
       .rw[List.mem_singleton.mp z];exact Xm
      omega
     .simp at en;exact rest f3 gs h3 (sd.more Xm en.2.1 en.2.2 up)
  refine bf λA1 B1 HF GP=>?_;lia;refine dr #[] #[2] #[2] λf1 r1 h1 LU=>?_;try lia
  refine ae (bc _ _) (ae rfl ?_);cases decide ((r1:Int)=0)with
  |false=>rw[if_neg #[0]];subst GP;exact rest f1 side h1 sd
  |true=>
   rw[if_pos rfl];subst HF;lia;refine ae (Ju ps ts) ?_;try lia
   refine aX (QT side) (λy hy R' MP=>?_) #[3] ?_
   .obtain⟨a,_,rfl⟩:=List.mem_map.mp hy;replace MP:R' (if (!decide (a∈side))=true then some (.str a)else none) _:=MP;refine ae xF (ae rfl ?_);cases z:decide (a∈side)with
    |true=>rw[z,if_neg #[0]]at MP;exact MP
    |false=>rw[z,if_pos #[0]]at MP;exact MP
   rw[aa3,vh];exact rest f1 _ h1 (sd.off o.ok.rise t2)
 lia;refine ae (z:=.str t.one) (am (j:=1) rfl) ?_;try lia
 refine aX (Ko t.nm) (λx hx R hR=>?_) #[3] ?_
 .obtain⟨u,hu,rfl⟩:=List.mem_map.mp hx;refine ae (tz nd (k.sp.sub u hu).1 t1) (ae rfl ?_);replace hR:R (if decide (u.nm≠t.nm)=true then some (iD u)else none) _:=hR;cases e:decide (u.nm≠t.nm)with
  |false=>rw[e]at hR;exact hR
  |true=>rw[e]at hR;exact hR
 rw[aa3,me _ X t rfl];refine#[ps,less X t,t.one,rfl,o.ok.rise,o.pl,#[],(BR.mp t2).1,λu hu=>k.sp.BC u (oF.mp hu).1,?_];exact rest _ (k.side ht)
noncomputable def WD(ns:Aaa):PV->Option PV
 |.tup [.str a,.str b,.str c,.int d]=>if B6 ns #[a,b,c,d]=true then some (.tup [.str a,.str b,.str c,.int d])else none
 |_=>none
def xX(ns:Aaa)(X:Aaf):(X.map iD).filterMap (WD ns)=(X.filter (B6 ns)).map iD:=by rw[abx];exact aC _ iD X
noncomputable def QX(ns:Aaa):PV->Option PV
 |.tup [.str a,.str b,.str c,.int d]=>if (!B6 ns #[a,b,c,d])=true then some (.tup [.str a,.str b,.str c,.int d])else none
 |_=>none
def vk(ns:Aaa)(X:Aaf):(X.map iD).filterMap (QX ns)=(X.filter λt=>!B6 ns t).map iD:=by rw[abx];exact aC _ iD X
theorem xp(T:Addr×Addr)(ns:Aas)(x:PV)(hn:ns.length<=63)(hx:x=.D5 ns\/x=.lst (ns.map .int)):Q.EO 10 (ic T) (DH T) [x] λr c=>r=.bl true/\c=DH T:=by
 unfold ic;simp only[EO,OC,JT];refine ai λN hN=>?_;show Q.fm 1 0 _ [some #[0,x],none,none,none,none,none,none,none,none,none,some #[2,DH T]];refine#[#[ns,hx,hn],?_];show N _;generalize hF:(1000000:Nat)=F;subst hN;refine ai λN hN=>ba λG B hG hB=>?_;simp only[LP,aS,bY,eC,E9,bv];refine#[#[],#[],?_];refine aH (λi e=>∃(f:Nat) (v2 v3 v4 v5 v6 v7 v8 v9:Aat),F<=f+10000*i/\e=[some #[0,x],some #[4,.int (f:Int)],v2,v3,v4,v5,v6,v7,v8,v9,some #[2,DH T]]) (i:=0) #[F,none,none,none,none,none,none,none,none,#[],rfl] ?_ ?_;case refine_2=>rintro e ⟨f,v2,v3,v4,v5,v6,v7,v8,v9,_,rfl⟩;show N _;subst hN;exact#[rfl,rfl]
 rintro j y e M hj ⟨f,v2,v3,v4,v5,v6,v7,v8,v9,hf,rfl⟩ k;obtain⟨Td,rfl⟩:=gQ hj;have j3:j<2:=Td;rw[aaP]at hf k;subst hG hB;refine ai λN1 Fm=>?_;refine#[rfl,?_];lia;show fH (.int (f:Int)) [.int 12,.int 30] _;refine zr #[] #[2] #[2] #[2] #[2] λf' ps ts h1 ok h3 h4=>?_;have o:Nk ps ts:=#[ok,#[],#[]]
 have nd:=bQ ok;have tl:=o.tl;have pl:=o.pl;have tn:=uF ps ts;subst Fm;refine ai λN1 Fm=>?_;simp only[By,C9];try lia
 refine#[rfl,ps,ts,rfl,ok,pl,tl,?_];subst Fm;refine ai λN1 Fm=>?_;have pick:∀(D:Wd) (f:Nat) (v5 v6 v7 v8 v9:Aat),D.nx _->By 5 (D8 (iS (lT lE (eV 3) (eC (.int 1)))) (.nm 0) (Bs (lT CK (lT lE (eV 0) (eC (.int 0))) (BV 1))) (eV 0) [none,some 4]) D [some #[0,x],some #[4,.int (f:Int)],some #[0,.int (j:Int)],some #[0,Bt ps ts],some #[0,Eb (BE ps ts)],v5,v6,v7,v8,v9,some #[2,DH T]]:=λD f v5 v6 v7 v8 v9 h=>by
  lia;refine ae (Kn ps ts) ?_;refine aX (WD ((BE ps ts).map iF.nm)) (λx hx R hR=>?_) #[3] ?_
  .obtain⟨t,ht,rfl⟩:=List.mem_map.mp hx;refine ae (z:=.str t.nm) (am (j:=0) rfl) (ae aO (ae rfl ?_));replace hR:R (if B6 ((BE ps ts).map iF.nm) t=true then some (iD t)else none) _:=hR;show if B6 ((BE ps ts).map iF.nm) t=true then _ else _;cases e:B6 ((BE ps ts).map iF.nm) t with
   |false=>rw[e]at hR;exact hR
   |true=>rw[e]at hR;exact hR
  rw[aa3,xX,(e9 o).only];exact h
 refine pick _ _ _ _ _ _ _ ?_;subst Fm;dsimp only;refine ba λG B hG hB=>?_;simp only[LP,aS,bY,eC,E9,bv];refine#[#[],#[],?_];refine aH (λi e=>∃(g:Nat) (X:Aaf) (v6 v7 v8 v9:Aat),f'<=g+300*i/\Tk ps ts X/\e=[some #[0,x],some #[4,.int (g:Int)],some #[0,.int (j:Int)],some #[0,Bt ps ts],some #[0,Eb (BE ps ts)],some #[0,.lst (X.map iD)],v6,v7,v8,v9,some #[2,DH T]]) (i:=0) #[f',BE ps ts,v6,v7,v8,v9,#[],e9 o,rfl] ?_ ?_;case refine_2=>rintro e ⟨g,X,v6,v7,v8,v9,hg,_,rfl⟩;rw[cU,aaP]at hg;replace hg:f'<=g+300*12:=hg;exact k _ #[g,_,_,_,_,_,_,_,_,#[],rfl]
 rintro i y e M hi ⟨g,X,v6,v7,v8,v9,hg,kX,rfl⟩ kk;obtain⟨Y3,rfl⟩:=gQ hi;have i3:i<12:=Y3;rw[aaP]at hg kk;subst hG hB;refine ai λN1 Fm=>?_;have rest:∀X,Tk ps ts X->N1 [some #[0,x],some #[4,.int (g:Int)],some #[0,.int (j:Int)],some #[0,Bt ps ts],some #[0,Eb (BE ps ts)],some #[0,.lst (X.map iD)],some #[0,.int (i:Int)],v7,v8,v9,some #[2,DH T]]:=λX kX=>by
  subst Fm;refine ai λN1 Fm=>?_;refine#[rfl,?_];lia;refine#[g,ps,ts,X,rfl,#[],rfl,kX,λg1 X hg1 kX=>?_];have xl:=kX.len;subst Fm;refine ai λN1 Fm=>?_;lia;refine cE iD (λt=>.str t.nm) (l:=X) (λt ht R hR=>ae (z:=.str t.nm) (am (j:=0) rfl) hR) #[3] ?_;refine ae rfl ?_;rw[aa3];have en:(X.map λt=>PV.str t.nm)=(X.map iF.nm).map .str:=by rw[aaL];rfl
  rw[en];subst Fm;refine bf λA1 B1 HF GP=>?_;lia;refine ae (xI _ _) (ae rfl ?_);by_cases ex:X.map iF.nm=(BE ps ts).map iF.nm
  .rw[decide_eq_true ex,if_neg #[0]];subst GP;exact kk _ #[g1,X,_,_,_,_,#[],kX,rfl]
  rw[decide_eq_false ex,if_pos #[0]];have ne:X≠BE ps ts:=λz=>ex (by rw[z]);subst HF;refine ai λN1 Fm=>?_;lia;refine#[ps,ts,rfl,#[],?_];have fl:(ts.filter (BC ps)).length<=ts.length:=aaA _ _;have ol:(Ek ps ts X).length<=ts.length:=jw;try lia
  refine aX (QX (X.map iF.nm)) (λx hx R hR=>?_) #[3] ?_
  .obtain⟨t,ht,rfl⟩:=List.mem_map.mp hx;refine ae (vj X) (ae rfl ?_);have eb:decide (t∈X)=B6 (X.map iF.nm) t:=by rw[aa0,decide_eq_true_eq,ce];refine#[λh=>aaV h,λh=>?_];obtain⟨v,hv,e⟩:=List.mem_map.mp h;exact aG nd (kX.sp.sub v hv).1 (List.mem_filter.mp ht).1 e ▸ hv
   rw[eb];replace hR:R (if (!B6 (X.map iF.nm) t)=true then some (iD t)else none) _:=hR;cases e:B6 (X.map iF.nm) t with
   |false=>rw[e]at hR;exact hR
   |true=>rw[e]at hR;exact hR
  rw[aa3,vk];subst Fm;refine ai λN1 Fm=>?_;lia;refine cE iD (JX X) (l:=Ek ps ts X) (λt ht R hR=>?_) #[3] ?_
  .obtain⟨t1,t2,_⟩:=Dg.mp ht;refine ae (z:=.str t.nm) (am (j:=0) rfl) (ae (z:=.str t.one) (am (j:=1) rfl) (ae (z:=.str t.Bp) (am (j:=2) rfl) ?_));refine#[ps,X,t.one,t.Bp,rfl,kX.sp.nd,xl,λu hu=>#[kX.ne u hu,kX.sp.BC u hu],kX.sp.Sb,pl,(BR.mp t2).1,kX.way t1 t2,λns w d=>?_];have e:=kX.Ei w d;subst e;exact hR
  refine ae rfl ?_;rw[aa3];subst Fm;refine ai λN1 Fm=>bf λA1 B1 HF GP=>?_;lia;refine#[ps,ts,X,rfl,kX,ne,ae (z:=false) rfl ?_];simp only[C9,abO,if_false];try lia
  refine#[g1,ps,ts,X,rfl,#[],rfl,kX,λg2 S Lq hS=>?_];refine#[rfl,ps,ts,X,S,rfl,kX,ne,hS,ae (z:=false) rfl ?_];try rw[if_neg #[0]]
  subst GP;show N1 _;subst Fm;refine bf λA1 B1 HF GP=>?_;lia;refine#[ps,ts,BE ps ts,rfl,#[],#[],nd,λu hu=>(bi hu).1,?_];refine#[ps,ts,X,rfl,#[],#[],nd,λu hu=>(kX.sp.sub u hu).1,?_];refine ae (z:=.bl false) ?_ (ae (z:=false) rfl ?_)
  .have:=nB nd _ kX.sp (abP _);show some (PV.bl (decide _))=_;rw[decide_eq_false #[]]
  try rw[if_neg #[0]]
  subst GP;exact kk _ #[g2,X,_,_,_,_,#[],kX,rfl]
 refine bf λA1 B1 HF GP=>?_;lia;refine ae (bU #[2]) (ae (bc _ _) (ae rfl ?_));cases decide ((i:Int) % 3=0)with
 |false=>rw[if_neg #[0]];subst GP;exact rest X kX
 |true=>rw[if_pos rfl];subst HF;exact pick _ _ _ _ _ _ _ (rest _ (e9 o))
variable{K:aaf}{mg:Aag}{st:Stmt}
abbrev GQ(P:aaD)(w:World)(base:Heap)(d:Df K mg x st ps)(k:Nat)(D:Fd):Prop:=BD P w K mg base Cu k d.f d.fd ps (Nw #[P,w,K,DE K] ps.length D)
abbrev GO(P:aaD)(w:World)(base:Heap)(d:Df K mg x st ps)(k:Nat)(D:Eu):Prop:=BD P w K mg base Cu k d.f d.fd ps (Li #[P,w,K,DE K] ps.length D)
abbrev GT(P:aaD)(w:World)(base:Heap)(d:Df K mg x st ps)(k:Nat)(D:Eu):Prop:=BD P w K mg base Cu k d.f d.fd ps (spT #[P,w,K,DE K] ps.length D)
def DA{N P:Aaa}{sc:Scope}(kind:autoParam (sc.kind=.function) oR)(co:autoParam (sc.isCoroutine=false) oR)(gen:autoParam (sc.isGenerator=false) oR)(nd:autoParam (N.Nodup) C')(pre:autoParam (N.take P.length=P) oR)
  (par:autoParam (∀x∈P,sc.names.lookup x=some .local\/sc.names.lookup x=some .cell) C') (Iq:autoParam (∀y∈sc.names,y.2≠.free) C'):ap N P sc:=#[kind,co,gen,nd,pre,par,Iq]
variable{ob:Ct}{X:Cx}{k' n:Nat}{D:Fd}{DO:Eu}{p p1 pos:Pos}{e a b:Expr}{es:Aak}{fa:WA}{f g:WE}
def UD(i:Nat)(hN:autoParam (X.N[i]?=some x) oR)(hv:autoParam (Hq X.env.scope x) BT)(hd:autoParam ((x==("__debug__" : Str))=false) on)(FT:autoParam ((x==("__classdict__" : Str))=false) on):
  BH ob X (.Name x pos) (eV i):=Ad i (pv i hN hv hd FT)
def Ru(i:Nat)(hN:autoParam (X.N[i]?=some x) oR)(hv:autoParam (Hq X.env.scope x) BT)(hd:autoParam ((x==("__debug__" : Str))=false) on)(FT:autoParam ((x==("__classdict__" : Str))=false) on):
  Gh ob X (.Name x pos) (BV i):=yh i (pv i hN hv hd FT)
def RJ{d:Df X.K X.mg x st ps}(F:BD X.prog X.w X.K X.mg X.base Cu k d.f d.fd ps (Nw (md ob X) n D))(hr:BS k' X.A)(ha:GG ob X (e::es) fa)(hk:autoParam (k<=k') on)(hn:autoParam (es.length+1=n) oR)(hg:autoParam (Gl X x) oR)
  (D7:autoParam ((x==("__debug__" : Str))=false) on) (he:autoParam (aai (e::es) X.env=(false,eval e X.env)::aai es X.env) oR) (CM:autoParam ((backTo pos (aai es X.env)).any (·.1)=false) oR) :
  BH ob X (.Call (.Name x p) (e::es) [] pos) (Br D fa):=yl F (hr.mono hk) d.n.mg d.n.kp d.b ha hn hg D7 he CM
def Oh(i:Nat){d:Df X.K X.mg x st ps}(F:BD X.prog X.w X.K X.mg X.base Cu k d.f d.fd ps (Li (md ob X) n DO))(hr:BS k' X.A)(ha:GG ob X es fa)(ho:autoParam (PE X (.Name y p1) (B2 i)) Da)(hk:autoParam (k<=k') on)(hn:autoParam (es.length+1=n) oR)(hg:autoParam (Gl X x) oR)
  (D7:autoParam ((x==("__debug__" : Str))=false) on) (he:autoParam (aai (.Name y p1::es) X.env=(false,eval (.Name y p1) X.env)::aai es X.env) oR) (CM:autoParam ((backTo pos (aai es X.env)).any (·.1)=false) oR) :
  BH ob X (.Call (.Name x p) (.Name y p1::es) [] pos) (Bq DO i fa):=vV i F (hr.mono hk) d.n.mg d.n.kp d.b ho ha hn hg D7 he CM
def Og(j:Nat){d:Df X.K X.mg x st ps}(F:BD X.prog X.w X.K X.mg X.base Cu k d.f d.fd ps (spT (md ob X) n DO))(hr:BS k' X.A)(ha:GG ob X (e::es) fa)(hk:autoParam (k<=k') on)(hn:autoParam (es.length+1=n) oR)(hg:autoParam (Gl X x) oR)
  (D7:autoParam ((x==("__debug__" : Str))=false) on) (he:autoParam (aai (e::es) X.env=(false,eval e X.env)::aai es X.env) oR) (CM:autoParam ((backTo pos (aai es X.env)).any (·.1)=false) oR) :
  BH ob X (.Call (.Name x p) (e::es) [] pos) (C9 DO j fa):=vU j F (hr.mono hk) d.n.mg d.n.kp d.b ha hn hg D7 he CM
noncomputable def Jo:Expr->List Str
 |.Name x _=>[x]
 |.Tuple es _ _=>es.map λe=>match e with
  |.Name x _=>x
  |_=> ""
 |_=>[]
noncomputable def GA(M:Aaa):Aaa->List (Option Nat)->List Str
 |_,[]=>[]
 |o,some j::js=>M.getD j "" :: GA M o js
 |[],none::js=> "" :: GA M [] js
 |x::o,none::js=>x::GA M o js
noncomputable def Uo:Aaa->Bool
 |[]=>true
 |x::l=>!l.contains x && Uo l
def Q0:∀{l:Aaa},Uo l=true->l.Nodup
 |[],_=>.nil
 |x::l,h=>by
  unfold Uo at h;rw[aaS,abl]at h;exact List.nodup_cons.mpr #[λz=>by rw[List.contains_iff_mem.mpr z]at h;exact absurd h.1 #[0],Q0 h.2]
section
variable{tg iter elt kx vx DD BK:Expr}{ifs:Aak}{scope:Scope}{T:Jm}{fi IF:WA}{c:WT}{fk:WE}{js:Aah}
noncomputable abbrev BN(X:Cx)(tg:Expr)(js:Aah):Aaa:=GA X.N (Jo tg) js
abbrev A5(X:Cx)(scope:Scope)(N:Aaa)(p:Cx->Prop):Prop:=∀C s0 Ha ex pn,p (iN X scope N C s0 Ha ex pn)
structure CB(X:Cx)(N:Aaa)(iter:Expr)(scope:Scope)(js:Aah)(T:Jm):Prop where
 hj:FO js=true
 hT:CI js T=true
 hc:X.calm=true
 hx:X.xe=λ_ _=>False
 Dq:DI X.env scope=true
 BP:Cw X.N scope N js=true
 hk:scope.kind=.function
 hs:∀x,aaC iter X.env x=pure x
variable(hi:Hl ob X tg iter fi)
include hi
section
variable(hg:A5 X scope (BN X tg js) λY=>PG Y tg (Hn X.K T))(ht:A5 X scope (BN X tg js) λY=>OQ ob Y ifs c)
include hg ht
def YU(he:A5 X scope (BN X tg js) λY=>BH ob Y elt f)(h:autoParam (CB X (BN X tg js) iter scope js T) Db):
  GD ob X (.ListComp elt [#[tg,iter,ifs,0]] scope pos) (D8 fi T c f js):=Be hi hg ht he h.hj h.hT h.hc h.hx h.Dq h.BP h.hk h.hs
def Zd(hk:A5 X scope (BN X tg js) λY=>BH ob Y kx fk)(he:A5 X scope (BN X tg js) λY=>BH ob Y vx f)(h:autoParam (CB X (BN X tg js) iter scope js T) Db):
  GD ob X (.DictComp kx vx [#[tg,iter,ifs,0]] scope pos) (KS fi T c fk f js):=Bg hi hg ht hk he h.hj h.hT h.hc h.hx h.Dq h.BP h.hk h.hs
variable{i:Nat}{py B3:Pos}(hN:X.N.Nodup)
include hN
def Tz(he:A5 X scope (BN X tg js) λY=>BH ob Y elt f)(h:autoParam (CB X (BN X tg js) iter scope js T) Db)(hy:autoParam (X.N[i]?=some y) oR)(hk:autoParam (X.env.scope.names.lookup y=some .local) oR)
  (Iw:autoParam (abU (.ListComp elt [#[tg,iter,ifs,0]] scope pos) (some (.Name y py)) B3.line X.env=pure true) oR) :
  E6 ob X (.Assign [.Name y py] (.ListComp elt [#[tg,iter,ifs,0]] scope pos) B3) (By i (D8 fi T c f js)):=Aa i hN hy hk hi hg ht he h.hj h.hT Iw h.hc h.hx h.Dq h.BP h.hk h.hs
def XD(hk:A5 X scope (BN X tg js) λY=>BH ob Y kx fk)(he:A5 X scope (BN X tg js) λY=>BH ob Y vx f)(h:autoParam (CB X (BN X tg js) iter scope js T) Db)(hy:autoParam (X.N[i]?=some y) oR)(hl:autoParam (X.env.scope.names.lookup y=some .local) oR)
  (Iw:autoParam (abU (.DictComp kx vx [#[tg,iter,ifs,0]] scope pos) (some (.Name y py)) B3.line X.env=pure true) oR) :
  E6 ob X (.Assign [.Name y py] (.DictComp kx vx [#[tg,iter,ifs,0]] scope pos) B3) (CA i (KS fi T c fk f js)):=Bc i hN hy hl hi hg ht hk he h.hj h.hT Iw h.hc h.hx h.Dq h.BP h.hk h.hs
end
def U2{kk:Nat}(hg:A5 X scope (GA X.N (Jo tg++Jo DD) js) λY=>PG Y tg (Hn X.K T))(Oc:A5 X scope (GA X.N (Jo tg++Jo DD) js) λY=>Hl ob Y DD BK IF)(Lq:A5 X scope (GA X.N (Jo tg++Jo DD) js) λY=>PG Y DD (B8 kk))(he:A5 X scope (GA X.N (Jo tg++Jo DD) js) λY=>BH ob Y elt f)
  (h:autoParam (CB X (GA X.N (Jo tg++Jo DD) js) iter scope js T) Db) (hT:autoParam (CI (js.set kk (some 0)) T=true) oR) (hk:autoParam (js[kk]?=some none) oR) (Jf:autoParam (A5 X scope (GA X.N (Jo tg++Jo DD) js) λY=>∀x,aaC BK Y.env x=pure x) Cl) :
  GD ob X (.ListComp elt [#[tg,iter,[],0],#[DD,BK,[],0]] scope pos) (OE fi T IF kk f js):=Ap hi hg Oc Lq he h.hj hT h.hT hk Jf h.hc h.hx h.Dq h.BP h.hk h.hs
omit hi
def Zx(h:BH ob X e f):Gh ob X e f:=(XF h)
def Xi(h:GD ob X e f):BH ob X e f:=(XX h)
def Oi{d:Df X.K X.mg x st ps}(F:BD X.prog X.w X.K X.mg X.base Cu k d.f d.fd ps (Nx (md ob X) n D))(hr:BS k' X.A)(ha:GG ob X (e::es) fa)(hk:autoParam (k<=k') on)(hn:autoParam (es.length+1=n) oR)(hg:autoParam (Gl X x) oR)
  (D7:autoParam ((x==("__debug__" : Str))=false) on) (he:autoParam (aai (e::es) X.env=(false,eval e X.env)::aai es X.env) oR) (CM:autoParam ((backTo pos (aai es X.env)).any (·.1)=false) oR) :
  GD ob X (.Call (.Name x p) (e::es) [] pos) (Br D fa):=vW F (hr.mono hk) d.n.mg d.n.kp d.b ha hn hg D7 he CM
def xY(i:Nat){d:Df X.K X.mg x st ps}(F:BD X.prog X.w X.K X.mg X.base Cu k d.f d.fd ps (G2 (md ob X) n DO))(hr:BS k' X.A)(ha:GG ob X es fa)(ho:autoParam (PE X (.Name y p1) (B2 i)) Da)(hk:autoParam (k<=k') on)(hn:autoParam (es.length+1=n) oR)(hg:autoParam (Gl X x) oR)
  (D7:autoParam ((x==("__debug__" : Str))=false) on) (he:autoParam (aai (.Name y p1::es) X.env=(false,eval (.Name y p1) X.env)::aai es X.env) oR) (CM:autoParam ((backTo pos (aai es X.env)).any (·.1)=false) oR) :
  GD ob X (.Call (.Name x p) (.Name y p1::es) [] pos) (Bq DO i fa):=uf i F (hr.mono hk) d.n.mg d.n.kp d.b ho ha hn hg D7 he CM
end
set_option hygiene false in
local macro_rules|`(tactic| walk_at "g")=>`(tactic| repeat' (first|exact UD _|exact Ru _|(show GG _ _ _ _;first|refine yA ?_ ?_|exact AJ)|(show BH _ _ (Expr.Call _ _ _ _) _;first|refine rH AK AN #[4] Y.Lc PySem.boot_len ?_|refine wE wb wc #[4] Y.Hk PyProof.Rows.boot_tuple ?_|refine wD _ PySem.F.slot_list_append PySem.F.type_list_append dW tD (pv _) ?_|refine rH (wo rfl) AO #[4] Y.M6 PyProof.Rows.boot_all ?_|refine ue "tuple" #[2] Y.Dy Y.Hk PyProof.Rows.boot_tuple ?_|refine wE qz yI #[4] Y.Ld PyProof.Rows.boot_int ?_|refine ue "str" #[2] Y.Dy Y.M4 PyProof.Rows.boot_str ?_|refine vR _ _ true Eo Ep hr rfl #[4] Y.M5 #[4] FT hC hB #[4] #[4] (Or.inr (by first|exact .inl rfl|exact .inr rfl)) ?_|exact Ao _ ad9 ad8 zu zv (pv _)|refine rH (wj rfl) AM #[4] Y.M3 PyProof.Rows.boot_sum ?_|refine yi ?_ ?_|refine wD _ ad9 ad8 n8 vm (pv _) ?_|refine RJ ‹_› hr ?_|refine Oh _ ‹_› hr ?_|refine Og _ ‹_› hr ?_|refine Xi ?_)|(show BH _ _ _ _;first|exact Ar|refine Bf (HB hr) ?_ ?_|refine Ax ?_ ?_|refine Ae ?_|exact Bh|(show BH _ _ (abZ _ [CmpOp.In] _ _) _;refine g8 (sZ (N4 hr)) sQ ?_ ?_ (by first|exact Cg _|rfl))|refine Am ?_ ?_|refine Af ?_ ?_|(show BH _ _ (abZ _ [CmpOp.Eq] _ _) _;refine g8 (tf (LQ hr)) sT ?_ ?_ (by first|exact Cg _|rfl))|exact Ag|refine Av ?_ ?_|refine Al ?_ ?_|refine Bd ?_ ?_ ?_|refine Aw ?_ ?_|exact Ak|refine Aq _ (HB hr) (pv _) ?_|refine Au ?_ ?_ ?_|refine Ai ?_ ?_|refine Ah ?_ ?_ ?_|exact yj (Y.DX)|refine vT mY j6 mY j6 ?_ ?_ ?_|(show BH _ _ (abZ _ [CmpOp.Lt] _ _) _;refine g8 wA sP ?_ ?_ (by first|exact Cg _|rfl))|(show BH _ _ (abZ _ [CmpOp.Lt] _ _) _;refine g8 (zn (LQ hr)) xu ?_ ?_ (by first|exact Cg _|rfl))|refine ym _ qa p9 (pv _) ?_|(show BH _ _ (abZ _ [CmpOp.Gt] _ _) _;refine g8 qX sR ?_ ?_ (by first|exact Cg _|rfl))|refine Aj ?_|refine Xi ?_)|(show E6 _ _ _ _;first|refine zX ?_|refine zW _ ‹_› rfl (by first|exact .inl rfl|exact .inr rfl) ?_|refine Bb ?_ ?_ ?_|refine Ab afr rfl ?_ ?_ ?_|refine ye _ ‹_› rfl (by first|exact .inl rfl|exact .inr rfl) ?_|refine yg ?_|refine Tz ?_ (λ_ _ _ _ _=>?_) (λ_ _ _ _ _=>?_) ‹_› (λ_ _ _ _ _=>?_)|refine vO afr ?_ ?_|refine Ac ?_ ?_|refine rE _ (HB hr) (pv _) ?_ ?_|refine XD ?_ (λ_ _ _ _ _=>?_) (λ_ _ _ _ _=>?_) ‹_› (λ_ _ _ _ _=>?_) (λ_ _ _ _ _=>?_)|refine yf ?_|refine rD _ ‹_› rfl rfl ?_ (λ_ _ _ _ _=>?_) (λ_ _ _ _ _=>(pv _))|exact t9 _ (pv _)|refine zY _ (HB hr) ?_ (pv _) ?_|exact t7 _ ‹_› rfl (by first|exact .inl rfl|exact .inr rfl) Y.K0|refine t8 _ (pv _) ?_|refine zZ _ _ rfl ‹_› rfl rfl #[2] rfl rfl ?_ rfl|exact rF _ _ ‹_› rfl (by first|exact .inl rfl|exact .inr rfl) ‹_› (hr.mono #[2]) Y.Es.n.mg Y.Es.n.kp Y.Es.b (pv _))|(show Gd _ _ _ _;first|refine Az ?_|(show Gd _ _ (abZ _ [CmpOp.Eq] _ _) _;refine cg (tf (LQ hr)) sT ?_ ?_ (by first|exact Cg _|rfl))|(show Gd _ _ (abZ _ [CmpOp.NotEq] _ _) _;refine cg (A3 (Dj hr)) zh ?_ ?_ (by first|exact Cg _|rfl))|(show Gd _ _ (abZ _ [CmpOp.NotIn] _ _) _;refine cg (xw (N4 hr)) xq ?_ ?_ (by first|exact Cg _|rfl))|(show Gd _ _ (abZ _ [CmpOp.In] _ _) _;refine cg (sZ (N4 hr)) sQ ?_ ?_ (by first|exact Cg _|rfl))|(show Gd _ _ (abZ _ [CmpOp.NotEq] _ _) _;refine cg (zm (LQ hr)) xr ?_ ?_ (by first|exact Cg _|rfl))|(show Gd _ _ (abZ _ [CmpOp.Gt] _ _) _;refine cg qX sR ?_ ?_ (by first|exact Cg _|rfl))|(show Gd _ _ (abZ _ [CmpOp.Lt] _ _) _;refine cg wA sP ?_ ?_ (by first|exact Cg _|rfl))|refine vX mY j6 mY j6 ?_ ?_ ?_|refine Ay ?_|refine AC (wF ?_ ?_)|refine AC (ug ?_ ?_))|(show GD _ _ _ _;first|refine YU ?_ (λ_ _ _ _ _=>?_) (λ_ _ _ _ _=>?_) (λ_ _ _ _ _=>?_)|refine An ?_|refine vP rfl #[4] Y.DY ?_|refine Zd ?_ (λ_ _ _ _ _=>?_) (λ_ _ _ _ _=>?_) (λ_ _ _ _ _=>?_) (λ_ _ _ _ _=>?_)|refine yk ?_|refine ud _ _ DQ DR hr #[4] Y.DY #[4] FT hC hB #[4] #[4] (Or.inr (by first|exact .inl rfl|exact .inr rfl)) ?_|refine U2 ?_ (λ_ _ _ _ _=>?_) (λ_ _ _ _ _=>?_) (λ_ _ _ _ _=>?_) (λ_ _ _ _ _=>?_)|refine vQ #[4] Y.DY ?_|refine rG rfl #[4] Y.DY #[4] Y.K0 ?_|refine xY _ ‹_› hr ?_|refine Oi ‹_› hr ?_)|refine vN ?_ ?_|exact lm (i:=_) (Q0 #[4]) rfl (by first|exact .inl rfl|exact .inr rfl)|refine AF ?_|exact yd|refine Bi ?_|exact yz _ ‹_› rfl (by first|exact .inl rfl|exact .inr rfl)|exact AI|refine vZ ?_ ?_|refine x3 ?_|refine AH ?_|refine wF ?_ ?_|refine nT ?_ ?_|refine AD ?_|exact yy|exact zT|refine AG (n:=_) rfl ?_ ?_|refine yp ?_|refine ug ?_ ?_|refine yq ?_|exact yr|exact pZ|refine sD (n:=_) rfl ?_|refine uh #[4] Y.Jl ?_|refine yw #[4] Y.MZ ?_|refine AE ?_|exact GF.nil|refine GF.cons ?_ ?_ ?_|exact ui _ (pv _)|refine yx #[4] Y.Fe ?_|refine yc ?_|refine Zx ?_|refine hAw ?_))
variable{P:aaD}{w:World}{base:Heap}
def PR:ap ["thing"] ["thing"] (ak kR):=DA
def i9(Y:Ev K mg):GQ P w base Y.He 1 bL :=
 az (aI Y.He.F PR #[2] (λBI A outer s H E hr=>by
  unfold dZ;have nd:=PR.nd
  walk_at "g")) o6
def VU:ap ["words"] ["words"] (ak gK):=DA
def gA(Y:Ev K mg):GQ P w base Y.EW 1 bN :=
 az (aI Y.EW.F VU #[2] (λBI A outer s H E hr=>by
  unfold cH;have nd:=VU.nd
  walk_at "g")) mN
def P9:ap ["thing"] ["thing"] (ak gP):=DA
def mR(Y:Ev K mg):GQ P w base Y.E1 2 cM :=
 az (aI Y.E1.F P9 #[2] (λBI A outer s H E hr=>by
  unfold cI;have nd:=P9.nd;have:=gA (P:=P) (w:=w) (base:=base) Y;have:=i9 (P:=P) (w:=w) (base:=base) Y
  walk_at "g")) mP
def PZ:ap ["net", "tie"] ["net", "tie"] (ak kU):=DA
def cu(Y:Ev K mg):GQ P w base Y.Hg 1 bx :=
 az (aI Y.Hg.F PZ #[2] (λBI A outer s H E hr=>by
  unfold iU;have nd:=PZ.nd
  walk_at "g")) o8
def VZ:ap ["net"] ["net"] (ak eD):=DA
def dC(Y:Ev K mg):GQ P w base Y.DT 1 bp :=
 az (aI Y.DT.F VZ #[2] (λBI A outer s H E hr=>by
  unfold bP;have nd:=VZ.nd
  walk_at "g")) ju
def P6:ap ["net"] ["net"] (ak gJ):=DA
def gz(Y:Ev K mg):GQ P w base Y.EV 2 bM :=
 az (aI Y.EV.F P6 #[2] (λBI A outer s H E hr=>by
  unfold gp;have nd:=P6.nd;have:=cu (P:=P) (w:=w) (base:=base) Y
  walk_at "g")) mM
def PH:ap ["net"] ["net"] (ak Ij):=DA
def g5(Y:Ev K mg):GQ P w base Y.IH 1 cF :=
 az (aI Y.IH.F PH #[2] (λBI A outer s H E hr=>by
  unfold gC;have nd:=PH.nd
  walk_at "g")) sM
def PY:ap ["net", "name", "other", "rank"] ["net", "name", "other"] (ak jo):=DA
def pC(Y:Ev K mg):GQ P w base Y.FW 2 cw :=
 az (aI Y.FW.F PY #[2] (λBI A outer s H E hr=>by
  unfold iW;have nd:=PY.nd;have:=g5 (P:=P) (w:=w) (base:=base) Y
  walk_at "g")) pc
def VY:ap ["net", "names", "rank", "#t"] ["net", "names"] (ak eG):=DA
def Eo:Gb "name" "rank" {posonlyargs:=[],args:=[{arg := "name",annotation:=none,pos:=p}],vararg:=none,kwonlyargs:=[],kw_defaults:=[],kwarg:=none,defaults:=[]} {kind:=.function,names:=[("name",.local),("rank",.free)],isGenerator:=false,isCoroutine:=false,more:=[]} :=
 #[rfl,rfl,rfl,#[2],rfl,rfl,rfl,rfl,rfl,rfl,λ_ _ _ _ _ _ _=>rfl]
def Ep:Gc "rank" {posonlyargs:=[],args:=[{arg := "name",annotation:=none,pos:=p}],vararg:=none,kwonlyargs:=[],kw_defaults:=[],kwarg:=none,defaults:=[]} {kind:=.function,names:=[("name",.local),("rank",.free)],isGenerator:=false,isCoroutine:=false,more:=[]} :=
 #[λ_=>rfl,λenv cell h=>by simp[aeH,cellOf,h]]
def kj(Y:Ev K mg)(hB:BMain mg base):GT P w base Y.C2 2 (bZ (Y.Bz,Y.Bu)) :=
 fz (fy (nm := "#t") Y.C2.F VY rfl #[2] rfl (by unfold Hq;decide +kernel) (λBI Ha A outer s H E hr=>by
  unfold dP;obtain⟨c,hc,hC⟩:=Y.Ef;have FT:=Ha.symm.trans hc;have nd:=VY.nd;have:=g5 (P:=P) (w:=w) (base:=base) Y
  walk_at "g")) (j5 _)
def PN:ap ["net", "side"] ["net", "side"] (ak Ik):=DA
def rq(Y:Ev K mg):GQ P w base Y.II 2 ga :=
 az (aI Y.II.F PN #[2] (λBI A outer s H E hr=>by
  unfold jO;have nd:=PN.nd;have:=cu (P:=P) (w:=w) (base:=base) Y
  walk_at "g")) qV
def VX:ap ["net", "beside", "tie"] ["net"] (ak eF):=DA
def fx(Y:Ev K mg):GQ P w base Y.DU 2 bD :=
 az (zV Y.DU.F VX #[2] (λBI A outer s H E hr=>by
  unfold eY;have nd:=VX.nd;have:=cu (P:=P) (w:=w) (base:=base) Y
  walk_at "g")) lr
def P2:ap ["beside", "start", "come", "ahead", "here", "name", "place"] ["beside", "start"] (ak la):=DA
def ja(Y:Ev K mg):GQ P w base Y.Hi 1 cy :=
 az (aI Y.Hi.F P2 #[2] (λBI A outer s H E hr=>by
  unfold eh;have nd:=P2.nd
  walk_at "g")) pd
def PU:ap ["beside", "start"] ["beside", "start"] (ak jn):=DA
def pz(Y:Ev K mg):GQ P w base Y.FV 2 eR :=
 az (aI Y.FV.F PU #[2] (λBI A outer s H E hr=>by
  unfold iR;have nd:=PU.nd;have:=ja (P:=P) (w:=w) (base:=base) Y
  walk_at "g")) o5
def PM:ap ["net", "beside", "seen", "told", "start", "piece", "place"] ["net"] (ak kQ):=DA
def kh(Y:Ev K mg):GQ P w base Y.Hd 3 bX :=
 az (aI Y.Hd.F PM #[2] (λBI A outer s H E hr=>by
  unfold fJ;have nd:=PM.nd;have:=fx (P:=P) (w:=w) (base:=base) Y;have:=pz (P:=P) (w:=w) (base:=base) Y
  walk_at "g")) qU
def Py:ap ["net", "names"] ["net", "names"] (ak J9):=DA
def jI(Y:Ev K mg):GQ P w base Y.KN 1 dI :=
 az (aI Y.KN.F Py #[2] (λBI A outer s H E hr=>by
  unfold m8;have nd:=Py.nd
  walk_at "g")) u8
def P7:ap ["net", "thing", "there"] ["net", "thing"] (ak gM):=DA
def gB(Y:Ev K mg):GQ P w base Y.EY 4 bO :=
 az (aI Y.EY.F P7 #[2] (λBI A outer s H E hr=>by
  unfold gq;have nd:=P7.nd;have:=mR (P:=P) (w:=w) (base:=base) Y;have:=jI (P:=P) (w:=w) (base:=base) Y;have:=gz (P:=P) (w:=w) (base:=base) Y;have:=kh (P:=P) (w:=w) (base:=base) Y
  walk_at "g")) mO
def PX:ap ["net", "thing"] ["net", "thing"] (ak kT):=DA
def pA(Y:Ev K mg):GQ P w base Y.Hf 5 eU :=
 az (aI Y.Hf.F PX #[2] (λBI A outer s H E hr=>by
  unfold iT;have nd:=PX.nd;have:=gB (P:=P) (w:=w) (base:=base) Y;have:=jI (P:=P) (w:=w) (base:=base) Y;have:=kh (P:=P) (w:=w) (base:=base) Y
  walk_at "g")) o7
def P4:ap ["net", "names", "named"] ["net", "names"] (ak kZ):=DA
def pB(Y:Ev K mg):GQ P w base Y.Hh 2 cv :=
 az (aI Y.Hh.F P4 #[2] (λBI A outer s H E hr=>by
  unfold iV;have nd:=P4.nd;have:=dC (P:=P) (w:=w) (base:=base) Y
  walk_at "g")) o9
def Pq:ap ["net", "forest", "one", "other", "come", "names", "here", "name"] ["net", "forest", "one", "other"] (ak ND):=DA
def x4(Y:Ev K mg):GQ P w base Y.Ox 3 lO :=
 az (aI Y.Ox.F Pq #[2] (λBI A outer s H E hr=>by
  unfold pE;have nd:=Pq.nd;have:=ja (P:=P) (w:=w) (base:=base) Y;have:=fx (P:=P) (w:=w) (base:=base) Y;have:=jI (P:=P) (w:=w) (base:=base) Y
  walk_at "g")) xk
def V2:ap ["net", "names", "rank", "#t"] ["net", "names"] (ak cK):=DA
def DQ:Gb "name" "rank" {posonlyargs:=[],args:=[{arg := "name",annotation:=none,pos:=p}],vararg:=none,kwonlyargs:=[],kw_defaults:=[],kwarg:=none,defaults:=[]} {kind:=.function,names:=[("name",.local),("rank",.free)],isGenerator:=false,isCoroutine:=false,more:=[]} :=
 #[rfl,rfl,rfl,#[2],rfl,rfl,rfl,rfl,rfl,rfl,λ_ _ _ _ _ _ _=>rfl]
def DR:Gc "rank" {posonlyargs:=[],args:=[{arg := "name",annotation:=none,pos:=p}],vararg:=none,kwonlyargs:=[],kw_defaults:=[],kwarg:=none,defaults:=[]} {kind:=.function,names:=[("name",.local),("rank",.free)],isGenerator:=false,isCoroutine:=false,more:=[]} :=
 #[λ_=>rfl,λenv cell h=>by simp[aeH,cellOf,h]]
def iP(Y:Ev K mg)(hB:BMain mg base):GT P w base Y.Cy 2 (bJ (Y.Bz,Y.Bu)) :=
 fz (fy (nm := "#t") Y.Cy.F V2 rfl #[2] rfl (by unfold Hq;decide +kernel) (λBI Ha A outer s H E hr=>by
  unfold cQ;obtain⟨c,hc,hC⟩:=Y.DB;have FT:=Ha.symm.trans hc;have nd:=V2.nd;have:=g5 (P:=P) (w:=w) (base:=base) Y
  walk_at "g")) (iJ _)
def V4:ap ["net", "names", "named", "group", "kept", "name", "tie", "stays", "goes"] ["net", "names"] (ak cJ):=DA
def iL(Y:Ev K mg):GQ P w base Y.C7 2 bG :=
 az (aI Y.C7.F V4 #[2] (λBI A outer s H E hr=>by
  unfold bF;have nd:=V4.nd;have:=dC (P:=P) (w:=w) (base:=base) Y
  walk_at "g")) iC
def P5:ap ["net", "#t"] ["net"] (ak gO):=DA
def oD(Y:Ev K mg)(hB:BMain mg base):GT P w base Y.EZ 3 (dJ (Y.Bz,Y.Bu)) :=
 fz (fy (nm := "#t") Y.EZ.F P5 rfl #[2] rfl (by unfold Hq;decide +kernel) (λBI Ha A outer s H E hr=>by
  unfold db;have nd:=P5.nd;have:=iP (P:=P) (w:=w) (base:=base) Y hB;have:=gz (P:=P) (w:=w) (base:=base) Y;have:=iL (P:=P) (w:=w) (base:=base) Y
  walk_at "g")) (nW _)
def PQ:ap ["net", "tree", "outside"] ["net", "tree"] (ak kO):=DA
def pq(Y:Ev K mg):GQ P w base Y.Hc 4 eO :=
 az (aI Y.Hc.F PQ #[2] (λBI A outer s H E hr=>by
  unfold iQ;have nd:=PQ.nd;have:=cu (P:=P) (w:=w) (base:=base) Y;have:=x4 (P:=P) (w:=w) (base:=base) Y
  walk_at "g")) o4
def VW:ap ["name", "thing"] ["name", "thing"] (ak gL):=DA
def lG(Y:Ev K mg):GQ P w base Y.EX 2 bE :=
 az (aI Y.EX.F VW #[2] (λBI A outer s H E hr=>by
  unfold e8;have nd:=VW.nd;have:=i9 (P:=P) (w:=w) (base:=base) Y
  walk_at "g")) ls
def V0:ap ["names", "thing"] ["names", "thing"] (ak eI):=DA
def dE(Y:Ev K mg):GQ P w base Y.DV 3 bq :=
 az (aI Y.DV.F V0 #[2] (λBI A outer s H E hr=>by
  unfold de;have nd:=V0.nd;have:=lG (P:=P) (w:=w) (base:=base) Y
  walk_at "g")) jv
def V3:ap ["net", "tree", "thing", "wanted"] ["net", "tree", "thing"] (ak dk):=DA
def iM(Y:Ev K mg):GQ P w base Y.Dw 5 bH :=
 az (aI Y.Dw.F V3 #[2] (λBI A outer s H E hr=>by
  unfold cO;have nd:=V3.nd;have:=dE (P:=P) (w:=w) (base:=base) Y;have:=pC (P:=P) (w:=w) (base:=base) Y;have:=gB (P:=P) (w:=w) (base:=base) Y;have:=pq (P:=P) (w:=w) (base:=base) Y
  walk_at "g")) iG
def PL:ap ["net", "name", "side", "#t"] ["net", "name", "side"] (ak Il):=DA
def rB(Y:Ev K mg)(hB:BMain mg base):GT P w base Y.IK 3 (gc (Y.Bz,Y.Bu)) :=
 fz (fy (nm := "#t") Y.IK.F PL rfl #[2] rfl (by unfold Hq;decide +kernel) (λBI Ha A outer s H E hr=>by
  unfold jP;have nd:=PL.nd;have:=kj (P:=P) (w:=w) (base:=base) Y hB;have:=gA (P:=P) (w:=w) (base:=base) Y;have:=rq (P:=P) (w:=w) (base:=base) Y
  walk_at "g")) (qW _)
def V1:ap ["net", "tree", "thing", "#t"] ["net", "tree", "thing"] (ak dm):=DA
def iO(Y:Ev K mg)(hB:BMain mg base):GT P w base Y.Dx 6 (bI (Y.Bz,Y.Bu)) :=
 fz (fy (nm := "#t") Y.Dx.F V1 rfl #[2] rfl (by unfold Hq;decide +kernel) (λBI Ha A outer s H E hr=>by
  unfold cP;have nd:=V1.nd;have:=dE (P:=P) (w:=w) (base:=base) Y;have:=rB (P:=P) (w:=w) (base:=base) Y hB;have:=pA (P:=P) (w:=w) (base:=base) Y
  walk_at "g")) (iH _)
def PD:ap ["_law_state", "_law_many", "_law_letters", "_law_stem", "_law_at", "_law_turn", "_law_kind", "_law_found", "_law_k", "_law_letter"] ["_law_state", "_law_many"] (ak Ih):=DA
def sw(Y:Ev K mg):BD P w K mg base Cu 2 Y.EU.f Y.EU.fd ["_law_state", "_law_many"] (G2 #[P,w,K,DE K] 2 (Kf 10 dQ)) :=
 x9 Y.EU.F PD #[2] (λBI A outer s H E hr=>by
  unfold dQ;have nd:=PD.nd;have:=cf (P:=P) (w:=w) (base:=base) Y
  walk_at "g")
def rC(Y:Ev K mg):BD P w K mg base Cu 2 Y.EU.f Y.EU.fd ["_law_state", "_law_many"] (G2 #[P,w,K,DE K] 2 cG):=vK (sw Y) sN
def Pz:ap ["_law_state", "_law_words_here", "_law_style", "_law_k", "_law_many", "_law_two", "_law_first", "_law_half"] ["_law_state", "_law_words_here", "_law_style", "_law_k"] (ak Kc):=DA
def vH(Y:Ev K mg):GO P w base Y.KO 2 gg :=
 fF (g6 Y.KO.F Pz #[2] (λBI A outer s H E hr=>by
  unfold jh;have nd:=Pz.nd;have:=cf (P:=P) (w:=w) (base:=base) Y
  walk_at "g")) vb
def PB:ap ["_law_state", "_law_style"] ["_law_state", "_law_style"] (ak Kd):=DA
def vI(Y:Ev K mg):GO P w base Y.KP 2 gh :=
 fF (g6 Y.KP.F PB #[2] (λBI A outer s H E hr=>by
  unfold m9;have nd:=PB.nd;have:=cf (P:=P) (w:=w) (base:=base) Y
  walk_at "g")) vc
def Pw:ap ["_law_state", "_law_most", "_law_ties", "_law_words_here", "_law_far", "_law_pool", "_law_many", "_law_style", "_law_costs", "_law_found", "_law_k", "_law_name"] ["_law_state", "_law_most", "_law_ties"] (ak NH):=DA
def x6(Y:Ev K mg):GO P w base Y.Oy 3 fH :=
 fF (g6 Y.Oy.F Pw #[2] (λBI A outer s H E hr=>by
  unfold kH;have nd:=Pw.nd;have:=rC (P:=P) (w:=w) (base:=base) Y;have:=vI (P:=P) (w:=w) (base:=base) Y;have:=vH (P:=P) (w:=w) (base:=base) Y;have:=cf (P:=P) (w:=w) (base:=base) Y
  walk_at "g")) xo
def Px:ap ["_law_net_here"] ["_law_net_here"] (ak J8):=DA
def uT(Y:Ev K mg):BD P w K mg base Cu 1 Y.GS.f Y.GS.fd ["_law_net_here"] (Nx #[P,w,K,DE K] 1 (LH 1 jg)) :=
 zU Y.GS.F Px #[2] (λBI A outer s H E hr=>by
  unfold jg;have nd:=Px.nd
  walk_at "g")
def mq(Y:Ev K mg):BD P w K mg base Cu 1 Y.GS.f Y.GS.fd ["_law_net_here"] (Nx #[P,w,K,DE K] 1 gf):=ya (uT Y) u9
def PC:ap ["_law_place", "_law_ties", "_law_found", "_law_many", "_law_name", "_law_one", "_law_other", "_law_cost_here"] ["_law_place", "_law_ties"] (ak Ke):=DA
def oE(Y:Ev K mg):GQ P w base Y.KQ 1 gn :=
 az (aI Y.KQ.F PC #[2] (λBI A outer s H E hr=>by
  unfold ji;have nd:=PC.nd
  walk_at "g")) vd
def Pu:ap ["_law_ties", "_law_one", "_law_other", "_law_rows", "_law_at", "_law_here", "_law_names", "_law_name", "_law_first", "_law_second", "_law_cost_here"] ["_law_ties", "_law_one", "_law_other"] (ak J7):=DA
def x5(Y:Ev K mg):GQ P w base Y.KL 1 lP :=
 az (aI Y.KL.F Pu #[2] (λBI A outer s H E hr=>by
  unfold kG;have nd:=Pu.nd
  walk_at "g")) xm
def P8:ap ["_law_state", "_law_net_here", "_law_ties", "_law_out", "_law_left", "_law_side", "_law_some"] ["_law_state", "_law_net_here", "_law_ties"] (ak fR):=DA
def mS(Y:Ev K mg):GO P w base Y.Er 2 cN :=
 fF (g6 Y.Er.F P8 #[2] (λBI A outer s H E hr=>by
  unfold gu;have nd:=P8.nd;have:=mq (P:=P) (w:=w) (base:=base) Y;have:=oE (P:=P) (w:=w) (base:=base) Y;have:=cf (P:=P) (w:=w) (base:=base) Y
  walk_at "g")) mQ
def PJ:ap ["_law_state", "_law_net_here", "_law_ties", "_law_found", "_law_tie", "_law_side", "_law_extra"] ["_law_state", "_law_net_here", "_law_ties"] (ak Ii):=DA
def t4(Y:Ev K mg):GO P w base Y.IG 2 ib :=
 fF (g6 Y.IG.F PJ #[2] (λBI A outer s H E hr=>by
  unfold gD;have nd:=PJ.nd;have:=oE (P:=P) (w:=w) (base:=base) Y;have:=cf (P:=P) (w:=w) (base:=base) Y
  walk_at "g")) sO
def Pr:ap ["_law_script", "_law_state", "_law_turn", "_law_net_here", "_law_tree", "_law_ties", "_law_again", "_law_names", "_law_left", "_law_paper", "#t"] ["_law_script"] (ak NI):=DA
def wX(Y:Ev K mg)(hB:BMain mg base):BD P w K mg base Cu 7 Y.IJ.f Y.IJ.fd ["_law_script"] (spT #[P,w,K,DE K] 1 (EO 10 (ic (Y.Bz,Y.Bu)))) :=
 fy (nm := "#t") Y.IJ.F Pr rfl #[2] rfl (by unfold Hq;decide +kernel) (λBI Ha A outer s H E hr=>by
  unfold ic;have nd:=Pr.nd;have:=mq (P:=P) (w:=w) (base:=base) Y;have:=t5 (P:=P) (w:=w) (base:=base) Y;have:=mS (P:=P) (w:=w) (base:=base) Y;have:=x6 (P:=P) (w:=w) (base:=base) Y;have:=t4 (P:=P) (w:=w) (base:=base) Y;have:=x5 (P:=P) (w:=w) (base:=base) Y;have:=oD (P:=P) (w:=w) (base:=base) Y hB;have:=pB (P:=P) (w:=w) (base:=base) Y;have:=iO (P:=P) (w:=w) (base:=base) Y hB;have:=iM (P:=P) (w:=w) (base:=base) Y
  walk_at "g")
def zp(Y:Ev K mg)(hB:BMain mg base):BD P w K mg base Cu 7 Y.IJ.f Y.IJ.fd ["_law_script"] (Fz K (Y.Bz,Y.Bu)):=xQ (wX Y hB) (xp _)
open PySem L2
variable{fd:abM}{ps:Aaa}
def Xw(us:Aae)(h:us.length=1)(k:∀a0,ada fd #[[a0],[]]=pure (ps.zip [a0])):ada fd #[us,[]]=pure (ps.zip us):=by obtain⟨a0,u0,rfl⟩:=aaI (h);obtain rfl:=List.length_eq_zero_iff.mp (abh (h));exact k a0
def ba2(us:Aae)(h:us.length=2)(k:∀a0 a1,ada fd #[[a0,a1],[]]=pure (ps.zip [a0,a1])):ada fd #[us,[]]=pure (ps.zip us):=by obtain⟨a0,u0,rfl⟩:=aaI (h);obtain⟨a1,u1,rfl⟩:=aaI (abh (h));obtain rfl:=List.length_eq_zero_iff.mp (abh (abh (h)));exact k a0 a1
def ba3(us:Aae)(h:us.length=3)(k:∀a0 a1 a2,ada fd #[[a0,a1,a2],[]]=pure (ps.zip [a0,a1,a2])):ada fd #[us,[]]=pure (ps.zip us):=by obtain⟨a0,u0,rfl⟩:=aaI (h);obtain⟨a1,u1,rfl⟩:=aaI (abh (h));obtain⟨a2,u2,rfl⟩:=aaI (abh (abh (h)));obtain rfl:=List.length_eq_zero_iff.mp (abh (abh (abh (h))));exact k a0 a1 a2
def ba4(us:Aae)(h:us.length=4)(k:∀a0 a1 a2 a3,ada fd #[[a0,a1,a2,a3],[]]=pure (ps.zip [a0,a1,a2,a3])):ada fd #[us,[]]=pure (ps.zip us):=by obtain⟨a0,u0,rfl⟩:=aaI (h);obtain⟨a1,u1,rfl⟩:=aaI (abh (h));obtain⟨a2,u2,rfl⟩:=aaI (abh (abh (h)));obtain⟨a3,u3,rfl⟩:=aaI (abh (abh (abh (h))));obtain rfl:=List.length_eq_zero_iff.mp (abh (abh (abh (abh (h)))));exact k a0 a1 a2 a3
structure BY(K:aaf)(x:Str)(st:Stmt) where
 {f:Addr}
 {od an:Option Addr}
 {sl:Array (Option Value)}
 {oc kV dc pm cd ct:Value}
 a:abu K aaR x=some (some (.ref f))
 l:K.lookup f=some #[oc,od,.func (acV x x (cY st) (aP st) (ak st) .none kV dc pm an cd ct),sl]
 c:ael K cd x=true
 k:abN K (.ref f)=true
variable{K:aaf}{mg:Aag}{x:Str}{st:Stmt}
noncomputable def BX{h:Heap}(X:K.In h)(G:h.Ns aaR mg)(d:BY K x st)
  (hb:autoParam (∀(kV doc pm:Value) (an:Option Addr) (BI ct:Value) (us:Aae),us.length=ps.length->ada (acV x x (cY st) (aP st) (ak st) .none kV doc pm an BI ct) #[us,[]]=pure (ps.zip us)) Do):Df K mg x st ps :=
 #[d.f,_,t6 d.l d.c d.k,(t6 d.l d.c d.k).binds hb,PySem.W.mg_of X G d.a,d.k]
def AU{l:afq}{w:World}{h:Heap}{fa c1 T1 c2 T2:Addr}{XO:Tok}(X:K.In h)(G:h.Ns aaR mg)(Y8:mg "law" = some (.ref fa))
  (d1:BY K "is_word" kR) (d2:BY K "is_rising" gK) (d3:BY K "are_words" gP) (d4:BY K "is_open" kU) (d5:BY K "ties_by_name" eD) (d6:BY K "open_ties" gJ) (d7:BY K "ranks" Ij) (d8:BY K "cheaper" jo) (d9:BY K "cheapest_of" eG) (d10:BY K "out_of" Ik) (d11:BY K "neighbours" eF) (d12:BY K "came_by" la) (d13:BY K "reached" jn) (d14:BY K "pieces" kQ) (d15:BY K "only" J9) (d16:BY K "is_forest" gM) (d17:BY K "is_tree" kT) (d18:BY K "cost_of" kZ) (d19:BY K "way" ND) (Xs:BY K "cheaper_first" cK) (d21:BY K "without_round" cJ) (Z9:BY K "cheapest" gO) (Z8:BY K "ways_in" kO) (Z7:BY K "is_pair_of" gL) (Z6:BY K "are_pairs_of" eI) (Z5:BY K "shows_by_ways" dk) (Z4:BY K "is_cut" Il) (Z3:BY K "shows_by_cuts" dm) (Z2:BY K "_law_begin" G4) (Z1:BY K "_law_next" Jb) (ZZ:BY K "_law_words" Ih) (ZY:BY K "_law_ends" Kc) (ZX:BY K "_law_cost" Kd) (ZW:BY K "_law_net" NH) (ZV:BY K "_law_open" J8) (ZU:BY K "_law_came" Ke) (ZT:BY K "_law_way" J7) (ZS:BY K "_law_exchanged" fR) (ZR:BY K "_law_sides" Ii) (Tq:BY K "law" NI) (hcd1:d9.cd=.ref c1) (hC1:abq K c1 T1=true) (hcd2:Xs.cd=.ref c2) (hC2:abq K c2 T2=true)
  (z1:abu K aaR "abs" = some none) (z2:abu K aaR "all" = some none) (z3:abu K aaR "enumerate" = some none) (z4:abu K aaR "int" = some none) (z5:abu K aaR "isinstance" = some none) (z6:abu K aaR "len" = some none) (z7:abu K aaR "list" = some none) (z8:abu K aaR "max" = some none) (z9:abu K aaR "min" = some none) (z10:abu K aaR "range" = some none) (z11:abu K aaR "set" = some none) (z12:abu K aaR "sorted" = some none) (z13:abu K aaR "str" = some none) (z14:abu K aaR "sum" = some none) (z15:abu K aaR "tuple" = some none) (z16:abu K aaR "zip" = some none) (q1:abu K aaR "LONGEST_WORD" = some (some (.int 8 XO))) :
  ∃fd:abM,(∀(s:Shared) (v:Value),BindsTo s fd #[[v],[]] [("_law_script",v)])/\(∀T∈[T1,T2],∃c,abq K c T=true)/\∀base:Heap,K.In base->base.Ns aaR mg->BMain mg base->BD l.prog w K mg base Cu 7 fa fd ["_law_script"] (Q.Fz K (T1,T2)):=by
 obtain⟨V,_,v,XJ,XI⟩:∃V:Ev K mg,∃hb,V.IJ=BX X G Tq hb/\V.Bz=T1/\V.Bu=T2:=#[{He:=BX X G d1,EW:=BX X G d2,E1:=BX X G d3,Hg:=BX X G d4,DT:=BX X G d5,EV:=BX X G d6,IH:=BX X G d7,FW:=BX X G d8,C2:=BX X G d9,II:=BX X G d10,DU:=BX X G d11,Hi:=BX X G d12,FV:=BX X G d13,Hd:=BX X G d14,KN:=BX X G d15,EY:=BX X G d16,Hf:=BX X G d17,Hh:=BX X G d18,Ox:=BX X G d19,Cy:=BX X G Xs,C7:=BX X G d21,EZ:=BX X G Z9,Hc:=BX X G Z8,EX:=BX X G Z7,DV:=BX X G Z6,Dw:=BX X G Z5,IK:=BX X G Z4,Dx:=BX X G Z3,Es:=BX X G Z2,Jk:=BX X G Z1,EU:=BX X G ZZ,KO:=BX X G ZY,KP:=BX X G ZX,Oy:=BX X G ZW,GS:=BX X G ZV,KQ:=BX X G ZU,KL:=BX X G ZT,Er:=BX X G ZS,IG:=BX X G ZR,IJ:=BX X G Tq,M7:=aaW X G z1,M6:=aaW X G z2,Fe:=aaW X G z3,Ld:=aaW X G z4,Dy:=aaW X G z5,Lc:=aaW X G z6,La:=aaW X G z7,Sa:=aaW X G z8,M5:=aaW X G z9,Jl:=aaW X G z10,K0:=aaW X G z11,DY:=aaW X G z12,M4:=aaW X G z13,M3:=aaW X G z14,Hk:=aaW X G z15,MZ:=aaW X G z16,DX:=#[_,PySem.W.mg_of X G q1],Bz:=T1,Ef:=#[c1,hcd1,hC1],Bu:=T2,DB:=#[c2,hcd2,hC2]},λ_ _ _ _ _ _ us hl=>Xw us hl λ_=>rfl,rfl,rfl,rfl]
 have g:=λbase hB=>zp (P:=l.prog) (w:=w) (base:=base) V hB;rw[v,XJ,XI]at g;have e:=Y8.symm.trans (PySem.W.mg_of X G Tq.a);obtain rfl:fa=Tq.f:=by injection e with e;injection e
 exact#[_,λs v=>.of_eq rfl,List.forall_mem_cons.mpr #[#[c1,hC1],List.forall_mem_cons.mpr #[#[c2,hC2],λ_ z=>nomatch z]],λbase _ _=>g base]
def walk{l:afq}{q:aaD}{loose:Aaa}{XP:(Str->Option Value)->Heap->Prop}{YP:World->Heap->Prop}{d:DefRec}{K:Params->aaf}{T1 T2:Addr}(hn:l.most=some 63)(RI:d.params.defaults=[])
  (hY:∀(w:World) (h:Heap),YP w h->(K w.params).In h/\∀T∈[T1,T2],h.get? T=some (adG #v[])) (hK1:∀w:World,(K w.params).lookup T1=none) (hK2:∀w:World,(K w.params).lookup T2=none) (hne:(T1==T2)=false)
  (F:∀(w:World) (mg:Aag) (fa:Addr) (h:Heap),(K w.params).In h->h.Ns aaR mg->mg d.name=some (.ref fa) ->
   ∃fd:abM,(∀(s:Shared) (u:Value),BindsTo s fd #[[u],[]] [("_law_script",u)])/\(∀T∈[T1,T2],∃c,abq (K w.params) c T=true)/\∀base:Heap,(K w.params).In base->base.Ns aaR mg->BMain mg base->BD l.prog w (K w.params) mg base Cu 7 fa fd ["_law_script"] (Q.Fz (K w.params) (T1,T2))) :
  PySem.W.WalkO q loose XP YP l.row.toRowW d [] (λf vs=>PySem.call f vs) :=
 L2.rX (n:=63) (k:=7) (x := "_law_script") (sp:=λw=>Q.Fz (K w.params) (T1,T2)) hn #[2] RI #[rfl,#[2],#[2],rfl] hY (λw=>List.forall_mem_cons.mpr #[hK1 w,List.forall_mem_cons.mpr #[hK2 w,λ_ z=>nomatch z]]) F λw H a ns hl hS hT=>#[a,ns,rfl,hS,hl,ne_of_beq_false hne,hT _ (aan ..),hT _ (aam _ (aan ..)),λH' e1 e2=>#[rfl,List.forall_mem_cons.mpr #[e1,List.forall_mem_cons.mpr #[e2,λ_ z=>nomatch z]]]]
end Pre
open PySem PySem.W PyProof.Rows
set_option maxRecDepth 100000 in
set_option maxHeartbeats 0 in
theorem PySem.Challenge.cw_cheaptree_k26_whole_no_other_is_shown_holds : PySem.Challenge.rw_cheaptree_k26_whole_no_other_is_shown.Holds := by
 w_on; o_law; km_head; (case hw=>w_witness2)
 k_fill
 refine Pre.walk (l:=PySem.Challenge.rw_cheaptree_k26_whole_no_other_is_shown) rfl rfl (fun w h Y=>#[PySem.W.km_in_of Y,List.forall_mem_cons.mpr #[PySem.W.km_tabs_of Y _ (List.mem_cons_self ..),List.forall_mem_cons.mpr #[PySem.W.km_tabs_of Y _ (List.mem_cons_of_mem _ (List.mem_cons_self ..)),fun _ z=>nomatch z]]]) ?hK1 ?hK2 ?hne ?F
 case F =>
  intro w mg fa h KX G hmg
  refine' Pre.AU KX G hmg #[?a1,?l1,?c1,?k1] #[?a2,?l2,?c2,?k2] #[?a3,?l3,?c3,?k3] #[?a4,?l4,?c4,?k4] #[?a5,?l5,?c5,?k5] #[?a6,?l6,?c6,?k6] #[?a7,?l7,?c7,?k7] #[?a8,?l8,?c8,?k8] #[?a9,?l9,?c9,?k9] #[?a10,?l10,?c10,?k10] #[?a11,?l11,?c11,?k11] #[?a12,?l12,?c12,?k12] #[?a13,?l13,?c13,?k13] #[?a14,?l14,?c14,?k14] #[?a15,?l15,?c15,?k15] #[?a16,?l16,?c16,?k16] #[?a17,?l17,?c17,?k17] #[?a18,?l18,?c18,?k18] #[?a19,?l19,?c19,?k19] #[?a20,?l20,?c20,?k20] #[?a21,?l21,?c21,?k21] #[?a22,?l22,?c22,?k22] #[?a23,?l23,?c23,?k23] #[?a24,?l24,?c24,?k24] #[?a25,?l25,?c25,?k25] #[?a26,?l26,?c26,?k26] #[?a27,?l27,?c27,?k27] #[?a28,?l28,?c28,?k28] #[?a29,?l29,?c29,?k29] #[?a30,?l30,?c30,?k30] #[?a31,?l31,?c31,?k31] #[?a32,?l32,?c32,?k32] #[?a33,?l33,?c33,?k33] #[?a34,?l34,?c34,?k34] #[?a35,?l35,?c35,?k35] #[?a36,?l36,?c36,?k36] #[?a37,?l37,?c37,?k37] #[?a38,?l38,?c38,?k38] #[?a39,?l39,?c39,?k39] #[?a40,?l40,?c40,?k40] ?hcd1 ?hC1 ?hcd2 ?hC2 ?z1 ?z2 ?z3 ?z4 ?z5 ?z6 ?z7 ?z8 ?z9 ?z10 ?z11 ?z12 ?z13 ?z14 ?z15 ?z16 ?q1
  case a1 | l1 | c1 | k1 | a2 | l2 | c2 | k2 | a3 | l3 | c3 | k3 | a4 | l4 | c4 | k4 | a5 | l5 | c5 | k5 | a6 | l6 | c6 | k6 | a7 | l7 | c7 | k7 | a8 | l8 | c8 | k8 | a9 | l9 | c9 | k9 | a10 | l10 | c10 | k10 | a11 | l11 | c11 | k11 | a12 | l12 | c12 | k12 | a13 | l13 | c13 | k13 | a14 | l14 | c14 | k14 | a15 | l15 | c15 | k15 | a16 | l16 | c16 | k16 | a17 | l17 | c17 | k17 | a18 | l18 | c18 | k18 | a19 | l19 | c19 | k19 | a20 | l20 | c20 | k20 | a21 | l21 | c21 | k21 | a22 | l22 | c22 | k22 | a23 | l23 | c23 | k23 | a24 | l24 | c24 | k24 | a25 | l25 | c25 | k25 | a26 | l26 | c26 | k26 | a27 | l27 | c27 | k27 | a28 | l28 | c28 | k28 | a29 | l29 | c29 | k29 | a30 | l30 | c30 | k30 | a31 | l31 | c31 | k31 | a32 | l32 | c32 | k32 | a33 | l33 | c33 | k33 | a34 | l34 | c34 | k34 | a35 | l35 | c35 | k35 | a36 | l36 | c36 | k36 | a37 | l37 | c37 | k37 | a38 | l38 | c38 | k38 | a39 | l39 | c39 | k39 | a40 | l40 | c40 | k40 | z1 | z2 | z3 | z4 | z5 | z6 | z7 | z8 | z9 | z10 | z11 | z12 | z13 | z14 | z15 | z16 | q1=>k_is
  (case hcd1=>exact rfl); (case hC1=>kernel_rfl); (case hcd2=>exact rfl); (case hC2=>kernel_rfl)
 case hK1=>(intro w; kernel_rfl)
 case hK2=>(intro w; kernel_rfl)
 case hne=>rfl
