import PyProof.Rows.All
import Wide.All
import OpenK.AllK
import Wide.FinOn
import Lean
import PyProof.EqAt
import PyProof.EqKinds
import PyProof.TupleCall
import KE.KDictOf
import KE.KDictSum
import KE.KIntText
import KE.KLam
import KE.KMinBuiltin
import KE.KNestM
import KE.KPairComp
import KE.KSortKey
import KE.KSortTup
import KE.KTab
import KE.LcSums
import PyProof.AttrMissHeap
import PyProof.Conv_int_bool
import PyProof.DictValues
import PyProof.Draws
import PyProof.EnumFor
import PyProof.EnumMake
import PyProof.EnumStmt
import PyProof.FactsAll.list_1
import PyProof.ListStr
import PyProof.MeetsStr2
import PyProof.NeKinds
import PyProof.ReprLen
import PyProof.ReprRoads
import PyProof.Rows.EnumRows
import PyProof.Rows.SetFrom
import PyProof.Rows.SortRev
import PyProof.Rows.StrBin
import PyProof.Rows.TupAdd
import PyProof.SetRoads
import PyProof.StrBlockG
import PyProof.StrBlockI
import PyProof.StrLawsChain
import PyProof.StrLawsIn
import PyProof.StrLawsRepr
import PyProof.StrLawsTight
import PyProof.StrWalks
import PyProof.WalksMore
import PyProof.ZipIter
import PySem.Challenge.RW_cheaptree_k23_shown_by_ways
local macro_rules|`(#v[$a,*])=>`(List.toArray [$a,*])
local macro_rules|`(#[$a,*])=>`(⟨$a,*⟩)
local macro_rules|`(#[])=>`(by omega)
local macro_rules|`(#[0])=>`(by simp)
local macro_rules|`(#[1])=>`(by simp_all)
local macro_rules|`(#[2])=>`(by decide)
local macro_rules|`(#[3])=>`(by simp;omega)
local macro_rules|`(#[4])=>`(by rfl)
set_option hygiene false
local macro_rules|`(#[5])=>`((lT X scope N C s0 H0 ex pn))
local macro_rules|`(#[6])=>`((model X.prog X.w))
local macro_rules|`(#[7])=>`((∀x bY v F' H',P x bY->dO F F'->rW (md ob X) Z F' U H' bY->Rep X.K F' v x->Q v H'))
local macro_rules|`(#[8])=>`((aal (e::es) X.env=(false,eval e X.env)::aal es X.env))
local macro_rules|`(#[9])=>`((model prog w))
local macro_rules|`(#[10])=>`((.ListComp elt [#[tg,iter,[],0],#[De,Bf,[],0]] scope pos))
local macro_rules|`(#[11])=>`(((backTo pos (aal es X.env)).any (·.1)=false))
local macro_rules|`(#[12])=>`(((x==("__debug__" : Str))=false))
local macro_rules|`(#[13])=>`((lE iD (eV 0) (eC (.int 0))))
local macro_rules|`(#[14])=>`((md ob X))
noncomputable section
local macro_rules|`(tactic|omega)=>`(tactic|first|lia (config:={})|omega (config:={}))
set_option hygiene true
set_option compiler.extract_closed false
set_option Elab.async false
set_option linter.all false
set_option maxRecDepth 100000
open PySem renaming wpAny_bind->aaa,wpAny_pure->aae,starEach->aal,foldedSetIterable->aaB,Program->aaC,sizeLine_eq->aaJ,wpAny_call_entry->aaT,mainGlobals->aaV,wpAny_holding->aaX,wpAny_newObj_type->aaZ,compareOp->aa1,wpAny_callSpecial?_slot->aa4,wpAny_mono->aa5,wpAny_field->abf,wpAny_seqItems->abw,codeAny_builtin->abK,FuncData->abL,attributeBase->abT,wpAny_setField->ab0,wpAny_truthy_bool->ab2,swapsWith->ab3,mem_of_lookup->ab4,wpAny_pyIter_tuple->ab9,bootBuiltins->aca,binaryOp->acg,wpAny_pyIter_list->ach,wpAny_loadPart'->aci,wpAny_typeOf->acn,wpAny_standAt->aco,wpAny_askSetting->acs,wpAny_rule->act,assignEach->acu,wpAny_setField_rec->acy,wpAny_passesOwn->acz,wpAny_setState_of->acF,sysModules->acG,plainId_quiet->acH,codeAny->acK,wpAny_setEntries_of->acN,Builtin->acP,codeAny_mono->acQ,slot_listiter_next->acR,wpAny_newList->acV,letOwnedTupleGo->acW,bindArgs->adm,behindInMarks->adn,sliceBounds->ado,holding->adp,Keyword->adv,wpAny_Call_Name_kw->adA,tupleKind_room_in1->adB,getattributeRaised->adC,NameKind->adD,getItem->adH,wpAny_pyIter_slot->adL,wpAny_pyIter_enum->adM,call_meets->adN,swapsWithSole->adT,swappedStores->adU,strIterType->adV,keywordEach->adX,SetTable->adY,wpAny_isInstance->ad4,wpAny_execs_nil->aeb,standAt->aec,codeAny_of_tree->aed,strKind_is->aem,relayAll->aen,wpAny_updateSeq_pair->aeo,wpAny_fieldsOf->aep,wpAny_dictSet_pairs->aet,wpAny_onRaise->aeC,wpAny_attempt->aeD,pickOrder->aeE,comprehension->aeF,strKind->aeI,wpAny_sequenceKey->aeQ,wpAny_assign_Name->aeR,typeLookup->aeS,fits_of_scanBound->aeT,wpAny_eqBool_str->ae9,noFill_tuple_add->afa,getAttr?->afg,compPost->afh,backToKw->afi,wpAny_of_eq->afl,valueAt->afm,tupleKind->afo,subscripted->afp,seqIndex?->afq,callerA->afu,wpAny_letOwnedTupleGo_enum->afG,wpAny_runValue->afK,wpAny_newTuple->afL,isSubtype_stop->afM,entry_listiter_next->afN
open List renaming getElem?_eq_getElem->aab,length_map->aad,getElem?_map->aaj,size_toArray->aak,getElem?_eq_none->aam,length_append->aan,mem_cons_of_mem->aaq,getElem?_append_left->aat,getD_eq_getElem?_getD->aau,map_cons->aaw,map_map->aax,length_cons->aay,mem_cons_self->aaz,mem_of_getElem?->aaA,getElem?_set_ne->aaD,getElem?_zip_eq_some->aaF,mem_append_right->aaH,exists_cons_of_length_eq_add_one->aaI,nil_append->aaL,map_append->aaO,replicate->aaR,mem_cons->aaY,append_nil->aa0,take_length->aa2,range->aa3,not_mem_nil->aa7,getElem_mem->aa8,zip_cons_cons->abb,length_replicate->abd,length_filter_le->abe,mapM_cons->abh,getElem_inj->abk,length_nil->abl,mem_map_of_mem->abo,length_take->abp,getElem?_set->abq,mem_of_mem_take->abr,mem_append_left->abt,set_eq_of_length_le->abv,lookup_cons->abx,take_succ->abC,map_congr_left->abD,nodup_append->abH,all_eq_true->abN,filter_sublist->abQ,ext_getElem?->abR,append_assoc->abS,drop_eq_getElem_cons->abU,find?_cons->abX,nodup_iff_pairwise_ne->ab7,length_drop->ab8,pairwise_iff_getElem->acf,reverse_cons->acj,length_range->ack,filter_congr->acl,getElem?_range->acq,filterMap_cons->acr,drop_eq_nil_of_le->acx,mem_append->acB,length_zip->acC,length->acD,of_mem_zip->ac0,mem_filter->ac1,foldl_cons->ac2,filterMap_map->ac3,take_of_length_le->ac7,length_singleton->adf,all_map->adg,getElem_map->adi,mem_of_mem_drop->adk,getElem?_zipIdx->adl,replicate_succ->ads,nodup_cons->adt,getD->adu,length_eraseIdx_of_lt->ady,length_zipIdx->adE,filter_filter->adF,lt_irrefl->adJ,zip_nil_left->adQ,getElem?_cons_zero->ad0,nodup_range->ad7,filter_cons->ad8,length_pos_of_mem->aea,range_succ->aei,map_nil->aej,range'->aey,length_reverse->aez,getElem_of_mem->aeA,zip_nil_right->aeK,mem_singleton->aeL,map_take->aeM,map_drop->aeN,getElem_idxOf->aeO,pairwise_map->aeY,foldl_append->aeZ,eraseIdxIfInBounds_toArray->ae0,toArray->ae7,take_append_of_le_length->afd,nil_sublist->afe,mapM->afA,forIn_cons->afB,getElem?_append_right->afI,mem_of_find?_eq_some->afP,findIdx?_eq_none_iff->afQ,drop_zero->afR
open PySem.Heap renaming get?_push_of_some->aac,get?_push_size->aaf,lt_size->aah,size_push->aa9,get?_update_self->abn,SameBut->ab1,get?_update_ne->acO,get?_update_other->ac8,get?_push_ne->adS,ExtBut->ad1
open PySem.W renaming Frag->aag,mg_none_of->aaW,nsIn->abm,kia_one->abB,keepIn->abJ,fnOf->acS,kitOne->aeq,codeIn->aer,methodObj->aeU,kas_item->aff,kas_rev->afs,instObj->afx,OpenLaw->afy,lookIn->afO
open Nat renaming le_refl->aai,ne_of_lt->aap,zero_add->aaG,le_trans->aaK,lt_of_lt_of_le->aaP,lt_or_ge->aaS,zero_le->abg,ne_of_gt->abF,lt_succ_of_lt->abG,lt_irrefl->abY,add_assoc->abZ,le_succ->acA,add_comm->acT,lt_succ_self->adh,le_add_right->ad6,le_of_lt->ae6
open PySem.Str renaming ofString->aao
open Option.some renaming inj->aar,injEq->aeV
open Option renaming map_eq_some_iff->aas,getD_some->ad5,map_some->aeh,map->aeW,isSome_map->aeX
open Sum renaming inr->aav,inl->afv
open Array renaming length_toList->aaE,getElem?_toList->abI,getElem?_eq_getElem->abW,getElem?_eq_none->ada
open Bool renaming and_eq_true->aaM,false_ne_true->aaN,eq_iff_iff->aaQ,false_eq_true->abA,not_eq_true'->adc,not_false->adK,not_true->ad3,or_eq_true->ael,and_false->afT
open PySem.Builtin.SmallTypes renaming nextOf->aaU,ownedTupleIsFree->ab6,ownedTupleHandOut->aes
open PySem.Obj renaming data_mapFields->aa6,mapSeq->abE,isFreed_of_fields->acd,cls_mapFields->adb
open PySem.Value renaming ref->aba,type->abM,none->abP,str->aee,isStrOf_shape->aex
open PySem.Heap.SameBut renaming update->abi
open Nat.succ renaming inj->abj
open PySem.NameKind renaming free->abu,cell->acZ
open PyProof.Rows renaming slot_tuple_getitem->aby,callWith_type1->ab5,StrsAre->acp,entry_list_sort->adq,slot_list_sort->adG,args_list_sort->adI,listUpdate_at->adW,seqEpoch_at->aeu,entry_tuple_getitem->aev,boot_sorted->aew,AllBare->aeB,assignInOrder_cons->aeG,args_tuple_getitem->aeH,plain_sorted->ae3,entry_sorted->ae4,args_sorted1->ae5,tuples'->afn,kind_sorted->afr,get?_update_seq->aft
open Ne renaming symm->abz
open PySem.Expr renaming Compare->abO
open PySem.Builtin.Slice renaming slicePlaces->abV,sliceAdjust->afS
open PySem.SeqAt.EqAt renaming int_int->acb,str_str->acX,same->afw
open Int renaming emod_lt_of_pos->ace,emod_nonneg->acE,toNat_natCast->acI
open PySem.Builtin.Tuple renaming tupleExact->acm,tupleItemsOf->adz,tupleCompareSizes->ae2
open True renaming intro->acv
open PySem.SetTable renaming grown->acw,below->ade,standIn->afc
open PySem.F renaming slot_tuple_iterator_next->acJ,plainAttrs_list->acY,args_tuple_add_2->adP,entry_tuple_add->adZ,slot_tuple_add->ad9,type_list_pop->aef,slot_list_pop->aeg,slot_zip_next->aek,slot_str_ascii_iterator_iter->ae8,args_tuple_iterator_next_1->afj,entry_tuple_iterator_next->afE
open Classical renaming byContradiction->acL,propDecidable->ad2
open PySem.Calls renaming call_function_entry->acM,callWith_builtin->ac9,Name_function_global->afJ
open False renaming elim->acU
open ForInStep renaming yield->ac4
open PySem.Builtin.Str renaming occurrences->ac5,strSliceIndices->adw
open PySem.Builtin.Dict renaming updateFrom->ac6
open PySem.Txt renaming slice->adr
open PySem.Builtin.List renaming listExtendWith->adx
open PySem.SeqAt renaming EqAt->adO
open List.Sublist renaming refl->adR
open PySem.Paired renaming length->aeJ
open PySem.Data renaming cell->aeP,fields->afF
open List.Pairwise renaming nil->ae1
open PySem.StrLaws renaming strSliceIndices_plain->afb
open PySem.Builtin.Frozenset renaming updateFrom->afk
open PySem.PassesOwn renaming never->afz
open PyProof.Rows.IsTup renaming new->afC
open PySem.Heap.DictOf renaming new->afD
open PySem.SeqAt.RcNeAt renaming lists_lengths->afH
theorem Zq0(h:0=0:=by first|exact .inl rfl|exact .inr rfl|assumption):True:=trivial
namespace Zq0 end Zq0 open Zq0 renaming _auto_1->ge
theorem Zq1(h:0=0:=by decide):True:=trivial
namespace Zq1 end Zq1 open Zq1 renaming _auto_1->on
theorem Zq2(h:0=0:=by rfl):True:=trivial
namespace Zq2 end Zq2 open Zq2 renaming _auto_1->At
theorem Zq3(h:0=0:=by intro _;rfl):True:=trivial
namespace Zq3 end Zq3 open Zq3 renaming _auto_1->AT
theorem Zq4(h:0=0:=by with_unfolding_all rfl):True:=trivial
namespace Zq4 end Zq4 open Zq4 renaming _auto_1->A'
theorem Zq5(h:0=0:=by first|exact Or.inl rfl|exact Or.inr (Or.inl rfl)|exact Or.inr (Or.inr rfl)):True:=trivial
namespace Zq5 end Zq5 open Zq5 renaming _auto_1->BT
theorem Zq6(h:0=0:=by simp):True:=trivial
namespace Zq6 end Zq6 open Zq6 renaming _auto_1->B'
theorem Zq7(h:0=0:=by exact λ_ _=>rfl):True:=trivial
namespace Zq7 end Zq7 open Zq7 renaming _auto_1->Ch
theorem Zq8(h:0=0:=by intro _ _ _ _ _ _;rfl):True:=trivial
namespace Zq8 end Zq8 open Zq8 renaming _auto_1->Cl
theorem Zq9(h:0=0:=by decide +kernel):True:=trivial
namespace Zq9 end Zq9 open Zq9 renaming _auto_1->C'
theorem Zq10(h:0=0:=by exact pv _):True:=trivial
namespace Zq10 end Zq10 open Zq10 renaming _auto_1->Da
theorem Zq11(h:0=0:=by exact#[rfl,rfl,rfl,rfl,rfl,rfl,rfl,λ_=>rfl]):True:=trivial
namespace Zq11 end Zq11 open Zq11 renaming _auto_1->Db
theorem Zq12(h:0=0:=by (intro _ _ _ _ _ _ us hl;first|exact W8 us hl λ_=>rfl|exact Z5 us hl λ_ _=>rfl|exact Z4 us hl λ_ _ _=>rfl|exact Z3 us hl λ_ _ _ _=>rfl)):True:=trivial
namespace Zq12 end Zq12 open Zq12 renaming _auto_1->Do
namespace PySem.W.Fast
noncomputable def tw4433306755219578805:=()
noncomputable def tw16310263313273382524:=()
noncomputable def tw18121465270930292176:=()
noncomputable def tw562565116402034029:=()
noncomputable def tw757701516624594934:=()
noncomputable def tw2480365404933450772:=()
noncomputable def tw16427278967041753055:=()
noncomputable def tw2198403741906836411:=()
noncomputable def tw2280862594988710772:=()
noncomputable def tw11939389511921988741:=()
noncomputable def tw10105999983228183027:=()
noncomputable def tw6106884712480053126:=()
noncomputable def tw14251813261391572352:=()
noncomputable def tw10266907965724574026:=()
noncomputable def tw4935068464747560843:=()
noncomputable def tw10255455809584802198:=()
noncomputable def tw2640404398808499488:=()
noncomputable def tw12091665384482583087:=()
noncomputable def tw13034716170057412343:=()
noncomputable def tw2951742823287598170:=()
noncomputable def tw1740155854983538999:=()
noncomputable def tw2682514282168817363:=()
noncomputable def tw7216569541514022816:=()
noncomputable def tw5059978306762865538:=()
noncomputable def tw5573674897561012501:=()
noncomputable def tw7123611443932018974:=()
noncomputable def tw2203736186952583860:=()
noncomputable def tw4567489555752431321:=()
noncomputable def tw11144919719227885200:=()
noncomputable def tw14020634591355352519:=()
noncomputable def tw11784377481015259024:=()
noncomputable def tw7380531185346908175:=()
noncomputable def tw15254685048641468022:=()
noncomputable def tw10885026734272636421:=()
noncomputable def tw13344760043828696690:=()
noncomputable def tw5296700840127912921:=()
noncomputable def tw610361122905874797:=()
noncomputable def tw3601417086247865247:=()
noncomputable def tw14736245589071281005:=()
noncomputable def tw16523520649665603180:=()
noncomputable def tw13000742349097284135:=()
noncomputable def tw3508989221799725029:=()
noncomputable def tw9499217176509666120:=()
noncomputable def tw17118728091109588545:=()
noncomputable def tw16257673964870746461:=()
noncomputable def tw17251627339118937097:=()
noncomputable def tw9123310001389123336:=()
noncomputable def tw10202358626430460204:=()
noncomputable def tw3067853527136805275:=()
noncomputable def tw12730620553523967816:=()
noncomputable def tw6169868933309051789:=()
noncomputable def tw3609195667259641330:=()
noncomputable def tw5921773188321378957:=()
noncomputable def tw4326659200956130274:=()
noncomputable def tw18191521858304165021:=()
noncomputable def tw3260684267549697307:=()
noncomputable def tw6752139407943705203:=()
noncomputable def tw373855714027834481:=()
noncomputable def tw1936033146578482313:=()
noncomputable def tw4042133485266247333:=()
noncomputable def tw1002006851543835666:=()
noncomputable def tw12474825538752315060:=()
noncomputable def tw8048249601255183160:=()
noncomputable def tw12894703383629704431:=()
noncomputable def tw177142215287813715:=()
noncomputable def tw11294934387438941853:=()
noncomputable def tw12757420492342113443:=()
noncomputable def tw8508018900206327262:=()
noncomputable def tw16680445590018013553:=()
noncomputable def tw11330135755689011262:=()
noncomputable def tw8909748552330361909:=()
noncomputable def tw13025543658357044781:=()
noncomputable def tw12663358934289811966:=()
noncomputable def tw17076240534454482222:=()
noncomputable def tw6661744967655228160:=()
noncomputable def tw8880357407828220526:=()
noncomputable def tw10365985424563645076:=()
noncomputable def tw17275066324610114949:=()
noncomputable def tw17407971145729440760:=()
noncomputable def tw2411508934650308605:=()
noncomputable def tw310665508310281057:=()
noncomputable def tw13699146634855354944:=()
noncomputable def tw1219726967639800664:=()
noncomputable def tw5599022028602805043:=()
noncomputable def tw901751878333609988:=()
noncomputable def tw3826318633288760851:=()
noncomputable def tw9449997981434200689:=()
noncomputable def tw13135291004882250780:=()
noncomputable def tw10251638720437765828:=()
noncomputable def tw4875048237798629852:=()
noncomputable def tw7588921916507122817:=()
noncomputable def tw3300235148002420973:=()
noncomputable def tw13113810947773953341:=()
noncomputable def tw13450597010543325657:=()
noncomputable def tw12579516227319288041:=()
noncomputable def tw11020500454139681465:=()
noncomputable def tw16764287467341394884:=()
noncomputable def tw14018993251435579617:=()
noncomputable def tw13916019793833255008:=()
noncomputable def tw13756913241141831739:=()
noncomputable def tw17789676711239195859:=()
noncomputable def tw13013369800934080488:=()
noncomputable def tw11336384653347042708:=()
noncomputable def tw11193536554496847656:=()
noncomputable def tw17251654673381129947:=()
noncomputable def tw6479746701522454050:=()
noncomputable def tw17751190880469985640:=()
noncomputable def tw12697248043745086835:=()
noncomputable def tw366292663388087375:=()
noncomputable def tw16049996203427120347:=()
noncomputable def tw11138481313032447662:=()
noncomputable def tw15217934427519831328:=()
noncomputable def tw3264349980812882478:=()
noncomputable def tw10997064020192427445:=()
noncomputable def tw4776492376629434111:=()
noncomputable def tw3284898652703276204:=()
noncomputable def tw2278479851033224840:=()
noncomputable def tw3056815315769451694:=()
end PySem.W.Fast
def Z0:True:=trivial
namespace L2
open PySem PySem.Spec PyProof.Rows
abbrev _root_.Aav:=List (Str×Value)
abbrev _root_.Aar:=List Int
abbrev _root_.Aan:=List Nat
abbrev _root_.Aam:=Option Value->Shared->Prop
abbrev _root_.Aak:=Array Value
abbrev _root_.Aaj:=List Addr
abbrev _root_.Aai:=List Expr
abbrev _root_.Aaf:=Str->Option Value
abbrev _root_.Aae:=List (Option Nat)
abbrev _root_.Aad:=List Value
abbrev _root_.Aac:=List (Addr×Obj)
abbrev _root_.Aaa:=Value->Shared->Prop
abbrev _root_.A3:=List Str
abbrev Key:=Sum Int Str
abbrev _root_.Aas:=List Key
noncomputable def Gb:Key->Value->Bool
 |.inl k,v=>Value.isInt k v
 |.inr x,v=>Value.isStrOf x v
noncomputable def TB(w:World):Key->Int
 |.inl k=>hashInt k
 |.inr x=>hashStr w x
def aJ:∀{k:Key} {v:Value},Gb k v=true->(∃i t,k=afv i/\v=Value.int i t)\/(∃x t,k=aav x/\v=aee x t)
 |.inl i,v,h=>by obtain⟨t,e⟩:=Value.isInt_shape h;exact .inl #[i,t,rfl,e]
 |.inr x,v,h=>by obtain⟨t,e⟩:=aex h;exact .inr #[x,t,rfl,e]
def sB(i:Int)(t:Tok):Gb (.inl i) (.int i t)=true:=by simp[Gb,Value.isInt]
def sA(x:Str)(t:Tok):Gb (.inr x) (.str x t)=true:=by simp[Gb,Value.isStrOf]
def yW(a b:Int):decide ((afv a:Key)=afv b)=(a==b):=by
 by_cases e:a=b
 .subst e;simp
 .have h:¬ (afv a:Key)=afv b:=λq=>e (Sum.inl.inj q);rw[decide_eq_false h];exact(beq_eq_false_iff_ne.mpr e).symm
def yT(a b:Str):decide ((aav a:Key)=aav b)=decide (a=b):=by simp_all
def yV(a:Int)(b:Str):decide ((afv a:Key)=aav b)=false:=decide_eq_false (λq=>nomatch q)
def yU(a:Str)(b:Int):decide ((aav a:Key)=afv b)=false:=decide_eq_false (λq=>nomatch q)
noncomputable def ay(prog:aaC)(w:World):PySem.KeyKind prog w Key where
 is:=Gb
 hash:=TB w
 inj:=λv a b ha hb=>by
  rcases aJ ha with ⟨i,t,rfl,rfl⟩|⟨x,t,rfl,rfl⟩
  .rcases aJ hb with ⟨j,u,rfl,e⟩|⟨y,u,rfl,e⟩
   .injection e with e1 _;rw[e1]
   .exact nomatch e
  .rcases aJ hb with ⟨j,u,rfl,e⟩|⟨y,u,rfl,e⟩
   .exact nomatch e
   .injection e with e1 _;rw[e1]
 byValue:=λk v h=>by rcases aJ h with ⟨i,t,rfl,rfl⟩|⟨x,t,rfl,rfl⟩<;>rfl
 pyHash:=λhv h=>by
  rcases aJ hv with ⟨i,t,rfl,rfl⟩|⟨x,t,rfl,rfl⟩
  .exact wpAny_pyHash_int h
  .exact wpAny_pyHash_str h
 eqBool:=λhu hv h=>by
  rcases aJ hu with ⟨i,t,rfl,rfl⟩|⟨x,t,rfl,rfl⟩
  .rcases aJ hv with ⟨j,u,rfl,rfl⟩|⟨y,u,rfl,rfl⟩
   .rw[yW]at h;exact wpAny_eqBool_int h
   .rw[yV]at h;exact SeqAt.EqAt.int_str i t y u _ _ _ _ h
  .rcases aJ hv with ⟨j,u,rfl,rfl⟩|⟨y,u,rfl,rfl⟩
   .rw[yU]at h;exact SeqAt.EqAt.str_int x t j u _ _ _ _ h
   .rw[yT]at h;exact ae9 h
 «strs»:=λk x t v h=>by
  rcases aJ h with ⟨i,u,rfl,e⟩|⟨y,u,rfl,e⟩
  .exact nomatch e
  .injection e with e1 _;subst e1;cases v<;>rfl
def ou(prog:aaC)(w:World)(i:Int)(t:Tok):(ay prog w).is (.inl i) (.int i t)=true:=sB i t
def dW(prog:aaC)(w:World)(x:Str)(t:Tok):(ay prog w).is (.inr x) (.str x t)=true:=sA x t
inductive V where
 |AZ|bl (b:Bool)|int (i:Int)|str (x:Str)|Jh (b:Array UInt8)|OE (b:UInt64)|ref (a:Addr)|ty (n:String)
 deriving DecidableEq
abbrev _root_.Aau:=Option V
abbrev _root_.Aag:=List V
def RelV:V->Value->Prop
 |.AZ,u=>u=abP
 |.bl b,u=>u=Value.bool b
 |.int i,u=>∃t,u=Value.int i t
 |.str x,u=>∃t,u=aee x t
 |.Jh b,u=>∃t,u=Value.bytes b t
 |.OE b,u=>∃t,u=Value.float b t
 |.ref a,u=>u=aba a
 |.ty n,u=>u=abM n
abbrev oF:Aag->List Value->Prop:=Paired RelV
variable{xs:Aag}{us:Aad}
def oF.length(r:oF xs us):xs.length=us.length:=aeJ r
def oF.get:∀{xs:Aag} {us:Aad} {i:Nat} {x:V},oF xs us->xs[i]?=some x->∃u,us[i]?=some u/\RelV x u
 |_,_,_,_,.nil,e=>by simp_all
 |_,_,0,_,.cons r _,e=>by simp_all
 |_,_,i+1,x,.cons _ t,e=>by obtain⟨u,h1,h2⟩:=oF.get (i:=i) (x:=x) t #[1];exact#[u,#[1],h2]
variable{x:V}{u:Value}
def oF.set(r:RelV x u):∀{xs:Aag} {us:Aad} (i:Nat),oF xs us->oF (xs.set i x) (us.set i u)
 |_,_,_,.nil=>.nil
 |_,_,0,.cons _ t=>.cons r t
 |_,_,i+1,.cons q t=>.cons q (oF.set r i t)
def oF.append:∀{xs ys:Aag} {us ws:Aad},oF xs us->oF ys ws->oF (xs++ys) (us++ws)
 |_,_,_,_,.nil,s=>s
 |_,_,_,_,.cons r t,s=>.cons r (oF.append t s)
def oF.take:∀{xs:Aag} {us:Aad} (n:Nat),oF xs us->oF (xs.take n) (us.take n)
 |_,_,0,_=>.nil
 |_,_,_+1,.nil=>.nil
 |_,_,n+1,.cons r t=>.cons r (oF.take n t)
def oF.drop:∀{xs:Aag} {us:Aad} (n:Nat),oF xs us->oF (xs.drop n) (us.drop n)
 |_,_,0,r=>r
 |_,_,_+1,.nil=>.nil
 |_,_,n+1,.cons _ t=>oF.drop n t
def Fw:Aau->Option Value->Prop
 |some v,some u=>RelV v u
 |none,none=>True
 |_,_=>False
def KV{d:Type}:List (d×V)->List (d×Value)->Prop:=Paired λ(p:d×V) (q:d×Value)=>p.1=q.1/\RelV p.2 q.2
noncomputable def kV:Key->V
 |.inl i=>.int i
 |.inr x=>.str x
inductive HO where
 |lst (xs:Aag)
 |tup (xs:Aag)
 |dK (gE:List (Key×V))|dT (gE:List (Aas×V))
 |set (S:Int->Bool) (n:Nat)
 |ins (C dx:Addr) (fs:List (Str×V))
 |own (x:Addr)
 |xd (fs:List (Str×V))
 |met (f x:Addr)
 |R1 (lo hi:Int)
 |Dg (o:Obj) (u:HO)
 |LC (ps:Aak)
 |ext (W:Heap->Prop)
abbrev Hp:=Addr->Option HO
noncomputable def upd(H:Hp)(a:Addr)(o:HO):Hp:=λb=>if b=a then some o else H b
variable{H:Hp}{a:Addr}{o:HO}
def ah:upd H a o a=some o:=by unfold upd;rw[if_pos rfl]
variable{b:Addr}
def aj(h:b≠a):upd H a o b=H b:=by unfold upd;rw[if_neg h]
def vQ{u:HO}:upd (upd H a o) a u=upd H a u:=by funext b;unfold upd;split<;>rfl
def vD{u:HO}(h:H a=some o)(h':H b=some u)(d:o≠u):a≠b:=by intro e;subst e;rw[h]at h';exact d (aar h')
def av(h:H a=some o)(h':H b=none):a≠b:=by intro e;subst e;rw[h]at h';cases h'
variable(P:aaC)(w:World)
def Bm(H:Hp)(h:Heap)(a:Addr):HO->Prop
 |.lst xs=>xs.length<=sizeLine/\∃(eQ:Aad) (n:Nat),oF xs eQ/\h.get? a=some {cls:=.type "list",data:=.seq eQ.toArray n}
 |.tup xs=>xs.length<=sizeLine/\∃eQ:Aad,oF xs eQ/\IsTup h a eQ.toArray/\∃o,h.get? a=some o/\o.dict=none
 |.dK gE=>gE.length<=sizeLine/\(a==acG)=false/\∃vs,KV gE vs/\h.DictOf (ay P w) a vs
 |.dT gE=>gE.length<=sizeLine/\(a==acG)=false/\∃xs:List (Aas×Addr×Value),
   Paired (λ(p:Aas×V) (q:Aas×Addr×Value)=>p.1=q.1/\H q.2.1=some (.tup (p.1.map kV))/\RelV p.2 q.2.2) gE xs /\
   ∃o es ep,h.get? a=some o/\o.ExactDict/\o.data=.dict es ep/\es.toList=xs.map (entryOfKey (afo (ay P w)))/\(xs.map (·.1)).Nodup
 |.set S n=>h.SetOf (intKind P w) a S n
 |.ins C dx fs=>H dx=some (.own a)/\fs.length<=1000/\dx≠a/\h.get? a=some (afx C dx) /\
   ∃mA,h.Ns1 dx mA/\(∀f,Fw (fs.lookup f) (mA f))/\PySem.Within mA (fs.map (·.1))
 |.own _=>∃o,h.get? a=some o
 |.xd fs=>∃mA,h.Ns1 a mA/\∀f,Fw (fs.lookup f) (mA f)
 |.R1 lo hi=>∃t u v,h.get? a=some {cls:=.type "range",data:=.fields #v[.int lo t,.int hi u,.int 1 v]}
 |.Dg o u=>h.get? a=some o/\Bm H h a u
 |.LC ps=>h.get? a=some {cls:=.none,data:=.fields ps}
 |.met f x=>h.get? a=some (aeU (.ref f) (.ref x))
 |.ext W=>W h/\(∃o,h.get? a=some o)/\∀h1 h2:Heap,W h1->(∀o,h1.get? a=some o->h2.get? a=some o)->W h2
def DK(H:Hp)(h:Heap):Prop:=∀a o,H a=some o->Bm P w H h a o
variable{P:aaC}{w:World}{H':Hp}{h h':Heap}
def Bm.lt(x:Bm P w H h a o):a<h.objs.size:=by
 cases o with
 |lst xs=>obtain⟨_,_,_,_,e⟩:=x;exact aah e
 |tup xs=>obtain⟨_,_,_,p,_⟩:=x;exact p.lt
 |dK gE=>obtain⟨_,_,_,_,o,_,_,e,_⟩:=x;exact aah e
 |dT gE=>obtain⟨_,_,_,_,o,_,_,e,_⟩:=x;exact aah e
 |set S n=>obtain⟨o,_,_,_,e,_⟩:=x;exact aah e
 |ins C dx fs=>obtain⟨_,_,_,e,_⟩:=x;exact aah e
 |own y=>obtain⟨_,e⟩:=x;exact aah e
 |xd fs=>obtain⟨_,⟨_,_,_,e,_⟩,_⟩:=x;exact aah e
 |R1 lo hi=>obtain⟨_,_,_,e⟩:=x;exact aah e
 |Dg ob u=>obtain⟨e,_⟩:=x;exact aah e
 |LC ps=>exact aah (x)
 |met f y=>exact aah (x)
 |ext W=>obtain⟨_,⟨_,e⟩,_⟩:=x;exact aah e
variable{O:Type}
def Paired.Nb{w:Type}{F G:O->w->Prop}:∀{l₁:List O} {l₂:List w},Paired F l₁ l₂->(∀a b,F a b->G a b)->Paired G l₁ l₂
 |_,_,.nil,_=>.nil
 |_,_,.cons r t,f=>.cons (f _ _ r) (Paired.Nb t f)
def Bm.G7(x:Bm P w H h a o)(k:∀b u,(b=a\/H b=some (.own a))->h.get? b=some u->h'.get? b=some u)
  (ho:∀b,H b=some (.own a)->H' b=some (.own a)) (ht:∀b xs,H b=some (.tup xs)->H' b=some (.tup xs)):Bm P w H' h' a o:=by
 induction o with
 |lst xs=>obtain⟨z,eQ,n,r,e⟩:=x;exact#[z,eQ,n,r,k _ _ (.inl rfl) e]
 |tup xs=>obtain⟨z,eQ,r,⟨ob,e,c⟩,o2,e2,c2⟩:=x;exact#[z,eQ,r,#[ob,k _ _ (.inl rfl) e,c],o2,k _ _ (.inl rfl) e2,c2]
 |dK gE=>obtain⟨z,y,vs,r,ob,es,ep,e,c⟩:=x;exact#[z,y,vs,r,ob,es,ep,k _ _ (.inl rfl) e,c]
 |dT gE=>obtain⟨z,y,xs,r,ob,es,ep,e,c⟩:=x;exact#[z,y,xs,Paired.Nb r λp q z=>#[z.1,ht _ _ z.2.1,z.2.2],ob,es,ep,k _ _ (.inl rfl) e,c]
 |set S n=>obtain⟨ob,es,ep,t,e,c⟩:=x;exact#[ob,es,ep,t,k _ _ (.inl rfl) e,c]
 |ins C dx fs=>obtain⟨d,z,ne,e,mA,⟨od,es,ep,e2,c⟩,r⟩:=x;exact#[ho _ d,z,ne,k _ _ (.inl rfl) e,mA,#[od,es,ep,k _ _ (.inr d) e2,c],r]
 |own y=>obtain⟨ob,e⟩:=x;exact#[ob,k _ _ (.inl rfl) e]
 |xd fs=>obtain⟨mA,⟨od,es,ep,e,c⟩,r⟩:=x;exact#[mA,#[od,es,ep,k _ _ (.inl rfl) e,c],r]
 |R1 lo hi=>obtain⟨t,u,v,e⟩:=x;exact#[t,u,v,k _ _ (.inl rfl) e]
 |Dg ob u ih=>obtain⟨e,q⟩:=x;exact#[k _ _ (.inl rfl) e,ih q]
 |LC ps=>have e:h.get? a=some {cls:=.none,data:=.fields ps}:=x;show h'.get? a=some {cls:=.none,data:=.fields ps};exact k a _ (.inl rfl) e
 |met f y=>have e:h.get? a=some (aeU (.ref f) (.ref y)):=x;show h'.get? a=some (aeU (.ref f) (.ref y));exact k a _ (.inl rfl) e
 |ext W=>obtain⟨p,⟨o,e⟩,st⟩:=x;exact#[st _ _ p λo q=>k _ _ (.inl rfl) q,#[o,k _ _ (.inl rfl) e],st]
def DK.lt(x:DK P w H h)(e:H a=some o):a<h.objs.size:=(x a o e).lt
def DK.fresh(x:DK P w H h)(e:h.objs.size<=a):H a=none:=by
 cases q:H a with
 |none=>rfl
 |some u=>exact absurd (aaP (x.lt q) e) (abY _)
def DK.kept(x:DK P w H h)(k:∀b u,h.get? b=some u->h'.get? b=some u):DK P w H h':=λa o e=>(x a o e).G7 (λb u _ q=>k b u q) (λ_ q=>q) λ_ _ q=>q
def DK.laid(x:DK P w H h)(k:∀b u,h.get? b=some u->h'.get? b=some u)(hp:h.objs.size<=a)(new:Bm P w (upd H a o) h' a o):DK P w (upd H a o) h':=λb u e=>by
 have hn:=x.fresh hp;by_cases hb:b=a
 .subst hb;rw[ah]at e;cases e;exact new
 .rw[aj hb]at e;exact(x b u e).G7 (λc v _ q=>k c v q) (λc q=>by rw[aj (av q hn)];exact q) λc xs q=>by rw[aj (av q hn)];exact q
def Rd(H:Hp)(a:Addr)(u:HO):Prop:=H a=some u\/∃o,H a=some (.Dg o u)
def Rd.ok{u:HO}(r:Rd H a u)(x:DK P w H h):Bm P w H h a u:=by
 rcases r with r|⟨o,r⟩
 .exact x a u r
 .obtain⟨_,q⟩:=x a _ r;exact q
def RI:Option HO->Prop
 |some (.lst _)=>True
 |some (.dK _)=>True
 |some (.dT _)=>True
 |some (.set _ _)=>True
 |some (.ins _ _ _)=>True
 |some (.ext _)=>True
 |_=>False
variable{x e:Addr}{o':HO}
def DK.write(ok:DK P w H h)(mu:RI (H x))(he:e=x\/H e=some (.own x))(k:∀b u,b≠e->h.get? b=some u->h'.get? b=some u)(Oz:∃u,h'.get? e=some u)
  (new:Bm P w (upd H x o') h' x o'):DK P w (upd H x o') h':=λb u q=>by
 have Qk:∀c y,H c=some (.own y)->c≠x:=λc y r z=>by subst z;rw[r]at mu;exact mu
 have Tj:∀c xs,H c=some (.tup xs)->c≠x:=λc xs r z=>by subst z;rw[r]at mu;exact mu
 by_cases hb:b=x
 .subst hb;rw[ah]at q;cases q;exact new
 .rw[aj hb]at q;by_cases Js:b=e
  .have q':H b=some (.own x):=by simp_all
   rw[q]at q';cases q';obtain⟨v,hv⟩:=Oz;exact#[v,#[1]]
  .refine(ok b u q).G7 (λc v hc r=>k c v ?_ r) (λc r=>by rw[aj (Qk c b r)];exact r) λc xs r=>by rw[aj (Tj c xs r)];exact r
   rcases hc with rfl|hc
   .exact Js
   .rintro rfl;rcases he with z|z
    .exact Qk c b hc z
    .rw[hc]at z;cases z;exact hb rfl
structure Un(fs ex:Aaj)(H H':Hp)(h h':Heap):Prop where
 keep:∀b o,h.get? b=some o->H b=none->b∉fs->b∉ex->h'.get? b=some o
 slot:∀b o,h.get? b=some o->H b=none->b∈fs->b∉ex->∃sl,h'.get? b=some {o with slots:=sl}
 free:∀b o,h.get? b=some o->H b=none->b∉ex->H' b=none
 there:∀b o,h.get? b=some o->b∉ex->∃o',h'.get? b=some o'
 FF:∀b xs,H b=some (.tup xs)->H' b=some (.tup xs)
 GG:∀b o u,H b=some (.Dg o u)->H' b=some (.Dg o u)
 G5:∀b ps,H b=some (.LC ps)->∃more,H' b=some (.LC (ps++more))
section
variable{fs Zj ex ex':Aaj}{H1 H2:Hp}{h1 h2:Heap}
def Un.any(u:Un fs ex H H1 h h1){ob:Obj}(q:h.get? b=some ob)(n:H b=none)(hx:b∉ex):∃sl,h1.get? b=some {ob with slots:=sl}:=by
 by_cases hb:b∈fs
 .exact u.slot b ob q n hb hx
 .exact#[ob.slots,u.keep b ob q n hb hx]
def Un.kept(k:∀b u,h.get? b=some u->h'.get? b=some u):Un fs ex H H h h' :=
 #[λb ob q _ _ _=>k b ob q,λb ob q _ _ _=>#[ob.slots,k b ob q],λ_ _ _ n _=>n,λb ob q _=>#[ob,k b ob q],λ_ _ q=>q,λ_ _ _ q=>q,λ_ ps q=>#[#v[],#[1]]]
def Un.refl:Un fs ex H H h h:=Un.kept λ_ _ q=>q
def Un.laid(k:∀b u,h.get? b=some u->h'.get? b=some u)(hp:h.objs.size<=a)(hn:H a=none):Un fs ex H (upd H a o) h h' where
 keep:=λb u q _ _ _=>k b u q
 slot:=λb u q _ _ _=>#[u.slots,k b u q]
 free:=λb u q n _=>by rw[aj (aap (aaP (aah q) hp))];exact n
 there:=λb u q _=>#[u,k b u q]
 FF:=λb xs q=>by rw[aj (av q hn)];exact q
 GG:=λb u xs q=>by rw[aj (av q hn)];exact q
 G5:=λb ps q=>#[#v[],by rw[aj (av q hn),q];simp]
def Un.write(mu:RI (H x))(he:e=x\/H e=some (.own x))(k:∀b u,b≠e->h.get? b=some u->h'.get? b=some u)(Oz:∃u,h'.get? e=some u):Un fs ex H (upd H x o) h h':=by
 have hx:∀b,H b=none->b≠x:=λb n z=>by subst z;rw[n]at mu;exact mu
 have hb:∀b,H b=none->b≠e:=λb n z=>by simp_all
 have hm:∀b u,H b=some u->¬ RI (some u)->b≠x:=λb u q nm z=>by simp_all
 refine#[λb u q n _ _=>k b u (hb b n) q,λb u q n _ _=>#[u.slots,k b u (hb b n) q],λb u q n _=>by rw[aj (hx b n)];exact n,λb u q _=>?_,
  λb xs q=>by rw[aj (hm b _ q λz=>z)];exact q,λb u xs q=>by rw[aj (hm b _ q λz=>z)];exact q,λb ps q=>#[#v[],by rw[aj (hm b _ q λz=>z),q];simp]]
 by_cases Js:b=e
 .subst Js;exact Oz
 .exact#[u,k b u Js q]
end
noncomputable def VP(h:Heap)(H:Hp):Aaj:=(aa3 h.objs.size).filter λa=>(H a).isSome
noncomputable def GF(h:Heap)(H:Hp):Heap:=PySem.W.hideAll h (VP h H)
def sJ(h:Heap)(H:Hp):(GF h H).objs.size=h.objs.size:=PySem.W.hideAll_size _ _
def uN{o:Obj}(e:h.get? b=some o)(n:H b=none):(GF h H).get? b=some o :=
 PySem.W.hideAll_get _ e λhm=>by have q  := (List.mem_filter.mp hm).2;rw[n]at q;simp at q
def wS{o:Obj}(e:(GF h H).get? b=some o):h.get? b=some o/\H b=none:=by
 have e'  := PySem.W.of_hideAll _ e;refine#[e',?_];cases q:H b with
 |none=>rfl
 |some x=>have hm:b∈VP h H:=List.mem_filter.mpr #[List.mem_range.mpr (aah e'),#[1]];have z:(GF h H).get? b=none:=PySem.W.hideAll_none _ hm;rw[z]at e;cases e
noncomputable def ib(g h:Heap)(L:Addr):Aac:=(aa3 h.objs.size).filterMap λa=>if a=L\/(g.get? a).isSome=true then none else (h.get? a).map λo=>(a,o)
variable{g:Heap}{L:Addr}
def dX{o:Obj}(h1:a≠L)(h2:g.get? a=none)(h3:h.get? a=some o):(a,o)∈ib g h L :=
 List.mem_filterMap.mpr #[a,List.mem_range.mpr (aah h3),#[1]]
def ku{p:Addr×Obj}(hp:p∈ib g h L):p.1≠L/\g.get? p.1=none/\h.get? p.1=some p.2:=by
 obtain⟨b,_,e⟩:=List.mem_filterMap.mp hp;split at e
 .cases e
 .rename_i hn;cases q:h.get? b with
  |none=>rw[q]at e;simp at e
  |some u=>
   rw[q]at e;simp only[aeh,aeV]at e;subst e;refine#[λz=>hn (.inl z),?_,q];cases r:g.get? b with
   |none=>rfl
   |some v=>exact(hn (.inr #[1])).elim
def i5:News g L h (ib g h L):=λp hp=>let #[a,b,c]:=ku hp;#[c,a,b]
structure Mod(K:aag)(mg:Aaf)(base:Heap):Prop where
 kin:K.In base
 glob:base.Ns aaV mg
 blt:∃mb,base.Ns builtinsNs mb/\∀x:Str,x ≠ "__name__" -> mb x=aca x
 nolimit:base.NoLimit
structure Cx where
 prog:aaC
 w:World
 K:aag
 mg:Str->Option Value
 base:Heap
 A:Around
 N:List Str
 s0:Shared
 H0:Hp
 env:Env
 outer:List Env
 stack:List Env
 ex:List Addr
 fn:Str->Bool
 calm:Bool
 pn:List (Addr×Obj)
 xe:Value->Shared->Prop
noncomputable def J7(l:List Env):Aaj:=l.filterMap (·.frame)
noncomputable abbrev Cx.fs(X:Cx):Aaj:=J7 X.outer
def OH(sc:Scope)(x:Str):Prop:=sc.names.lookup x=some .local\/sc.names.lookup x=some .cell\/sc.names.lookup x=some .free
def Loc(sc:Scope)(x:Str):Prop:=sc.names.lookup x=some .local\/sc.names.lookup x=some .cell
def Look(env:Env)(h:Heap)(m:Aaf)(x:Str)(u:Value):Prop :=
 (env.kindOf x=some .local/\m x=some u)\/((env.kindOf x=some .cell\/env.kindOf x=some .free)/\∃c,env.cells.lookup x=some c/\h.IsCell c (some u))
structure Cx.Ok(X:Cx):Prop where
 mod:Mod X.K X.mg X.base
 kind:X.env.scope.kind=.function
 glob:X.env.globals=aaV
 blt:X.env.builtins=builtinsNs
 above:X.s0.heap.objs.size<=X.env.locals
 inj:∀x y c,X.env.cells.lookup x=some c->X.env.cells.lookup y=some c->x=y
 has:∀x,(X.env.kindOf x=some .cell\/X.env.kindOf x=some .free)->∃c,X.env.cells.lookup x=some c
 Rz:∀x c,X.fn x=true->X.env.cells.lookup x=some c->X.s0.heap.objs.size<=c
 hd:X.calm=true->X.A.handled=none
 frames:X.A.frames=some X.stack
 RX:X.stack=X.outer\/(X.stack=X.env::X.outer/\X.env.frame=some X.env.locals)
 W3:∀b∈X.ex,b≠X.env.locals/\∀x c,X.env.cells.lookup x=some c->c≠b
 bs:∀b o,X.base.get? b=some o->X.s0.heap.get? b=some o/\X.H0 b=none
 Mj:X.base.objs.size<=X.s0.heap.objs.size
 JQ:∀b o,X.base.get? b=some o->b∉X.ex
 Lk:∀b∈X.ex,b∉X.fs
 Fn:X.s0.heap.FunFrames X.base X.outer
 OD:∀b∈X.fs,X.H0 b=none
structure Inv(X:Cx)(pins:Aac)(U:List (Aau))(H:Hp)(s:Shared):Prop where
 ok:X.Ok
 os:s.os=X.s0.os
 bare:aeB s.gens
 base:Un X.fs X.ex X.H0 H X.s0.heap s.heap
 loc:∃m,s.heap.Ns X.env.locals m/\∀(i:Nat) (x:Str) (v:V),X.N[i]?=some x->U[i]?=some (some v)->OH X.env.scope x->∃u,RelV v u/\Look X.env s.heap m x u
 cell:∀x c,X.env.cells.lookup x=some c->∃v,s.heap.IsCell c v
 free:H X.env.locals=none
 Dd:∀x c,X.env.cells.lookup x=some c->H c=none
 pin:∀p∈X.pn++pins,s.heap.get? p.1=some p.2/\H p.1=none/\p.1≠X.env.locals/\p.1∉X.fs/\∀v,p.2.data≠.cell v
 Bc:DK X.prog X.w H s.heap
 len:U.length=X.N.length
variable{X:Cx}{pins:Aac}{U:List (Aau)}{s:Shared}
def Cx.Ok.To(ok:X.Ok){o:Obj}(e:X.base.get? b=some o):b∉X.fs:=λhb=>by have:=(ok.Fn.mem hb).1;rw[e]at this;cases this
def Inv.bs(I:Inv X pins U H s):∀b o,X.base.get? b=some o->s.heap.get? b=some o/\H b=none:=λb o e=>#[I.base.keep b o (I.ok.bs b o e).1 (I.ok.bs b o e).2 (I.ok.To e) (I.ok.JQ b o e),I.base.free b o (I.ok.bs b o e).1 (I.ok.bs b o e).2 (I.ok.JQ b o e)]
def Inv.bk(I:Inv X pins U H s):∀b o,X.base.get? b=some o->s.heap.get? b=some o:=λb o e=>(I.bs b o e).1
def Inv.mod(I:Inv X pins U H s):Mod X.K X.mg X.base:=I.ok.mod
def Inv.GB(I:Inv X pins U H s):X.K.In s.heap:=I.ok.mod.kin.keeps I.bk
def Inv.fr(I:Inv X pins U H s):∃m,Fr X.base X.env.locals s.heap m :=
 let #[m,hn,_]:=I.loc
 #[m,hn,I.bk,aaK I.ok.Mj I.ok.above]
def Inv.lt(I:Inv X pins U H s):X.env.locals<s.heap.objs.size:=let #[_,hn,_]:=I.loc;hn.lt
def Inv.sz(I:Inv X pins U H s):X.s0.heap.objs.size<=s.heap.objs.size:=aaK I.ok.above (ae6 I.lt)
def Inv.Tn(I:Inv X pins U H s)(h:s.heap.objs.size<=a):a∉X.fs:=λhb=>by obtain⟨_,o,ho,_⟩:=I.ok.Fn.mem hb;exact absurd (aaP (aah ho) (aaK I.sz h)) (abY _)
def Inv.NS(I:Inv X pins U H s):∀x c,X.env.cells.lookup x=some c->c≠X.env.locals:=λx c e z=>by obtain⟨v,o,ho,hd⟩:=I.cell x c e;obtain⟨m,⟨o',es,ep,E1,Sm,_⟩,_⟩:=I.loc;rw[z,E1]at ho;cases ho;rw[Sm]at hd;cases hd
def Inv.Fn(I:Inv X pins U H s):s.heap.FunFrames X.base X.outer:=by
 have all:∀(l:List Env),(∀b∈J7 l,b∈X.fs)->X.s0.heap.FunFrames X.base l->s.heap.FunFrames X.base l:=by
  intro l;induction l with
  |nil=>intro _ _;trivial
  |cons env r ih=>intro hs hl;obtain⟨hk,⟨L,o,hf,hn,ho,hd⟩,hr⟩:=hl;have hL  := hs L (by unfold J7;rw[acr,hf];exact aaz);obtain⟨sl,e⟩:=I.base.slot L o ho (I.ok.OD L hL) hL λz=>I.ok.Lk L z hL;exact#[hk,#[L,_,hf,hn,e,hd],ih (λb hb=>hs b (by unfold J7;rw[acr,hf];exact aaq _ hb)) hr]
 exact all X.outer (λ_ hb=>hb) I.ok.Fn
def Inv.stack(I:Inv X pins U H s):s.heap.FunFrames X.base X.stack:=by
 rcases I.ok.RX with e|⟨e,hf⟩
 .rw[e];exact I.Fn
 .rw[e];obtain⟨m,hn,_⟩:=I.loc;refine .cons (by rw[I.ok.kind];decide) hf hn ?_ I.Fn;exact Heap.get?_none_of_le (aaK I.ok.Mj I.ok.above)
def Inv.E7(I:Inv X pins U H s):∀b∈J7 X.stack,b∈X.env.locals::X.fs:=λb hb=>by
 rcases I.ok.RX with e|⟨e,hf⟩
 .rw[e]at hb;exact aaq _ hb
 .rw[e]at hb;unfold J7 at hb;rw[acr,hf]at hb;exact hb
def Inv.Ip(I:Inv X pins U H s):∀b∈J7 X.stack,H b=none:=λb hb=>by
 rcases List.mem_cons.mp (I.E7 b hb)with e|hb
 .rw[e];exact I.free
 .obtain⟨_,o,ho,_⟩:=I.ok.Fn.mem hb;exact I.base.free b o ho (I.ok.OD b hb) λz=>I.ok.Lk b z hb
variable{t':Nat}
def Inv.step{g':Array GenState}{d':Drawn}{ch:Aaj}(I:Inv X pins U H s)
  (Kx:∀b∈ch,(b∈X.ex\/X.s0.heap.objs.size<=b)/\b≠X.env.locals/\(∀x c,X.env.cells.lookup x=some c->c≠b)/\∀p∈X.pn++pins,p.1≠b)
  (keep:∀b o,b≠X.env.locals->b∉X.fs->b∉ch->s.heap.get? b=some o->H b=none->h'.get? b=some o)
  (slot:∀b o,b≠X.env.locals->b∈X.fs->b∉ch->s.heap.get? b=some o->H b=none->∃sl,h'.get? b=some {o with slots:=sl}) (free:∀b o,b∉ch->s.heap.get? b=some o->H b=none->H' b=none)
  (there:∀b o,b∉ch->s.heap.get? b=some o->∃o',h'.get? b=some o')
  (FF:∀b xs,H b=some (.tup xs)->H' b=some (.tup xs)) (GG:∀b o u,H b=some (.Dg o u)->H' b=some (.Dg o u)) (G5:∀b ps,H b=some (.LC ps)->∃more,H' b=some (.LC (ps++more)))
  (ns:∀m,s.heap.Ns X.env.locals m->h'.Ns X.env.locals m) (Bc:DK X.prog X.w H' h') (hg:aeB g') :
  Inv X pins U H' {s with heap:=h',gens:=g',drawn:=d',toks:=t'}:=by
 have V9:∀b o,X.s0.heap.get? b=some o->b≠X.env.locals:=λb o e=>aap (aaP (aah e) I.ok.above);have Ol:∀b o,X.s0.heap.get? b=some o->b∉X.ex->b∉ch:=λb o e hx hb=>by
  rcases(Kx b hb).1 with z|z
  .exact hx z
  .exact absurd (aaP (aah e) z) (abY _)
 have cellK:∀x c,X.env.cells.lookup x=some c->∀v,s.heap.IsCell c v->h'.IsCell c v:=λx c e v #[o,ho,hd]=>by
  have Qp  := λz=>(Kx c z).2.2.1 x c e rfl;by_cases hc:c∈X.fs
  .obtain⟨sl,q⟩:=slot c o (I.NS x c e) hc Qp ho (I.Dd x c e);exact#[_,q,hd]
  .exact#[o,keep c o (I.NS x c e) hc Qp ho (I.Dd x c e),hd]
 refine#[I.ok,I.os,hg,#[λb o e n hb hx=>?_,λb o e n hb hx=>?_,λb o e n hx=>?_,λb o e hx=>?_,λb xs e=>FF b xs (I.base.FF b xs e),λb o xs e=>GG b o xs (I.base.GG b o xs e),λb ps e=>?_],?_,λx c e=>?_,?_,λx c e=>?_,λp hp=>?_,Bc,I.len]
 .exact keep b o (V9 b o e) hb (Ol b o e hx) (I.base.keep b o e n hb hx) (I.base.free b o e n hx)
 .obtain⟨sl,e1⟩:=I.base.slot b o e n hb hx;obtain⟨Xt,e2⟩:=slot b _ (V9 b o e) hb (Ol b o e hx) e1 (I.base.free b o e n hx);exact#[Xt,e2]
 .obtain⟨o',e1⟩:=I.base.there b o e hx;exact free b o' (Ol b o e hx) e1 (I.base.free b o e n hx)
 .obtain⟨o',e1⟩:=I.base.there b o e hx;exact there b o' (Ol b o e hx) e1
 .obtain⟨m1,e1⟩:=I.base.G5 b ps e;obtain⟨m2,e2⟩:=G5 b _ e1;exact#[m1++m2,#[1]]
 .obtain⟨m,hn,hl⟩:=I.loc;refine#[m,ns m hn,λi x v e1 e2 e3=>?_];obtain⟨u,r,l⟩:=hl i x v e1 e2 e3;refine#[u,r,?_];rcases l with l|⟨k,c,e,z⟩
  .exact .inl l
  .exact .inr #[k,c,e,cellK x c e _ z]
 .obtain⟨v,z⟩:=I.cell x c e;exact#[v,cellK x c e v z]
 .obtain⟨m,⟨o,_,_,ho,_⟩,_⟩:=I.loc;exact free _ o (λz=>(Kx _ z).2.1 rfl) ho I.free
 .obtain⟨v,o,ho,hd⟩:=I.cell x c e;exact free c o (λz=>(Kx c z).2.2.1 x c e rfl) ho (I.Dd x c e)
 .obtain⟨e,n,ne,nf,d⟩:=I.pin p hp;have Qp  := λz=>(Kx p.1 z).2.2.2 p hp rfl;exact#[keep p.1 p.2 ne nf Qp e n,free p.1 p.2 Qp e n,ne,nf,d]
def Inv.un(I:Inv X pins U H s)(u:Un X.fs [] H H' s.heap h')(Bc:DK X.prog X.w H' h'):Inv X pins U H' {s with heap:=h',toks:=t'}:=by
 obtain⟨m,⟨o,es,ep,ho,r⟩,_⟩:=id I.loc;obtain⟨sl,hL⟩:=u.any ho I.free #[0];exact I.step (ch:=[]) (λ_ z=>nomatch z) (λb o _ hb _ e n=>u.keep b o e n hb #[0]) (λb o _ hb _ e n=>u.slot b o e n hb #[0]) (λb o _ e n=>u.free b o e n #[0]) (λb o _ e=>u.there b o e #[0]) u.FF u.GG u.G5 (λm' hm=>by obtain⟨o',Hl,Ss,E1,r'⟩:=hm;rw[ho]at E1;cases E1;exact#[_,Hl,Ss,hL,r']) Bc I.bare
def Inv.call{g':Array GenState}{d':Drawn}{ch:Aaj}(I:Inv X pins U H s)(u:Un (J7 X.stack) ch H H' s.heap h')(Bc:DK X.prog X.w H' h')(hg:aeB g')
  (Kx:∀b∈ch,(b∈X.ex\/X.s0.heap.objs.size<=b)/\b≠X.env.locals/\(∀x c,X.env.cells.lookup x=some c->c≠b)/\∀p∈X.pn++pins,p.1≠b) :
  Inv X pins U H' {s with heap:=h',gens:=g',drawn:=d',toks:=t'}:=by
 obtain⟨m,⟨o,es,ep,ho,r⟩,_⟩:=id I.loc;obtain⟨sl,hL⟩:=u.any ho I.free λz=>(Kx _ z).2.1 rfl;exact I.step Kx (λb o hL hb hc e n=>u.keep b o e n (λz=>(List.mem_cons.mp (I.E7 b z)).elim hL hb) hc) (λb o _ _ hc e n=>u.any e n hc) (λb o hc e n=>u.free b o e n hc) (λb o hc e=>u.there b o e hc) u.FF u.GG u.G5 (λm' hm=>by obtain⟨o',Hl,Ss,E1,r'⟩:=hm;rw[ho]at E1;cases E1;exact#[_,Hl,Ss,hL,r']) Bc hg
variable{it:Addr}
def Inv.turned(I:Inv X pins U H s)(k:∀b o,b≠it->s.heap.get? b=some o->h'.get? b=some o)(hn:H it=none)(hL:it≠X.env.locals)
  (h1:it∈X.ex\/X.s0.heap.objs.size<=it) (h2:∀x c,X.env.cells.lookup x=some c->c≠it) (h3:∀p∈X.pn++pins,p.1≠it):Inv X pins U H {s with heap:=h',toks:=t'}:=by
 have Qm:∀b u,H b=some u->b≠it:=λb u e z=>by simp_all
 refine I.step (ch:=[it]) (λb hb=>?_) (λb o _ _ hc e _=>k b o (λz=>hc #[1]) e) (λb o _ _ hc e _=>#[o.slots,k b o (λz=>hc #[1]) e]) (λ_ _ _ _ n=>n)
  (λb o hc e=>#[o,k b o (λz=>hc #[1]) e]) (λ_ _ e=>e) (λ_ _ _ e=>e) (λb ps e=>#[#v[],#[1]]) (λm hm=>?_) (λb u e=>?_) I.bare
 .have e:b=it:=by simp_all
  subst e;exact#[h1,hL,h2,h3]
 .obtain⟨o,es,ep,ho,r⟩:=hm;exact#[o,es,ep,k _ o (abz hL) ho,r]
 .refine(I.Bc b u e).G7 (λc v hc q=>k c v ?_ q) (λ_ q=>q) λ_ _ q=>q;rcases hc with z|z
  .rw[z];exact Qm b u e
  .exact Qm c _ z
def Inv.tok(I:Inv X pins U H s)(t:Nat):Inv X pins U H {s with toks:=t}:=I.un Un.refl I.Bc
def Inv.kept(I:Inv X pins U H s)(k:∀b u,s.heap.get? b=some u->h'.get? b=some u):Inv X pins U H {s with heap:=h',toks:=t'}:=I.un (Un.kept k) (I.Bc.kept k)
def Inv.laid(I:Inv X pins U H s)(k:∀b u,s.heap.get? b=some u->h'.get? b=some u)(hp:s.heap.objs.size<=a)(new:Bm X.prog X.w (upd H a o) h' a o):
  Inv X pins U (upd H a o) {s with heap:=h',toks:=t'}:=I.un (Un.laid k hp (I.Bc.fresh hp)) (I.Bc.laid k hp new)
def Inv.write(I:Inv X pins U H s)(mu:RI (H x))(he:e=x\/H e=some (.own x))(k:∀b u,b≠e->s.heap.get? b=some u->h'.get? b=some u)(Oz:∃u,h'.get? e=some u)
  (new:Bm X.prog X.w (upd H x o) h' x o):Inv X pins U (upd H x o) {s with heap:=h',toks:=t'}:=I.un (Un.write mu he k Oz) (I.Bc.write mu he k Oz new)
def Inv.weak{sa:List (Aau)}(I:Inv X pins U H s)(hl:sa.length=U.length)(w:∀(i:Nat) v,sa[i]?=some (some v)->U[i]?=some (some v)):Inv X pins sa H s :=
 #[I.ok,I.os,I.bare,I.base,let #[m,hn,Jp]:=I.loc;#[m,hn,λi x v e1 e2 e3=>Jp i x v e1 (w i v e2) e3],I.cell,I.free,I.Dd,I.pin,I.Bc,hl.trans I.len]
def Inv.Iv{LQ:Aac}(I:Inv X pins U H s)(h:∀p∈LQ,s.heap.get? p.1=some p.2/\H p.1=none/\p.1≠X.env.locals/\p.1∉X.fs/\∀v,p.2.data≠.cell v):Inv X LQ U H s :=
 #[I.ok,I.os,I.bare,I.base,I.loc,I.cell,I.free,I.Dd,λp hp=>(List.mem_append.mp hp).elim (λz=>I.pin p (abt _ z)) (h p),I.Bc,I.len]
variable{N:A3}{i j:Nat}
def ng(hN:N.Nodup){x:Str}(a:N[i]?=some x)(b:N[j]?=some x):i=j:=by obtain⟨h1,e1⟩:=List.getElem?_eq_some_iff.mp a;obtain⟨h2,e2⟩:=List.getElem?_eq_some_iff.mp b;exact(abk hN).mp (e1.trans e2.symm)
variable{M:Model}{A:Around}{E:Aaa}{v:V}{Q:Unit->Shared->Prop}
def gh{x:Str}(I:Inv X pins U H s)(hN:X.N.Nodup)(hi:X.N[i]?=some x)(hx:Loc X.env.scope x)(r:RelV v u)
  (h:∀s',Inv X pins (U.set i (some v)) H s'->(∃a,ab1 a s.heap s'.heap/\(a=X.env.locals\/X.env.cells.lookup x=some a))->Q () s') (hf:autoParam (X.fn x=true\/X.env.scope.names.lookup x=some .local) ge):wpAny M A (storeName X.env x u) Q E s:=by
 obtain⟨m,hn,hl⟩:=id I.loc;have UE:(X.env.scope.kind==.class || (X.env.scope.kind==.module && X.env.locals != X.env.globals))=false:=by rw[I.ok.kind];rfl
 have his:i<U.length:=by rw[I.len];exact(List.getElem?_eq_some_iff.mp hi).1
 have NS:=I.NS;have tracked:∀{a:Addr} {h':Heap},(∃o,s.heap.get? a=some o/\H a=none)->ab1 a s.heap h'->DK X.prog X.w H h':=λ{a h'} ha hs b ob e=>by
  obtain⟨_,_,DS⟩:=ha;refine(I.Bc b ob e).G7 (λc w' hc q=>(hs.2 c ?_).trans q) (λ_ q=>q) λ_ _ q=>q;rintro rfl;rcases hc with rfl|hc
  .rw[DS]at e;cases e
  .rw[DS]at hc;cases hc
 rcases hx with hk|hk
 .refine wpAny_storeName_local hk hn (λh' Jo hs=>?_) UE;obtain⟨oL,_,_,I0,_⟩:=id hn;refine h _ #[I.ok,I.os,I.bare,#[λb o e n hb hx=>?_,λb o e n hb hx=>?_,I.base.free,λb o e hx=>?_,I.base.FF,I.base.GG,I.base.G5],#[_,Jo,λj y v' e1 e2 e3=>?_],λy c e=>?_,I.free,I.Dd,λp hp=>?_,tracked #[oL,I0,I.free] hs,by simpa using I.len] #[_,hs,.inl rfl]
  .exact(hs.2 b (aap (aaP (aah e) I.ok.above))).trans (I.base.keep b o e n hb hx)
  .obtain⟨sl,e1⟩:=I.base.slot b o e n hb hx;exact#[sl,(hs.2 b (aap (aaP (aah e) I.ok.above))).trans e1]
  .obtain⟨o',e1⟩:=I.base.there b o e hx;exact#[o',(hs.2 b (aap (aaP (aah e) I.ok.above))).trans e1]
  .by_cases hj:j=i
   .subst hj;rw[hi]at e1;cases e1;rw[List.getElem?_set_self his]at e2;cases e2;exact#[u,r,.inl #[hk,#[0]]]
   .rw[aaD (abz hj)]at e2;obtain⟨u',r',q⟩:=hl j y v' e1 e2 e3;refine#[u',r',?_];rcases q with ⟨k,e⟩|⟨k,c,e,z⟩
    .refine .inl #[k,?_];have:y≠x:=λe=>hj (ng hN e1 (e ▸ hi));simp[this,e]
    .exact .inr #[k,c,e,z.sameBut hs (NS y c e)]
  .obtain⟨w',z⟩:=I.cell y c e;exact#[w',z.sameBut hs (NS y c e)]
  .obtain⟨e,n,ne,nf,d⟩:=I.pin p hp;exact#[(hs.2 p.1 ne).trans e,n,ne,nf,d]
 .have Uy:X.fn x=true:=by simp_all
  obtain⟨c,hc⟩:=I.ok.has x (.inl hk);obtain⟨w',z⟩:=I.cell x c hc;refine wpAny_storeName_cell I.ok.kind hk hc z (λh' Fm hs=>?_);obtain⟨oc,Wr,Ug⟩:=id z;refine h {s with heap:=h'} #[I.ok,I.os,I.bare,#[λb o e n hb hx=>?_,λb o e n hb hx=>?_,I.base.free,λb o e hx=>?_,I.base.FF,I.base.GG,I.base.G5],#[m,hn.sameBut hs (abz (NS x c hc)),λj y v' e1 e2 e3=>?_],λy c' e=>?_,I.free,I.Dd,λp hp=>?_,tracked #[oc,Wr,I.Dd x c hc] hs,by simpa using I.len] #[c,hs,.inr hc]
  .exact(hs.2 b (aap (aaP (aah e) (I.ok.Rz x c Uy hc)))).trans (I.base.keep b o e n hb hx)
  .obtain⟨sl,e1⟩:=I.base.slot b o e n hb hx;exact#[sl,(hs.2 b (aap (aaP (aah e) (I.ok.Rz x c Uy hc)))).trans e1]
  .obtain⟨o',e1⟩:=I.base.there b o e hx;exact#[o',(hs.2 b (aap (aaP (aah e) (I.ok.Rz x c Uy hc)))).trans e1]
  .by_cases hj:j=i
   .subst hj;rw[hi]at e1;cases e1;rw[List.getElem?_set_self his]at e2;cases e2;exact#[u,r,.inr #[.inl hk,c,hc,Fm]]
   .rw[aaD (abz hj)]at e2;obtain⟨u',r',q⟩:=hl j y v' e1 e2 e3;refine#[u',r',?_];rcases q with q|⟨k,c',e,z'⟩
    .exact .inl q
    .refine .inr #[k,c',e,z'.sameBut hs ?_];rintro rfl;exact hj (ng hN e1 (I.ok.inj _ _ _ e hc ▸ hi))
  .by_cases WJ:c'=c
   .subst WJ;exact#[_,Fm]
   .obtain⟨w2,z2⟩:=I.cell y c' e;exact#[w2,z2.sameBut hs WJ]
  .obtain⟨e,n,ne,nf,d⟩:=I.pin p hp;refine#[(hs.2 p.1 ?_).trans e,n,ne,nf,d];intro q;rw[q,Wr]at e;have q':oc=p.2:=aar e;exact d w' (by rw[<- q'];exact Ug)
def fz{x:Str}(I:Inv X pins U H s)(hN:X.N.Nodup)(hi:X.N[i]?=some x)(hx:Loc X.env.scope x)(r:RelV v u)
  (h:∀s',Inv X pins (U.set i (some v)) H s'->Q () s') (hf:autoParam (X.fn x=true\/X.env.scope.names.lookup x=some .local) ge):wpAny M A (storeName X.env x u) Q E s :=
 gh I hN hi hx r (λs' I' _=>h s' I') hf
variable{s':Shared}
def Inv.Ry{ch:Aaj}(I:Inv X pins U H s)(ho:s'.os=s.os)(u:Un (J7 X.stack) ch H H' s.heap s'.heap)(Bc:DK X.prog X.w H' s'.heap)(hg:aeB s'.gens)
  (Kx:∀b∈ch,(b∈X.ex\/X.s0.heap.objs.size<=b)/\b≠X.env.locals/\(∀x c,X.env.cells.lookup x=some c->c≠b)/\∀p∈X.pn++pins,p.1≠b):Inv X pins U H' s':=by
 obtain⟨h',g',d',t',o'⟩:=s';have e:o'=s.os:=ho;subst e;exact I.call (g':=g') (t':=t') (d':=d') u Bc hg Kx
abbrev XK:=Value->Option Addr->Hp->Prop
abbrev St:=List (Aau)
abbrev VK:=V->Hp->Prop
abbrev TE:=St->Hp->VK->Prop
abbrev TT:=St->Hp->(Bool->Hp->Prop)->Prop
abbrev TA:=St->Hp->(Aag->Hp->Prop)->Prop
structure Ends where
 nx:St->Hp->Prop
 rt:VK
 bk:St->Hp->Prop:=λ_ _=>False
 ct:St->Hp->Prop:=λ_ _=>False
abbrev TS:=Ends->St->Hp->Prop
def EP(X:Cx)(pins:Aac)(U:St)(Q:VK)(u:Value)(s':Shared):Prop:=∃v H',Inv X pins U H' s'/\RelV v u/\Q v H'
def TP(X:Cx)(pins:Aac)(U:St)(Q:Bool->Hp->Prop)(b:Bool)(s':Shared):Prop:=∃H',Inv X pins U H' s'/\Q b H'
def AP(X:Cx)(pins:Aac)(U:St)(Q:Aag->Hp->Prop)(us:Aad)(s':Shared):Prop:=∃vs H',Inv X pins U H' s'/\oF vs us/\Q vs H'
def SP(X:Cx)(pins:Aac)(D:Ends)(f:Flow)(s':Shared):Prop :=
 match f with
 |.next=>∃sa H',Inv X pins sa H' s'/\D.nx sa H'
 |.brk=>∃sa H',Inv X pins sa H' s'/\D.bk sa H'
 |.cont=>∃sa H',Inv X pins sa H' s'/\D.ct sa H'
 |.ret u=>∃v sa H',Inv X pins sa H' s'/\RelV v u/\D.rt v H'
def PE(X:Cx)(e:Expr)(t:TE):Prop :=
 ∀(pins:Aac) (s:Shared) (U:St) (H:Hp) (Q:VK),Inv X pins U H s->t U H Q->wpAny #[6] X.A (eval e X.env) (EP X pins U Q) X.xe s
def PT(X:Cx)(e:Expr)(t:TT):Prop :=
 ∀(pins:Aac) (s:Shared) (U:St) (H:Hp) (Q:Bool->Hp->Prop),Inv X pins U H s->t U H Q->wpAny #[6] X.A (isTrue e X.env (eval e X.env)) (TP X pins U Q) X.xe s
def PW(X:Cx)(e:Expr)(t:TT):Prop :=
 ∀(whole:Sem Value) (pins:Aac) (s:Shared) (U:St) (H:Hp) (Q:Bool->Hp->Prop),Inv X pins U H s->t U H Q->wpAny #[6] X.A (isTrue e X.env whole) (TP X pins U Q) X.xe s
def PW.pt{e:Expr}{t:TT}(h:PW X e t):PT X e t:=h _
def PA(X:Cx)(es:Aai)(t:TA):Prop :=
 ∀(pos:Pos) (pins:Aac) (s:Shared) (U:St) (H:Hp) (Q:Aag->Hp->Prop),Inv X pins U H s->t U H Q->wpAny #[6] X.A (spliced (backTo pos (aal es X.env))) (AP X pins U Q) X.xe s
def PS(X:Cx)(st:Stmt)(t:TS):Prop :=
 ∀(pins:Aac) (s:Shared) (U:St) (H:Hp) (D:Ends),Inv X pins U H s->t D U H->wpAny #[6] X.A (exec st X.env) (SP X pins D) X.xe s
def IK(X:Cx)(st:List Stmt)(t:TS):Prop :=
 ∀(pins:Aac) (s:Shared) (U:St) (H:Hp) (D:Ends),Inv X pins U H s->t D U H->wpAny #[6] X.A (execs st X.env) (SP X pins D) X.xe s
def Bt{t:Sem O}{Q Q':O->Shared->Prop}(h:wpAny M A t Q E s)(hQ:∀a s,Q a s->Q' a s):wpAny M A t Q' E s:=aa5 h hQ λ_ _ x=>x
def Bw(i:Nat):TE:=λU H Q=>∃v,U[i]?=some (some v)/\Q v H
def tC(v:V):TE:=λ_ H Q=>Q v H
variable{pos:Pos}
def yq{x:Str}(hN:X.N[i]?=some x)(hv:OH X.env.scope x)(hd:autoParam #[12] on)(HU:autoParam ((x==("__classdict__" : Str))=false) on):PE X (.Name x pos) (Bw i):=by
 intro pins s U H Q I h;obtain⟨v,e,h⟩:=h;obtain⟨m,hn,hl⟩:=I.loc;obtain⟨u,r,l⟩:=hl i x v hN e hv;have fin:EP X pins U Q u s:=#[v,H,I,r,h]
 rcases l with ⟨hk,hm⟩|⟨hk,c,hc,Mb⟩
 .exact wpAny_Name (wpAny_loadName_local I.ok.kind hk hn hm fin) hd
 .rcases hk with hk|hk
  .exact wpAny_Name (wpAny_loadName_cell I.ok.kind hk hc Mb fin) hd
  .exact wpAny_Name (wpAny_loadName_free I.ok.kind hk hc Mb fin HU) hd
def az{i j pos}:PE X (.Constant (.int i) j pos) (tC (.int i)):=λ_ _ _ H _ I h=>wpAny_Constant_int #[.int i,H,I.tok _,#[_,rfl],h]
def Ay{b j pos}:PE X (.Constant (.bool b) j pos) (tC (.bl b)):=λ_ _ _ H _ I h=>Constant_bool #[.bl b,H,I,rfl,h]
def yx{j pos}:PE X (.Constant .none j pos) (tC .AZ):=λ_ _ _ H _ I h=>Constant_none #[.AZ,H,I,rfl,h]
def aW{x j pos}:PE X (.Constant (.str x) j pos) (tC (.str x)):=λ_ _ _ H _ I h=>Calls.Constant_str #[.str x,H,I.tok _,#[_,rfl],h]
def Gl(X:Cx)(x:Str):Prop:=X.env.kindOf x=some .globalImplicit
def pz{U:St}{x:Str}{Q:Aaa}(I:Inv X pins U H s)(hg:Gl X x)(hm:X.mg x=some u)(h:Q u s)
  (hd:autoParam #[12] on):wpAny #[6] X.A (eval (.Name x pos) X.env) Q E s :=
 afJ I.ok.kind hg (Calls.loadGlobal_global (by rw[I.ok.glob];exact I.mod.glob.keeps I.bk) hm h) hd
def cw{U:St}{x:Str}{Q:Aaa}(I:Inv X pins U H s)(hg:Gl X x)(hm:X.mg x=none)(hv:aca x=some u)(h:Q u s)
  (hn:autoParam (x ≠ "__name__") on) (hd:autoParam #[12] on):wpAny #[6] X.A (eval (.Name x pos) X.env) Q E s:=by
 obtain⟨mb,h1,h2⟩:=I.mod.blt;exact afJ I.ok.kind hg (Calls.loadGlobal_builtin (by rw[I.ok.glob];exact I.mod.glob.keeps I.bk) hm (by rw[I.ok.blt];exact h1.keeps I.bk) ((h2 x hn).trans hv) h) hd
def wx{x:Str}(hg:Gl X x)(hm:X.mg x=some u)(r:RelV v u)(hd:autoParam #[12] on):PE X (.Name x pos) (tC v) :=
 λ_ _ _ H _ I h=>pz I hg hm #[v,H,I,r,h] hd
def wA{x:Str}(hg:Gl X x)(hm:X.mg x=none)(hv:aca x=some u)(r:RelV v u)(hn:autoParam (x ≠ "__name__") on)(hd:autoParam #[12] on):PE X (.Name x pos) (tC v) :=
 λ_ _ _ H _ I h=>cw I hg hm hv #[v,H,I,r,h] hn hd
variable{a b:Expr}{ta tb:TE}
variable{tA RW:TT}{rest:Aai}
def G6(t u:TT):TT:=λU H Q=>t U H λc H1=>if c=true then u U H1 Q else Q false H1
def GZ(t u:TT):TT:=λU H Q=>t U H λc H1=>if c=true then Q true H1 else u U H1 Q
def CD(t:TT):TT:=λU H Q=>t U H λc H1=>Q (!c) H1
def pw_and1(ha:PT X a tA):PW X (.BoolOp .And [a] pos) tA:=by
 intro wh pins s U H Q I h;refine isTrue_and (Bt (ha pins s U H Q I h) λc s1 e=>?_);cases c with
 |true=>exact isTrue_and_nil e
 |false=>exact e
def pw_or1(ha:PT X a tA):PW X (.BoolOp .Or [a] pos) tA:=by
 intro wh pins s U H Q I h;refine isTrue_or (Bt (ha pins s U H Q I h) λc s1 e=>?_);cases c with
 |false=>exact isTrue_or_nil e
 |true=>exact e
def pw_and(ha:PT X a tA)(hb:PW X (.BoolOp .And (b::rest) pos) RW):PW X (.BoolOp .And (a::b::rest) pos) (G6 tA RW):=by
 intro wh pins s U H Q I h;refine isTrue_and (Bt (ha pins s U H _ I h) λc s1 #[H1,I1,q1]=>?_);cases c with
 |true=>exact hb wh pins s1 U H1 Q I1 q1
 |false=>exact#[H1,I1,q1]
def pw_or(ha:PT X a tA)(hb:PW X (.BoolOp .Or (b::rest) pos) RW):PW X (.BoolOp .Or (a::b::rest) pos) (GZ tA RW):=by
 intro wh pins s U H Q I h;refine isTrue_or (Bt (ha pins s U H _ I h) λc s1 #[H1,I1,q1]=>?_);cases c with
 |true=>exact#[H1,I1,q1]
 |false=>exact hb wh pins s1 U H1 Q I1 q1
def yl(ha:PT X a tA):PT X (.UnaryOp .Not a pos) (CD tA):=by intro pins s U H Q I h;exact isTrue_not (ha pins s U H _ I h)
def PH(ta tb:TE):TE:=λU H Q=>ta U H λx H1=>∃c,x=.bl c/\if c=true then tb U H1 Q else Q (.bl false) H1
def yw{op}{t:TE}(h:PE X a t):PE X (.BoolOp op [a] pos) t:=λpins s U H Q I hw=>BoolOp_one (h pins s U H Q I hw)
def yA(ha:PE X a ta)(hb:PE X (.BoolOp .And (b::rest) pos) tb):PE X (.BoolOp .And (a::b::rest) pos) (PH ta tb):=by
 intro pins s U H Q I h;refine BoolOp_and (Bt (ha pins s U H _ I h) λv s1 #[x,H1,I1,r1,q1]=>?_);obtain⟨c,rfl,q1⟩:=q1;cases r1;refine ab2 ?_;cases c with
 |true=>exact hb pins s1 U H1 Q I1 q1
 |false=>exact#[.bl false,H1,I1,rfl,q1]
def Xr(t:TT)(ta tb:TE):TE:=λU H Q=>t U H λc H1=>if c=true then ta U H1 Q else tb U H1 Q
variable{c:Expr}
def uf(hc:PT X c tA)(ha:PE X a ta)(hb:PE X b tb):PE X (.IfExp c a b pos) (Xr tA ta tb):=by
 intro pins s U H Q I h;refine wpAny_IfExp (Bt (hc pins s U H _ I h) λd s1 #[H1,I1,q1]=>?_);cases d with
 |true=>exact ha pins s1 U H1 Q I1 q1
 |false=>exact hb pins s1 U H1 Q I1 q1
def Cr(K:aag)(H:Hp)(a:Addr)(xs:Aag):Prop :=
 Rd H a (.lst xs) \/
  ∃(o:Obj) (eQ:Aak) (n:Nat),K.lookup a=some o/\o.cls=.type "list" /\ o.dict=none/\o.data=.seq eQ n/\eQ.size<=sizeLine/\oF xs eQ.toList
def Cf(K:aag)(H:Hp)(a:Addr)(xs:Aag):Prop :=
 Rd H a (.tup xs) \/
  ∃(o:Obj) (eQ:Aak) (n:Nat),K.lookup a=some o/\o.cls=.type "tuple" /\ o.dict=none/\o.data=.seq eQ n/\eQ.size<=sizeLine/\oF xs eQ.toList
noncomputable def Vh:Value->Option V
 |.none=>some .AZ
 |.bool b=>some (.bl b)
 |.int i _=>some (.int i)
 |.str x _=>some (.str x)
 |.bytes b _=>some (.Jh b)
 |.float b _=>some (.OE b)
 |.ref a=>some (.ref a)
 |.type n=>some (.ty n)
 |_=>none
def RelV.abs{x:V}(r:RelV x u):Vh u=some x:=by
 cases x with
 |AZ=>cases r;rfl
 |bl _=>cases r;rfl
 |int _=>obtain⟨t,rfl⟩:=r;rfl
 |str _=>obtain⟨t,rfl⟩:=r;rfl
 |Jh _=>obtain⟨t,rfl⟩:=r;rfl
 |OE _=>obtain⟨t,rfl⟩:=r;rfl
 |ref _=>cases r;rfl
 |ty _=>cases r;rfl
variable{y:V}
def RelV.inj{x:V}(r:RelV x u)(q:RelV y u):x=y:=aar (r.abs.symm.trans q.abs)
def oF.inj:∀{xs ys:Aag} {us:Aad},oF xs us->oF ys us->xs=ys
 |_,_,_,.nil,.nil=>rfl
 |_,_,_,.cons r t,.cons r' t'=>by rw[r.inj r',oF.inj t t']
variable{U:St}{a:Addr}{ys:Aag}
variable{K:aag}
def Cr.of(h:H a=some (.lst xs)):Cr K H a xs:=.inl (.inl h)
theorem Inv.list(I:Inv X pins U H s)(h:Cr X.K H a xs):∃eQ:Aad,oF xs eQ/\PlainL s.heap a eQ.toArray/\xs.length<=sizeLine:=by
 rcases h with h|⟨o,eQ,n,hk,hc,hd,hs,hz,r⟩
 .obtain⟨z,eQ,n,r,e⟩:=h.ok I.Bc;exact#[eQ,r,#[_,n,e,rfl,rfl,rfl],z]
 .refine#[eQ.toList,r,#[o,n,I.GB a o hk,hc,hd,by simpa using hs],?_];have e:=r.length;simp only[aaE]at e;omega
theorem Inv.tuple(I:Inv X pins U H s)(h:Cf X.K H a xs):∃eQ:Aad,oF xs eQ/\IsTup s.heap a eQ.toArray/\xs.length<=sizeLine:=by
 rcases h with h|⟨o,eQ,n,hk,hc,_,hs,hz,r⟩
 .obtain⟨z,eQ,r,p,_⟩:=h.ok I.Bc;exact#[eQ,r,p,z]
 .refine#[eQ.toList,r,#[o,I.GB a o hk,hc,n,by simpa using hs],?_];have e:=r.length;simp only[aaE]at e;omega
def Inv.MA(I:Inv X pins U H s)(h:Cf X.K H a xs):∃o,s.heap.get? a=some o/\o.dict=none:=by
 rcases h with h|⟨o,eQ,n,hk,hc,hn,_⟩
 .obtain⟨_,_,_,_,h⟩:=h.ok I.Bc;exact h
 .exact#[o,I.GB a o hk,hn]
def Inv.D6(I:Inv X pins U H s)(h:Cr X.K H a xs)(h':Cr X.K H a ys):xs=ys:=by
 obtain⟨eQ,r,⟨o,n,e,_,_,d⟩,_⟩:=I.list h;obtain⟨ER,r',⟨o',n',e',_,_,d'⟩,_⟩:=I.list h';rw[e]at e';have:eQ=ER:=by simp_all
 subst this;exact r.inj r'
def Inv.CU(I:Inv X pins U H s)(h:Cf X.K H a xs)(h':Cf X.K H a ys):xs=ys:=by
 obtain⟨eQ,r,⟨o,e,_,n,d⟩,_⟩:=I.tuple h;obtain⟨ER,r',⟨o',e',_,n',d'⟩,_⟩:=I.tuple h';rw[e]at e';cases e';rw[d]at d';injection d' with d1 _;have:eQ=ER:=by simpa using congrArg Array.toList d1
 subst this;exact r.inj r'
noncomputable abbrev Cx.FE(X:Cx)(E:Aaa):Cx:={X with xe:=E}
noncomputable abbrev Cx.KN(X:Cx):Cx:=X.FE λ_ _=>False
def Cx.Ok.FE(ok:X.Ok)(E:Aaa):(X.FE E).Ok :=
 #[ok.mod,ok.kind,ok.glob,ok.blt,ok.above,ok.inj,ok.has,ok.Rz,ok.hd,ok.frames,ok.RX,ok.W3,ok.bs,ok.Mj,ok.JQ,ok.Lk,ok.Fn,ok.OD]
def Cx.Ok.Dh(ok:(X.FE E).Ok):X.Ok :=
 #[ok.mod,ok.kind,ok.glob,ok.blt,ok.above,ok.inj,ok.has,ok.Rz,ok.hd,ok.frames,ok.RX,ok.W3,ok.bs,ok.Mj,ok.JQ,ok.Lk,ok.Fn,ok.OD]
def Inv.FE(I:Inv X pins U H s)(E:Aaa):Inv (X.FE E) pins U H s:=#[I.ok.FE E,I.os,I.bare,I.base,I.loc,I.cell,I.free,I.Dd,I.pin,I.Bc,I.len]
def Inv.Dh(I:Inv (X.FE E) pins U H s):Inv X pins U H s:=#[I.ok.Dh,I.os,I.bare,I.base,I.loc,I.cell,I.free,I.Dd,I.pin,I.Bc,I.len]
def SP.Dh{D:Ends}{f:Flow}(h:SP (X.FE E) pins D f s'):SP X pins D f s':=by
 cases f with
 |next=>obtain⟨sa,H',I,q⟩:=h;exact#[sa,H',I.Dh,q]
 |brk=>obtain⟨sa,H',I,q⟩:=h;exact#[sa,H',I.Dh,q]
 |cont=>obtain⟨sa,H',I,q⟩:=h;exact#[sa,H',I.Dh,q]
 |ret u=>obtain⟨v,sa,H',I,r,q⟩:=h;exact#[v,sa,H',I.Dh,r,q]
def IK.KN{st:List Stmt}{t:TS}(h:IK X.KN st t):IK X st t:=λpins s U H D I hw=>aa5 (h pins s U H D (I.FE _) hw) (λ_ _ q=>q.Dh) λ_ _ z=>acU z
variable{st:Stmt}{rest:List Stmt}{t u:TS}{e:Expr}{te:TE}
def LD:TS:=λD U H=>D.nx U H
def Gq(t u:TS):TS:=λD U H=>t {D with nx:=u D} U H
def j4:IK X [] LD:=λ_ _ U H _ I h=>aeb #[U,H,I,h]
def aO(h1:PS X st t)(h2:IK X rest u):IK X (st::rest) (Gq t u):=by
 intro pins s U H D I h;refine wpAny_execs_cons (Bt (h1 pins s U H _ I h) λf s1 q=>?_);cases f with
 |next=>obtain⟨sa,H',I',q⟩:=q;exact h2 pins s1 sa H' D I' q
 |ret v=>exact q
 |brk=>exact q
 |cont=>exact q
def cQ(h1:PS X st t):IK X [st] t:=by
 intro pins s U H D I h;refine wpAny_execs_cons (Bt (h1 pins s U H D I h) λf s1 q=>?_);cases f with
 |next=>exact aeb q
 |ret v=>exact q
 |brk=>exact q
 |cont=>exact q
def Inv.quiet(I:Inv X pins U H s):interactive X.env=false:=by simp[interactive,I.ok.kind]
def Px(te:TE):TS:=λD U H=>te U H λ_ H1=>D.nx U H1
def j5(he:PE X e te)(hs:autoParam (ab3 e none pos.line X.env=pure false) At):PS X (.Expr e pos) (Px te):=by intro pins s U H D I h;exact wpAny_Expr_any (Bt (he pins s U H _ I h) λv s1 #[x,H1,I1,r1,q1]=>#[U,H1,I1,q1]) I.quiet hs
def ME(te:TE):TS:=λD U H=>te U H D.rt
def eN(he:PE X e te):PS X (.Return (some e) pos) (ME te):=by intro pins s U H D I h;exact wpAny_Return_some (Bt (he pins s U H _ I h) λv s1 #[x,H1,I1,r1,q1]=>#[x,U,H1,I1,r1,q1])
def Pw(c:TT)(t u:TS):TS:=λD U H=>c U H λb H1=>if b=true then t D U H1 else u D U H1
variable{tc:TT}
def qe{a b:List Stmt}(hc:PT X c tc)(ha:IK X a t)(hb:IK X b u):PS X (.If c a b pos) (Pw tc t u):=by
 intro pins s U H D I h;refine wpAny_If (Bt (hc pins s U H _ I h) λd s1 #[H1,I1,q1]=>?_);cases d with
 |true=>exact ha pins s1 U H1 D I1 q1
 |false=>exact hb pins s1 U H1 D I1 q1
abbrev TG:=V->St->Hp->(St->Hp->Prop)->Prop
abbrev Ju:=List V->St->Hp->(St->Hp->Prop)->Prop
def PG(X:Cx)(target:Expr)(t:TG):Prop :=
 ∀(pins:Aac) (s:Shared) (U:St) (H:Hp) (v:V) (u:Value) (Q:St->Hp->Prop),Inv X pins U H s->RelV v u->t v U H Q ->
  wpAny #[6] X.A (assign target X.env u) (λ_ s'=>∃sa H',Inv X pins sa H' s'/\Q sa H') X.xe s
def RG(X:Cx)(ts:Aai)(t:Ju):Prop :=
 ∀(pins:Aac) (s:Shared) (U:St) (H:Hp) (vs:Aag) (us:Aad) (Q:St->Hp->Prop),Inv X pins U H s->oF vs us->t vs U H Q ->
  wpAny #[6] X.A (assignInOrder ((acu ts X.env).map (·.2)) us) (λ_ s'=>∃sa H',Inv X pins sa H' s'/\Q sa H') X.xe s
abbrev Km:=V->V->V->Hp->(Hp->Prop)->Prop
def Ht(X:Cx)(t:Km):Prop :=
 ∀(pins:Aac) (s:Shared) (U:St) (H:Hp) (o i v:V) (ov iv u:Value) (Q:Hp->Prop),Inv X pins U H s->RelV o ov->RelV i iv->RelV v u->t o i v H Q ->
  wpAny #[6] X.A (setItem ov iv u) (λ_ s'=>∃H',Inv X pins U H' s'/\Q H') X.xe s
def By(i:Nat):TG:=λv U H Q=>Q (U.set i (some v)) H
def j7{x:Str}(hN:X.N.Nodup)(hi:X.N[i]?=some x)(hx:Loc X.env.scope x)(hf:autoParam (X.fn x=true\/X.env.scope.names.lookup x=some .local) ge):PG X (.Name x pos) (By i):=by intro pins s U H v u Q I r h;exact aeR (fz I hN hi hx r (λs' I'=>#[_,H,I',h]) hf)
def NK:Ju:=λvs U H Q=>vs=[]/\Q U H
def Hk(t:TG)(u:Ju):Ju:=λvs U H Q=>∃v r,vs=v::r/\t v U H λsa H'=>u r sa H' Q
def o7:RG X [] NK:=by intro pins s U H vs us Q I r h;obtain⟨e,h⟩:=h;subst e;exact assignInOrder_nil #[U,H,I,h]
def m5{es:Aai}{t:TG}{u:Ju}(h1:PG X e t)(h2:RG X es u)
  (hs:autoParam ((acu (e::es) X.env).map (·.2)=assign e X.env::(acu es X.env).map (·.2)) At):RG X (e::es) (Hk t u):=by
 intro pins s U H vs us Q I r h;obtain⟨v,vr,e1,h⟩:=h;subst e1;cases r with
 |cons r rr=>rw[hs];refine aeG (Bt (h1 pins s U H _ _ _ I r h) λ_ s1 #[ss,H1,I1,q1]=>?_);exact h2 pins s1 ss H1 _ _ Q I1 rr q1
def NI(K:aag)(n:Nat)(t:Ju):TG:=λv U H Q=>∃a xs,v=.ref a/\Cf K H a xs/\xs.length=n/\t xs U H Q
variable{k n:Nat}
def rG{es:Aai}{t:Ju}(hc:X.calm=true)(h:RG X es t)
  (hn:autoParam ((acu es X.env).length=n) At) (EZ:autoParam ((acu es X.env).findIdx? (·.1)=none) At):PG X (.Tuple es k pos) (NI X.K n t):=by
 intro pins s U H v u Q I r hw;obtain⟨a,xs,e1,hq,hl,hw⟩:=hw;subst e1;cases r;obtain⟨eQ,rv,ht,hz⟩:=I.tuple hq;refine assign_Tuple_tuple (I.ok.hd hc) ht (by simp[hn,<- hl,rv.length]) EZ λh' hx=>?_;have I1  := I.kept (t':=s.toks) λb o e=>hx b o (aap (aah e)) e;exact h pins _ U H xs _ Q I1 #[1] hw
def NJ(to ti:TE)(t:Km):TG:=λv U H Q=>to U H λo H1=>ti U H1 λi H2=>t o i v H2 λH3=>Q U H3
variable{to:TE}
def ju{o i:Expr}{ti:TE}{t:Km}(ho:PE X o to)(hi:PE X i ti)(hs:Ht X t)
  (ha:autoParam (∀v,assign (.Subscript o i pos) X.env v=(do
   let ov <- adp [v] (eval o X.env);let iv <- adp [v,ov] (eval i X.env)
   aec pos
   adp [v,ov,iv] (setItem ov iv v)
   release [v,ov,iv] [])) AT):PG X (.Subscript o i pos) (NJ to ti t):=by
 intro pins s U H v u Q I r h;refine aaa (aaX (Bt (ho pins s U H _ I h) λov s1 #[x,H1,I1,r1,q1]=>?_));refine aaa (aaX (Bt (hi pins s1 U H1 _ I1 q1) λiv s2 #[y,H2,I2,r2,q2]=>?_));refine aaa (aco (aaa (aaX (Bt (hs pins s2 U H2 x y v ov iv u _ I2 r1 r2 r q2) λ_ s3 #[H3,I3,q3]=>?_))));exact wpAny_release #[U,H3,I3,q3]
def FG(te:TE)(g:TG):TS:=λD U H=>te U H λx H1=>g x U H1 D.nx
variable{tg:Expr}
def gC{g:TG}(he:PE X e te)(hg:PG X tg g)(hs:autoParam (adT [tg] e pos.line X.env=pure false) At)(hw:autoParam (adU [tg] e X.env=pure none) At)
  (h1:autoParam ((acu [tg] X.env).map (·.2)=[assign tg X.env]) At):PS X (.Assign [tg] e pos) (FG te g):=by
 intro pins s U H D I h;refine wpAny_Assign_stores (Bt (he pins s U H _ I h) λv s1 #[x,H1,I1,r1,q1]=>?_) hs hw;rw[h1];exact Bt (hg pins s1 U H1 x v _ I1 r1 q1) λ_ s2 q=>q
variable{pos':Pos}
def bp{x:Str}(hN:X.N.Nodup)(hi:X.N[i]?=some x)(hx:Loc X.env.scope x)(he:PE X e te)(hs:autoParam (ab3 e (some (.Name x pos')) pos.line X.env=pure false) At)(hf:autoParam (X.fn x=true\/X.env.scope.names.lookup x=some .local) ge):
  PS X (.Assign [.Name x pos'] e pos) (FG te (By i)):=by
 intro pins s U H D I h;refine wpAny_Assign_Name (Bt (he pins s U H _ I h) λv s1 #[y,H1,I1,r1,q1]=>?_) hs;exact fz I1 hN hi hx r1 (λs2 I2=>#[_,H1,I2,q1]) hf
def SS(i j:Nat)(ta:TA):TS:=λD U H=>ta U H λvs H1=>∃v w,vs=[v,w]/\D.nx ((U.set i (some v)).set j (some w)) H1
variable{py:Pos}
def ym{x y:Str}{a:Expr}{ta:TA}{px pt:Pos}{kt k2 pt2}(hc:X.calm=true)(hN:X.N.Nodup)(hi:X.N[i]?=some x)(hj:X.N[j]?=some y)(EI:i≠j)
  (hx:X.env.scope.names.lookup x=some .local) (hy:X.env.scope.names.lookup y=some .local) (ha:PA X [a,b] ta)
  (hw:adU [.Tuple [.Name x px,.Name y py] kt pt] (.Tuple [a,b] k2 pt2) X.env=pure (some [x,y]))
  (hs:autoParam (adT [.Tuple [.Name x px,.Name y py] kt pt] (.Tuple [a,b] k2 pt2) pos.line X.env=pure false) At) :
  PS X (.Assign [.Tuple [.Name x px,.Name y py] kt pt] (.Tuple [a,b] k2 pt2) pos) (SS i j ta):=by
 intro pins s U H D I h;refine aaa (aco ?_);refine aaa (aae ?_);refine aaa (Tuple_ (Bt (ha _ pins s U H _ I h) λus s1 #[vs,H1,I1,r1,q1]=>?_));obtain⟨v,w,e1,q1⟩:=q1;subst e1;obtain⟨u1,u2,rfl,rv,DG⟩:∃u1 u2,us=[u1,u2]/\RelV v u1/\RelV w u2:=by
  cases r1 with
  |cons p q=>
   cases q with
   |cons p' q'=>cases q';exact#[_,_,rfl,p,p']
 refine aaZ ?_ (by show 2<=sizeLine;decide);have I2:Inv X pins U H1 {s1 with heap:=s1.heap.push {cls:=.type "tuple",data:=.seq [u1,u2].toArray}}:=I1.kept λb o e=>aac _ e;rw[hw];refine aaa (aae ?_);refine aaa (act (aaa (unpackItems_tuple (items:=#v[u1,u2]) (I.ok.hd hc) (afC s1.heap _) λh' KW=>?_)));have I3:=I2.kept (t':=s1.toks) λb o e=>KW b o (aap (aah e)) e;refine aaa (aeG (wpAny_bindName (fz I3 hN hj (.inl hy) DG (λs2 I4=>?_) (.inr hy))));refine aeG (wpAny_bindName (fz I4 hN hi (.inl hx) rv (λs3 I5=>assignInOrder_nil (aae ?_)) (.inr hx)));rw[List.set_comm _ _ (abz EI)]at I5;exact#[_,H1,I5,q1]
def MD(c:TT)(tb:TS):TS:=λD U H=>∃W:Nat->St->Hp->Prop,(∃m,W m U H)/\∀m U H,W m U H ->
 c U H λb H1=>if b=true then ∃N:St->Hp->Prop,(∀sa H',N sa H'->∃m',m'<m/\W m' sa H')/\tb {D with nx:=N,ct:=N,bk:=D.nx} U H1 else D.nx U H1
variable{body:List Stmt}
def ua{tb:TS}(hp:PassesOwn #[6] X.A X.env X.xe)(hc:PT X c tc)(hb:IK X body tb):PS X (.While c body [] pos) (MD tc tb):=by
 intro pins s U H D I h;obtain⟨W,⟨m0,w0⟩,turn⟩:=h;refine wpAny_While (codeAny_whileLoop (λn s'=>∃sa H',Inv X pins sa H' s'/\W n sa H') ?_ m0 #[U,H,I,w0]);rintro n s1 ⟨ss,H1,I1,w1⟩;refine acz hp (Bt (hc pins s1 ss H1 _ I1 (turn n ss H1 w1)) λb s2 #[H2,I2,q2]=>?_);cases b with
 |true=>
  obtain⟨N,hN,q2⟩:=q2;refine acz hp (Bt (hb pins s2 ss H2 _ I2 q2) λf s3 q3=>?_);cases f with
  |next=>obtain⟨sm,H3,I3,n3⟩:=q3;obtain⟨m',hm,w3⟩:=hN sm H3 n3;exact#[m',hm,sm,H3,I3,w3]
  |cont=>obtain⟨sm,H3,I3,n3⟩:=q3;obtain⟨m',hm,w3⟩:=hN sm H3 n3;exact#[m',hm,sm,H3,I3,w3]
  |brk=>exact q3
  |ret v=>exact q3
 |false=>exact aeb #[ss,H2,I2,q2]
structure It where
 go:Nat->Hp->Prop
 yld:Nat->Hp->V->Hp->Prop
 stop:Nat->Hp->Prop
def DL(X:Cx)(pins:Aac)(H:Hp)(b:Addr):Prop :=
 H b=none/\b≠X.env.locals/\b∉X.fs/\(b∈X.ex\/X.s0.heap.objs.size<=b)/\(∀x c,X.env.cells.lookup x=some c->c≠b)/\∀p∈X.pn++pins,p.1≠b
def Inv.GH{b:Addr}(I:Inv X pins U H s)(hb:s.heap.objs.size<=b)(hn:H' b=none):DL X pins H' b:=by
 refine#[hn,abF (aaP I.lt hb),I.Tn hb,.inr (aaK I.sz hb),λx c e z=>?_,λp hp z=>?_]
 .obtain⟨v,q⟩:=I.cell x c e;exact absurd (aaP q.lt #[1]) (abY _)
 .exact absurd (aaP (aah (I.pin p hp).1) #[1]) (abY _)
structure Turn(P:aaC)(w:World)(K:aag)(tg:Expr)(J:It)(fp:Aaj)(it:Addr)(tn:Nat->Heap->Prop):Prop where
 mem:it∈fp
 obj:∀i h,tn i h->∀b∈fp,∃o,h.get? b=some o/\∀v,o.data≠.cell v
 keep:∀i h h',tn i h->(∀b∈fp,∀o,h.get? b=some o->h'.get? b=some o)->tn i h'
 item:∀(X:Cx),X.prog=P->X.w=w->X.K=K->X.calm=true->∀(i:Nat) (pins:Aac) (s:Shared) (U:St) (H:Hp) (E:Aaa),Inv X pins U H s->(∀b∈fp,DL X pins H b)->tn i s.heap->J.go i H ->
  wpAny (model P w) X.A (pyNext (.ref it)) (λr s1=>∃u,r=some u /\
   wpAny (model P w) X.A (acW tg (.ref it) u) (λ_ s2=>∃x H',Inv X pins U H' s2/\RelV x u/\J.yld i H x H'/\tn (i+1) s2.heap/\∀b∈fp,H' b=none) E s1) E s
 done:∀(X:Cx),X.prog=P->X.w=w->X.K=K->X.calm=true->∀(i:Nat) (pins:Aac) (s:Shared) (U:St) (H:Hp) (E:Aaa),Inv X pins U H s->(∀b∈fp,DL X pins H b)->tn i s.heap->J.stop i H ->
  wpAny (model P w) X.A (pyNext (.ref it)) (λr s1=>r=none/\Inv X pins U H s1) E s
 self:∀(A:Around) (i:Nat) (s:Shared) (Q:Aaa) (E:Aaa),tn i s.heap->Q (.ref it) s->wpAny (model P w) A (pyIter (.ref it)) Q E s
abbrev TI:=St->Hp->(It->Hp->Prop)->Prop
def W9(X:Cx)(pins:Aac)(U:St)(tg:Expr)(R:It->Hp->Prop)(R8:Value)(s2:Shared):Prop :=
 ∃(it:Addr) (fp:Aaj) (tn:Nat->Heap->Prop) (J:It) (H':Hp),R8=.ref it/\Inv X pins U H' s2/\Turn X.prog X.w X.K tg J fp it tn/\tn 0 s2.heap/\(∀b∈fp,DL X pins H' b)/\R J H'
def PI(X:Cx)(tg iter:Expr)(wi:TI):Prop :=
 ∀(pins:Aac) (s:Shared) (U:St) (H:Hp) (R:It->Hp->Prop),Inv X pins U H s->wi U H R ->
  wpAny #[6] X.A (eval iter X.env) (λv s1=>wpAny #[6] X.A (pyIter v) (W9 X pins U tg R) X.xe s1) X.xe s
def mI{u:Value}{o:Obj}{n:String}{vs:Aak}(ho:s.heap.get? it=some o)(hc:o.cls=.type n)(hd:o.data=.fields vs)
  (hn:["enumerate", "zip", "dict_itemiterator", "dict_reverseitemiterator", "odict_iterator", "itertools.zip_longest", "itertools.pairwise"].contains n=false) (hQ:Q () s):wpAny M A (acW tg (.ref it) u) Q E s:=by
 cases tg<;>first
  |exact aae hQ
  |(cases u<;>first
    |exact aae hQ
    |(
      refine aaa (wpAny_load ho ?_);rw[hc,hd];show wpAny M A (if (["enumerate", "zip", "dict_itemiterator", "dict_reverseitemiterator", "odict_iterator", "itertools.zip_longest", "itertools.pairwise"].contains n && vs[0]?==some _)=true then _ else _) Q E s;rw[if_neg #[1]];exact aae hQ))
noncomputable def N4(K:aag)(a:Addr):It :=
 #[λi H=>∃xs x,Cr K H a xs/\xs[i]?=some x,λi H x H'=>H'=H/\∀xs,Cr K H a xs->xs[i]?=some x,λi H=>∃xs,Cr K H a xs/\xs.length<=i]
noncomputable def Vn(K:aag)(a:Addr):It :=
 #[λi H=>∃xs x,Cf K H a xs/\xs[i]?=some x,λi H x H'=>H'=H/\∀xs,Cf K H a xs->xs[i]?=some x,λi H=>∃xs,Cf K H a xs/\xs.length<=i]
noncomputable def SD(lo:Int)(n:Nat):It:=#[λi _=>i<n,λi H x H'=>H'=H/\x=.int (lo+i),λi _=>n<=i]
def lj(a it:Addr):Turn P w K tg (N4 K a) [it] it (λi h=>h.IsListIter it a i) where
 mem:=by simp
 obj:=λi h st b hb=>by
  have e:b=it:=by simp_all
  subst e;obtain⟨o,e,c,d⟩:=st;exact#[o,e,λv z=>#[1]]
 keep:=λi h h' st k=>st.at λo e=>k it #[0] o e
 item:=by intro X hP hw hK hc i pins s U H E I hf st hg;subst hP hw hK;obtain⟨xs,x,hq,hx⟩:=hg;obtain⟨eQ,rv,p,hz⟩:=I.list hq;obtain⟨u,hu,ru⟩:=rv.get hx;obtain⟨f0,f1,f2,f3,f4,f5⟩:=hf it #[0];refine wpAny_pyNext_list_item st p.isList (x:=u) #[1] λh' FH sb=>?_;have I1  := I.turned (t':=s.toks) (λb o hb e=>(sb.2 b hb).trans e) f0 f1 f3 f4 f5;obtain⟨o,e,c,d⟩:=id FH;exact#[u,rfl,mI e c d (rfl) #[x,H,I1,ru,#[rfl,λys hy=>by rw[I.D6 hy hq];exact hx],FH,λb hb=>(hf b hb).1]]
 done:=by intro X hP hw hK hc i pins s U H E I hf st hg;subst hP hw hK;obtain⟨xs,hq,hx⟩:=hg;obtain⟨eQ,rv,p,hz⟩:=I.list hq;obtain⟨f0,f1,f2,f3,f4,f5⟩:=hf it #[0];have hl:=rv.length;exact wpAny_pyNext_list_end (I.ok.hd hc) st p.isList #[1] λh' eb=>#[rfl,I.turned (λb o hb e=>eb b o hb e) f0 f1 f3 f4 f5]
 self:=λ_ _ _ _ _ st h=>wpAny_pyIter_listiter st h
def pW(a it:Addr):Turn P w K tg (Vn K a) [it] it (λi h=>h.IsTupleIter it a i) where
 mem:=by simp
 obj:=λi h st b hb=>by
  have e:b=it:=by simp_all
  subst e;obtain⟨o,e,c,d⟩:=st;exact#[o,e,λv z=>#[1]]
 keep:=λi h h' st k=>st.at λo e=>k it #[0] o e
 item:=by intro X hP hw hK hc i pins s U H E I hf st hg;subst hP hw hK;obtain⟨xs,x,hq,hx⟩:=hg;obtain⟨eQ,rv,p,hz⟩:=I.tuple hq;obtain⟨u,hu,ru⟩:=rv.get hx;obtain⟨f0,f1,f2,f3,f4,f5⟩:=hf it #[0];refine wpAny_pyNext_tuple_item st (p) (x:=u) #[1] λh' FH sb=>?_;have I1  := I.turned (t':=s.toks) (λb o hb e=>(sb.2 b hb).trans e) f0 f1 f3 f4 f5;obtain⟨o,e,c,d⟩:=id FH;exact#[u,rfl,mI e c d (rfl) #[x,H,I1,ru,#[rfl,λys hy=>by rw[I.CU hy hq];exact hx],FH,λb hb=>(hf b hb).1]]
 done:=by intro X hP hw hK hc i pins s U H E I hf st hg;subst hP hw hK;obtain⟨xs,hq,hx⟩:=hg;obtain⟨eQ,rv,p,hz⟩:=I.tuple hq;obtain⟨f0,f1,f2,f3,f4,f5⟩:=hf it #[0];have hl:=rv.length;exact wpAny_pyNext_tuple_end (I.ok.hd hc) st (p) #[1] λh' eb=>#[rfl,I.turned (λb o hb e=>eb b o hb e) f0 f1 f3 f4 f5]
 self:=λ_ _ _ _ _ st h=>wpAny_pyIter_tupleiter st h
theorem pX(it:Addr)(lo:Int)(n:Nat):Turn P w K tg (SD lo n) [it] it (λi h=>IsRangeIter h it (lo+(i:Nat)*1) ((n:Int) - (i:Nat)) 1) where
 mem:=by simp
 obj:=λi h st b hb=>by simp_all
 keep:=λi h h' st k=>k it #[0] _ st
 item:=by intro X hP hw hK hc i pins s U H E I hf st hg;subst hP hw hK;obtain⟨f0,f1,f2,f3,f4,f5⟩:=hf it #[0];have W:=Walks.range (prog:=X.prog) (w:=X.w) (I.ok.hd hc) it lo 1 n;refine W.item i s _ _ hg st λv h' tk hv FH kk=>?_;obtain⟨t,rfl⟩:=hv;have I1:Inv X pins U H {s with heap:=h',toks:=tk}:=I.turned (λb o hb e=>kk b o #[1] e) f0 f1 f3 f4 f5;refine#[_,rfl,mI FH rfl rfl (rfl) #[.int _,H,I1,#[t,?_],#[rfl,rfl],FH,λb hb=>(hf b hb).1]];rw[Int.mul_one]
 done:=by intro X hP hw hK hc i pins s U H E I hf st hg;obtain⟨f0,f1,f2,f3,f4,f5⟩:=hf it #[0];exact wpAny_pyNext_range_end (I.ok.hd hc) st (by have:n<=i:=hg;omega) λh' eb=>#[rfl,I.turned (λb o hb e=>eb b o hb e) f0 f1 f3 f4 f5]
 self:=λ_ _ _ _ _ st h=>wpAny_pyIter_rangeiter st h
def QJ(K:aag)(tl:TE):TI:=λU H R=>tl U H λx H1=>∃a,x=.ref a/\(∃xs,Cr K H1 a xs)/\R (N4 K a) H1
def wq{l:Expr}{tl:TE}(hl:PE X l tl):PI X tg l (QJ X.K tl):=by
 intro pins s U H R I h;refine Bt (hl pins s U H _ I h) λv s1 #[x,H1,I1,r1,q1]=>?_;obtain⟨a,e,⟨xs,hq⟩,q⟩:=q1;subst e;cases r1;obtain⟨eQ,rv,p,hz⟩:=I1.list hq;refine ach p.isList ?_;refine#[s1.heap.objs.size,[s1.heap.objs.size],_,_,H1,rfl,I1.kept (t':=s1.toks) λb o e=>aac _ e,lj a _,#[_,aaf _ rfl,rfl,rfl],λb hb=>?_,q];have e:b=s1.heap.objs.size:=by simpa using hb
 subst e;exact I1.GH (aai _) (I1.Bc.fresh (aai _))
theorem t4{R:It->Hp->Prop}{lo hi:Int}{t u v:Tok}{tk:Nat}(I:Inv X pins U H s)(h1 : -(2 ^ 62)<=lo)(h2:lo<2 ^ 62)(h3 : -(2 ^ 62)<=hi)(h4:hi<2 ^ 62)
  (q:R (SD lo (hi - lo).toNat) H):wpAny #[6] X.A (pyIter (.ref s.heap.objs.size)) (W9 X pins U tg R) E {s with heap:=s.heap.push {cls:=.type "range",data:=.fields #v[.int lo t,.int hi u,.int 1 v]},toks:=tk}:=by
 refine wpAny_pyIter_range (IsRange.new ..) (small_one h1 h2 h3 h4) ?_;have I1:Inv X pins U H {s with heap:=s.heap.push {cls:=.type "range",data:=.fields #v[.int lo t,.int hi u,.int 1 v]},toks:=tk}:=I.kept λb o e=>aac _ e;refine#[(s.heap.push {cls:=.type "range",data:=.fields #v[.int lo t,.int hi u,.int 1 v]}).objs.size,[(s.heap.push {cls:=.type "range",data:=.fields #v[.int lo t,.int hi u,.int 1 v]}).objs.size],_,_,H,rfl,
  I1.kept (t':=tk) λb o e=>aac _ e,pX _ lo (hi - lo).toNat,?_,λb hb=>?_,q]
 .have e1:lo+((0:Nat):Int)*1=lo:=by simp
  have e2:(((hi - lo).toNat:Nat):Int) - ((0:Nat):Int)=Builtin.Range.rangeSize lo hi 1:=by rw[rangeSize_one];split<;>omega
  show IsRangeIter _ _ (lo+((0:Nat):Int)*1) ((((hi - lo).toNat:Nat):Int) - ((0:Nat):Int)) 1;rw[e1,e2];exact aaf _ rfl
 .have e:b=(s.heap.push {cls:=.type "range",data:=.fields #v[.int lo t,.int hi u,.int 1 v]}).objs.size:=by simpa using hb
  subst e;exact I1.GH (aai _) (I1.Bc.fresh (aai _))
def QI(ta:TA):TI:=λU H R=>ta U H λvs H1=>∃j:Int,vs=[.int j] /\ -(2 ^ 62)<=j/\j<2 ^ 62/\R (SD 0 j.toNat) H1
variable{p:Pos}
theorem rF{a:Expr}{ta:TA}(hg:Gl X "range")(hm:X.mg "range" = none)(ha:PA X [a] ta)(hs:autoParam (aal [a] X.env=[(false,eval a X.env)]) At):PI X tg (.Call (.Name "range" p) [a] [] pos) (QI ta):=by
 intro pins s U H R I h;refine Call_ (cw I hg hm boot_range (ab5 (Bt (ha pos pins s U H _ I h) λus s1 #[vs,H1,I1,r1,q1]=>?_) hs rfl));obtain⟨j,e,q1,q2,q⟩:=q1;subst e;cases r1 with
 |cons r rr=>cases rr;obtain⟨t,rfl⟩:=r;exact call_range_1 (t4 I1 #[] #[] q1 q2 #[1])
def SV(wi:TI)(g:TG)(tb:TS):TS:=λD U H=>wi U H λJ H1=>∃W:Nat->Nat->St->Hp->Prop,(∃m,W 0 m U H1)/\∀i m U H,W i m U H ->
 (J.stop i H/\D.nx U H)\/(J.go i H/\∃N:St->Hp->Prop,(∀sa H',N sa H'->∃m',m'<m/\W (i+1) m' sa H')/\∀x H',J.yld i H x H'->g x U H' λsl H2=>tb {D with nx:=N,ct:=N,bk:=D.nx} sl H2)
noncomputable def Fc(fp:Aaj)(h:Heap):Aac:=fp.filterMap λb=>(h.get? b).map λo=>(b,o)
variable{fp:Aaj}
def bC{b:Addr}{o:Obj}(hb:b∈fp)(e:h.get? b=some o):(b,o)∈Fc fp h:=List.mem_filterMap.mpr #[b,hb,by rw[e];rfl]
def sg{p:Addr×Obj}(hp:p∈Fc fp h):p.1∈fp/\h.get? p.1=some p.2:=by
 obtain⟨b,hb,e⟩:=List.mem_filterMap.mp hp;cases q:h.get? b with
 |none=>rw[q]at e;cases e
 |some o=>rw[q]at e;have e'  := aar e;subst e';exact#[hb,q]
def Inv.pinned(I:Inv X pins U H s)(hf:∀b∈fp,DL X pins H b)(ho:∀b∈fp,∃o,s.heap.get? b=some o/\∀v,o.data≠.cell v):Inv X (pins++Fc fp s.heap) U H s :=
 I.Iv λp hp=>(List.mem_append.mp hp).elim (λz=>I.pin p (aaH _ z)) λz=>by obtain⟨hb,e⟩:=sg z;obtain⟨f0,f1,f2,_⟩:=hf p.1 hb;obtain⟨o,e',d⟩:=ho p.1 hb;rw[e]at e';cases e';exact#[e,f0,f1,f2,d]
def Inv.Di{pl:Aac}(I:Inv X (pins++pl) U H s):Inv X pins U H s:=I.Iv λp hp=>I.pin p (aaH _ (abt _ hp))
def rC{iter:Expr}{wi:TI}{g:TG}{tb:TS}(hp:PassesOwn #[6] X.A X.env X.xe)(hc:X.calm=true)(hi:PI X tg iter wi)(hg:PG X tg g)(hb:IK X body tb)
  (hs:autoParam (∀x,aaB iter X.env x=pure x) AT):PS X (.For tg iter body [] pos) (SV wi g tb):=by
 intro pins s U H D I h;refine wpAny_For (Bt (hi pins s U H _ I h) λv s1 h1=>Bt h1 λR8 s2 h2=>?_) hs;obtain⟨it,fp,tn,J,H2,e,I2,T,RY,f2,W,⟨m0,w0⟩,turn⟩:=h2;subst e;have MH:∀{H':Hp},(∀b∈fp,H' b=none)->∀b∈fp,DL X pins H' b:=λhn b hb=>#[hn b hb,(f2 b hb).2]
 refine codeAny_forLoop_any (λn s'=>∃i sa H',Inv X pins sa H' s'/\tn i s'.heap/\(∀b∈fp,H' b=none)/\W i n sa H') ?_ m0 #[0,U,H2,I2,RY,λb hb=>(f2 b hb).1,w0];rintro n s3 ⟨i,sm,H3,I3,VS,W0,w3⟩;rcases turn i n sm H3 w3 with ⟨stop,qn⟩|⟨go,N,hN,step⟩
 .refine acz hp (Bt (T.done X rfl rfl rfl hc i pins s3 sm H3 X.xe I3 (MH W0) VS stop) λr s4 #[hr,I4]=>?_);subst hr;exact aeb #[sm,H3,I4,qn]
 .refine acz hp (Bt (T.item X rfl rfl rfl hc i pins s3 sm H3 X.xe I3 (MH W0) VS go) λr s4 #[u,hr,h4]=>?_);subst hr;refine acz hp (Bt h4 λ_ s5 #[x,H5,I5,r5,y5,Oe,Sr]=>?_);have I5':=I5.pinned (MH Sr) (T.obj _ _ Oe);refine acz hp (Bt (hg _ s5 sm H5 x u _ I5' r5 (step x H5 y5)) λ_ s6 #[sw,H6,I6,q6]=>?_);refine acz hp (Bt (hb _ s6 sw H6 _ I6 q6) λf s7 q7=>?_);have again:∀{sq:St} {H7:Hp},Inv X (pins++Fc fp s5.heap) sq H7 s7->N sq H7->∃m,m<n/\∃i sa H',Inv X pins sa H' s7/\tn i s7.heap/\(∀b∈fp,H' b=none)/\W i m sa H':=λ{sq H7} I7 n7=>by obtain⟨m',hm,w7⟩:=hN sq H7 n7;refine#[m',hm,i+1,sq,H7,I7.Di,T.keep _ _ _ Oe λb hb o e=>(I7.pin (b,o) (aaH _ (aaH _ (bC hb e)))).1,λb hb=>?_,w7];obtain⟨o,e,d⟩:=T.obj _ _ Oe b hb;exact(I7.pin (b,o) (aaH _ (aaH _ (bC hb e)))).2.1
  cases f with
  |next=>obtain⟨sq,H7,I7,n7⟩:=q7;exact again I7 n7
  |cont=>obtain⟨sq,H7,I7,n7⟩:=q7;exact again I7 n7
  |brk=>obtain⟨sq,H7,I7,q7⟩:=q7;exact#[sq,H7,I7.Di,q7]
  |ret v=>obtain⟨x7,sq,H7,I7,r7,q7⟩:=q7;exact#[x7,sq,H7,I7.Di,r7,q7]
theorem uR{g:TG}{tb:TS}{D:Ends}(Pv:Nat->St->Hp->Prop)(h0:Pv 0 U H)(hl:∀i U H,i<=xs.length->Pv i U H->Cr K H a xs)
  (hs:∀i x U H,xs[i]?=some x->Pv i U H->g x U H λsl H2=>tb {D with nx:=Pv (i+1),ct:=Pv (i+1),bk:=D.nx} sl H2) (hd:∀U H,Pv xs.length U H->D.nx U H) :
  ∃W:Nat->Nat->St->Hp->Prop,(∃m,W 0 m U H)/\∀i m U H,W i m U H ->
   ((N4 K a).stop i H/\D.nx U H)\/((N4 K a).go i H/\∃N:St->Hp->Prop,(∀sa H',N sa H'->∃m',m'<m/\W (i+1) m' sa H')/\∀x H',(N4 K a).yld i H x H'->g x U H' λsl H2=>tb {D with nx:=N,ct:=N,bk:=D.nx} sl H2):=by
 refine#[λi m U H=>m=xs.length - i/\i<=xs.length/\Pv i U H,#[xs.length,#[0],abg _,h0],?_];rintro i m U H ⟨rfl,hi,p⟩;have q:=hl i U H hi p;by_cases BU:i<xs.length
 .refine .inr #[#[xs,xs[i],q,#[1]],_,λsa H' p'=>#[_,#[],rfl,BU,p'],λx H' y=>?_];obtain⟨e,y⟩:=y;subst e;exact hs i x U _ (y xs q) p
 .have e:i=xs.length:=by omega
  subst e;exact .inl #[#[xs,q,aai _],hd U H p]
abbrev R2:=V->V->Hp->VK->Prop
def BX(X:Cx)(f:Value->Value->Sem Value)(r:R2):Prop :=
 ∀(pins:Aac) (s:Shared) (U:St) (H:Hp) (x y:V) (v u:Value) (Q:VK),Inv X pins U H s->RelV x v->RelV y u->r x y H Q ->
  wpAny #[6] X.A (f v u) (EP X pins U Q) X.xe s
def Vi(X:Cx)(f:Value->Sem Value)(r:V->Hp->VK->Prop):Prop :=
 ∀(pins:Aac) (s:Shared) (U:St) (H:Hp) (x:V) (v:Value) (Q:VK),Inv X pins U H s->RelV x v->r x H Q ->
  wpAny #[6] X.A (f v) (EP X pins U Q) X.xe s
def Bd(X:Cx)(f:Value)(r:Aag->Hp->VK->Prop):Prop :=
 ∀(pins:Aac) (s:Shared) (U:St) (H:Hp) (xs:Aag) (us:Aad) (Q:VK),Inv X pins U H s->oF xs us->r xs H Q ->
  wpAny #[6] X.A (call f us) (EP X pins U Q) X.xe s
def Vj(X:Cx)(r:V->Hp->(Bool->Hp->Prop)->Prop):Prop :=
 ∀(pins:Aac) (s:Shared) (U:St) (H:Hp) (x:V) (v:Value) (Q:Bool->Hp->Prop),Inv X pins U H s->RelV x v->r x H Q ->
  wpAny #[6] X.A (truthy v) (TP X pins U Q) X.xe s
def E6(r:R2)(ta tb:TE):TE:=λU H Q=>ta U H λx H1=>tb U H1 λy H2=>r x y H2 Q
def SO(r:V->Hp->VK->Prop)(ta:TE):TE:=λU H Q=>ta U H λx H1=>r x H1 Q
def rI(C:Int->Int->Prop)(g:Int->Int->V):R2:=λx y H Q=>∃i j,x=.int i/\y=.int j/\C i j/\Q (g i j) H
def Gy(g:Int->Int->V):R2:=λx y H Q=>∃i j,x=.int i/\y=.int j/\Q (g i j) H
def rU(g:Int->V):V->Hp->VK->Prop:=λx H Q=>∃i,x=.int i/\Q (g i) H
variable{a:Expr}{tc:TE}
def NU(ha:PE X a ta)(hb:PE X b tb){R:V->V->Hp->Prop}(I:Inv X pins U H s)
  (h:ta U H λx H1=>tb U H1 λy H2=>R x y H2) {Q:Aaa} {f:Value->Value->Sem Value}
  (hf:∀v u s2 x y H2,Inv X pins U H2 s2->RelV x v->RelV y u->R x y H2->wpAny #[6] X.A (f v u) Q X.xe s2) :
  wpAny #[6] X.A (eval a X.env) (λv sc=>wpAny #[6] X.A (eval b X.env) (λu st=>wpAny #[6] X.A (f v u) Q X.xe st) X.xe sc) X.xe s:=by
 refine Bt (ha pins s U H _ I h) λv s1 #[x,H1,I1,r1,q1]=>?_;refine Bt (hb pins s1 U H1 _ I1 q1) λu s2 #[y,H2,I2,r2,q2]=>?_;exact hf v u s2 x y H2 I2 r1 r2 q2
variable{r:R2}
def aF{op:Operator}(ho:BX X (acg op) r)(ha:PE X a ta)(hb:PE X b tb):PE X (.BinOp a op b pos) (E6 r ta tb):=by intro pins s U H Q I h;exact wpAny_BinOp (NU ha hb I h λv u s2 x y H2 I2 rx ry q=>ho pins s2 U H2 x y v u Q I2 rx ry q)
def vA{op:UnaryOp}{r:V->Hp->VK->Prop}(ho:Vi X (unaryOp op) r)(ha:PE X a ta):PE X (.UnaryOp op a pos) (SO r ta):=by intro pins s U H Q I h;exact UnaryOp_ (Bt (ha pins s U H _ I h) λv s1 #[x,H1,I1,r1,q1]=>ho pins s1 U H1 x v Q I1 r1 q1)
variable{f:Value->Value->Sem Value}
def R3{C:Int->Int->Prop}{g:Int->Int->Int}
  (rule:∀(i j:Int) (t u:Tok) (s:Shared) (Q:Aaa) (E:Aaa),C i j->Q (.int (g i j) s.toks) {s with toks:=s.toks+1}->wpAny #[6] X.A (f (.int i t) (.int j u)) Q E s) :
  BX X f (rI C λi j=>.int (g i j)):=by
 intro pins s U H x y v u Q I rx ry h;obtain⟨i,j,rfl,rfl,hc,q⟩:=h;obtain⟨t,rfl⟩:=rx;obtain⟨t',rfl⟩:=ry;exact rule i j t t' s _ _ hc #[.int _,H,I.tok _,#[_,rfl],q]
def Qg{g:Int->Int->Int}
  (rule:∀(i j:Int) (t u:Tok) (s:Shared) (Q:Aaa) (E:Aaa),Q (.int (g i j) s.toks) {s with toks:=s.toks+1}->wpAny #[6] X.A (f (.int i t) (.int j u)) Q E s) :
  BX X f (Gy λi j=>.int (g i j)):=by
 intro pins s U H x y v u Q I rx ry h;obtain⟨i,j,rfl,rfl,q⟩:=h;obtain⟨t,rfl⟩:=rx;obtain⟨t',rfl⟩:=ry;exact rule i j t t' s _ _ #[.int _,H,I.tok _,#[_,rfl],q]
def KL{g:Int->Int->Bool}
  (rule:∀(i j:Int) (t u:Tok) (s:Shared) (Q:Aaa) (E:Aaa),Q (.bool (g i j)) s->wpAny #[6] X.A (f (.int i t) (.int j u)) Q E s) :
  BX X f (Gy λi j=>.bl (g i j)):=by
 intro pins s U H x y v u Q I rx ry h;obtain⟨i,j,rfl,rfl,q⟩:=h;obtain⟨t,rfl⟩:=rx;obtain⟨t',rfl⟩:=ry;exact rule i j t t' s _ _ #[.bl _,H,I,rfl,q]
def Oa(i j:Int):Prop:=0<j/\j<1073741824
def Vy(i j:Int):Prop:=0<=j/\j<=1000000/\i.natAbs<2 ^ 64
def Hw(i j:Int):Prop:=(-(2 ^ 64)<i/\i<2 ^ 64)\/(-(2 ^ 64)<j/\j<2 ^ 64)
def Hw.ok{i j:Int}(h:Hw i j):IntMulOk i j:=by
 rcases h with ⟨h1,h2⟩|⟨h1,h2⟩
 .exact .of_left (intBits_le_64 h1 h2)
 .exact .of_right (intBits_le_64 h1 h2)
def dg:BX X (acg .Add) (Gy λi j=>.int (i+j)):=Qg λ_ _ _ _ _ _ _ q=>add_int q
def yC:BX X (acg .Sub) (Gy λi j=>.int (i - j)):=Qg λ_ _ _ _ _ _ _ q=>sub_int q
def cq:BX X (acg .Mult) (rI Hw λi j=>.int (i*j)):=R3 λ_ _ _ _ _ _ _ hc q=>mul_int q hc.ok
theorem ko:BX X (acg .FloorDiv) (rI Oa λi j=>.int (i / j)):=R3 λi j _ _ _ _ _ hc q=>by have h1  := hc.1;have h2  := hc.2;exact floordiv_int #[] (by rw[Int.fdiv_eq_ediv_of_nonneg i #[]];exact q) (.inl (PyProof.noPylong_small #[]))
theorem cr:BX X (acg .Mod) (rI (λ_ j=>0<j) λi j=>.int (i % j)):=R3 λi j _ _ _ _ _ hc q=>by exact mod_int' #[] (by rw[Int.fmod_eq_emod_of_nonneg i #[]];exact q)
def rS:BX X (acg .Pow) (rI Vy λi j=>.int (i ^ j.toNat)):=R3 λ_ _ _ _ _ _ _ hc q=>pow_int_small hc.1 hc.2.1 hc.2.2 q
def Xl{f:Value->Sem Value}{g:Int->Int}
  (rule:∀(i:Int) (t:Tok) (s:Shared) (Q:Aaa) (E:Aaa),Q (.int (g i) s.toks) {s with toks:=s.toks+1}->wpAny #[6] X.A (f (.int i t)) Q E s) :
  Vi X f (rU λi=>.int (g i)):=by
 intro pins s U H x v Q I rx h;obtain⟨i,rfl,q⟩:=h;obtain⟨t,rfl⟩:=rx;exact rule i t s _ _ #[.int (g i),H,I.tok _,#[_,rfl],q]
def qP:Vi X (unaryOp .USub) (rU λi=>.int (-i)):=Xl λ_ _ _ _ _ q=>neg_int q
noncomputable def KI:V->V->Bool
 |.AZ,.AZ=>true|.AZ,.int _=>true|.int _,.AZ=>true|.AZ,.bl _=>true|.bl _,.AZ=>true|.AZ,.str _=>true|.str _,.AZ=>true
 |.int _,.int _=>true|.bl _,.bl _=>true|.str _,.str _=>true|.Jh _,.Jh _=>true
 |.int _,.str _=>true|.str _,.int _=>true|.bl _,.str _=>true|.str _,.bl _=>true
 |_,_=>false
def XA:R2:=λx y H Q=>KI x y=true/\Q (.bl (decide (x=y))) H
def Tc:R2:=λx y H Q=>KI x y=true/\Q (.bl (!decide (x=y))) H
def pI{i j:Int}:decide (V.int i=V.int j)=(i==j):=by rw[aaQ];simp
def tB{i j:Bool}:decide (V.bl i=V.bl j)=(i==j):=by rw[aaQ];simp
def pH{i j:Str}:decide (V.str i=V.str j)=(i==j):=by rw[aaQ];simp
def pJ{i j:Array UInt8}:decide (V.Jh i=V.Jh j)=(i.toList==j.toList):=by rw[aaQ];cases i;cases j;simp
def aw{Q:VK}{k k':Bool}(I:Inv X pins U H s)(q:Q (.bl k) H)(e:k=k'):EP X pins U Q (.bool k') s:=by subst e;exact#[.bl k,H,I,rfl,q]
def AE:BX X (aa1 .Eq) XA:=by
 intro pins s U H x y v u Q I rx ry h;obtain⟨hs,q⟩:=h;cases x with
 |AZ=>
  cases rx;cases y with
  |AZ=>cases ry;exact PySem.EqNone.eq_none_none (aw I q #[0])
  |bl j=>cases ry;exact PySem.EqNone.eq_none_bool (aw I q #[0])
  |int j=>obtain⟨t',rfl⟩:=ry;exact PySem.EqNone.eq_none_int (aw I q #[0])
  |str j=>obtain⟨t',rfl⟩:=ry;exact PySem.EqNone.eq_none_str (aw I q #[0])
  |_=>exact absurd (show false=true from hs) aaN
 |bl i=>
  cases rx;cases y with
  |AZ=>cases ry;exact PySem.EqNone.eq_bool_none (aw I q #[0])
  |bl j=>cases ry;exact eq_bool (aw I q tB)
  |str j=>obtain⟨t',rfl⟩:=ry;exact PySem.EqMixed.eq_bool_str (aw I q #[0])
  |_=>exact absurd (show false=true from hs) aaN
 |int i=>
  obtain⟨t,rfl⟩:=rx;cases y with
  |AZ=>cases ry;exact PySem.EqNone.eq_int_none (aw I q #[0])
  |int j=>obtain⟨t',rfl⟩:=ry;exact eq_int (aw I q pI)
  |str j=>obtain⟨t',rfl⟩:=ry;exact PySem.EqMixed.eq_int_str (aw I q #[0])
  |_=>exact absurd (show false=true from hs) aaN
 |str i=>
  obtain⟨t,rfl⟩:=rx;cases y with
  |AZ=>cases ry;exact PySem.EqNone.eq_str_none (aw I q #[0])
  |bl j=>cases ry;exact PySem.EqMixed.eq_str_bool (aw I q #[0])
  |int j=>obtain⟨t',rfl⟩:=ry;exact PySem.EqMixed.eq_str_int (aw I q #[0])
  |str j=>obtain⟨t',rfl⟩:=ry;exact eq_str (aw I q pH)
  |_=>exact absurd (show false=true from hs) aaN
 |Jh i=>
  obtain⟨t,rfl⟩:=rx;cases y with
  |Jh j=>obtain⟨t',rfl⟩:=ry;exact PySem.W.eq_bytes (aw I q pJ)
  |_=>exact absurd (show false=true from hs) aaN
 |_=>cases y<;>exact absurd (show false=true from hs) aaN
def AA:BX X (aa1 .NotEq) Tc:=by
 intro pins s U H x y v u Q I rx ry h;obtain⟨hs,q⟩:=h;cases x with
 |AZ=>
  cases rx;cases y with
  |AZ=>cases ry;exact PySem.EqNone.ne_none_none (aw I q #[0])
  |bl j=>cases ry;exact PySem.EqNone.ne_none_bool (aw I q #[0])
  |int j=>obtain⟨t',rfl⟩:=ry;exact PySem.EqNone.ne_none_int (aw I q #[0])
  |str j=>obtain⟨t',rfl⟩:=ry;exact PySem.EqNone.ne_none_str (aw I q #[0])
  |_=>exact absurd (show false=true from hs) aaN
 |bl i=>
  cases rx;cases y with
  |AZ=>cases ry;exact PySem.EqNone.ne_bool_none (aw I q #[0])
  |bl j=>cases ry;exact ne_bool (aw I q (congrArg not tB))
  |str j=>obtain⟨t',rfl⟩:=ry;exact PySem.EqMixed.ne_bool_str (aw I q #[0])
  |_=>exact absurd (show false=true from hs) aaN
 |int i=>
  obtain⟨t,rfl⟩:=rx;cases y with
  |AZ=>cases ry;exact PySem.EqNone.ne_int_none (aw I q #[0])
  |int j=>obtain⟨t',rfl⟩:=ry;exact ne_int (aw I q (congrArg not pI))
  |str j=>obtain⟨t',rfl⟩:=ry;exact PySem.EqMixed.ne_int_str (aw I q #[0])
  |_=>exact absurd (show false=true from hs) aaN
 |str i=>
  obtain⟨t,rfl⟩:=rx;cases y with
  |AZ=>cases ry;exact PySem.EqNone.ne_str_none (aw I q #[0])
  |bl j=>cases ry;exact PySem.EqMixed.ne_str_bool (aw I q #[0])
  |int j=>obtain⟨t',rfl⟩:=ry;exact PySem.EqMixed.ne_str_int (aw I q #[0])
  |str j=>obtain⟨t',rfl⟩:=ry;exact ne_str (aw I q (congrArg not pH))
  |_=>exact absurd (show false=true from hs) aaN
 |Jh i=>
  obtain⟨t,rfl⟩:=rx;cases y with
  |Jh j=>obtain⟨t',rfl⟩:=ry;exact PySem.W.ne_bytes (aw I q (congrArg not pJ))
  |_=>exact absurd (show false=true from hs) aaN
 |_=>cases y<;>exact absurd (show false=true from hs) aaN
def AB:BX X (aa1 .Lt) (Gy λi j=>.bl (decide (i<j))):=KL λ_ _ _ _ _ _ _ q=>lt_int q
def AC:BX X (aa1 .LtE) (Gy λi j=>.bl (decide (i<=j))):=KL λ_ _ _ _ _ _ _ q=>le_int q
def ql:BX X (aa1 .Gt) (Gy λi j=>.bl (decide (j<i))):=KL λ_ _ _ _ _ _ _ q=>gt_int q
def AD:BX X (aa1 .GtE) (Gy λi j=>.bl (decide (j<=i))):=KL λ_ _ _ _ _ _ _ q=>ge_int q
def rV:BX X (aa1 .Lt) (λx y H Q=>∃i j,x=.str i/\y=.str j/\Q (.bl (decide (i.cps.toList<j.cps.toList))) H):=by intro pins s U H x y v u Q I rx ry h;obtain⟨i,j,rfl,rfl,q⟩:=h;obtain⟨t,rfl⟩:=rx;obtain⟨t',rfl⟩:=ry;exact lt_str (aw I q rfl)
def rY:BX X (aa1 .In) (λx y H Q=>∃i j,x=.str i/\y=.str j/\Q (.bl (!(ac5 j i 0 j.length 1).isEmpty)) H):=by intro pins s U H x y v u Q I rx ry h;obtain⟨i,j,rfl,rfl,q⟩:=h;obtain⟨t,rfl⟩:=rx;obtain⟨t',rfl⟩:=ry;exact in_str (aw I q rfl)
variable{op:CmpOp}
def BA(b:Expr)(h:autoParam (op≠.In) on)(h2:autoParam (op≠.NotIn) on):adn op b=false:=by
 have e1:(op==CmpOp.In)=false:=by simp_all
 have e2:(op==CmpOp.NotIn)=false:=by simp_all
 cases b<;>simp[adn,e1,e2]
def j8(ho:BX X (aa1 op) r)(ha:PE X a ta)(hb:PE X b tb)(hm:adn op b=false):PE X (.Compare a [op] [b] pos) (E6 r ta tb):=by intro pins s U H Q I h;exact wpAny_Compare1 (NU ha hb I h λv u s2 x y H2 I2 rx ry q=>ho pins s2 U H2 x y v u Q I2 rx ry q) hm
def Io(t:TE):TT:=λU H Q=>t U H λx H'=>∃k,x=.bl k/\Q k H'
def gZ(ho:BX X (aa1 op) r)(ha:PE X a ta)(hb:PE X b tb)(hm:adn op b=false):PT X (.Compare a [op] [b] pos) (Io (E6 r ta tb)):=by
 intro pins s U H Q I h;refine wpAny_isTrue_Compare1 (Bt (ha pins s U H _ I h) λv s1 #[x,H1,I1,r1,q1]=>Bt (hb pins s1 U H1 _ I1 q1) λu s2 #[y,H2,I2,r2,q2]=>Bt (ho pins s2 U H2 x y v u _ I2 r1 r2 q2) λc s3 #[z,H3,I3,r3,k,e,q3]=>?_) hm
 subst e;cases r3;exact ab2 #[H3,I3,q3]
def HD(r r':R2)(ta tb tc:TE):TE:=λU H Q=>ta U H λx H1=>tb U H1 λy H2=>r x y H2 λz H3=>∃k,z=.bl k /\
 (if k=true then tc U H3 λw' H4=>r' y w' H4 Q else Q (.bl false) H3)
variable{r':R2}
def uh{HK:CmpOp}(ho:BX X (aa1 op) r)(E1:BX X (aa1 HK) r')(ha:PE X a ta)(hb:PE X b tb)(hc:PE X c tc)
  (hm:autoParam (lastMarks [op,HK] [b,c]=false) A'):PE X (.Compare a [op,HK] [b,c] pos) (HD r r' ta tb tc):=by
 intro pins s U H Q I h;refine Compare_chain (Bt (ha pins s U H _ I h) λv s1 #[x,H1,I1,r1,q1]=>chain_link (Bt (hb pins s1 U H1 _ I1 q1) λu s2 #[y,H2,I2,r2,q2]=>Bt (ho pins s2 U H2 x y v u _ I2 r1 r2 q2) λd s3 #[z,H3,I3,r3,k,e,q3]=>?_)) hm
 subst e;cases r3;refine ab2 ?_;cases k with
 |false=>exact ite_ff #[.bl false,H3,I3,rfl,q3]
 |true=>exact ite_tt (chain_last (Bt (hc pins s3 U H3 _ I3 q3) λw' s4 #[z',H4,I4,r4,q4]=>E1 pins s4 U H4 y z' u w' Q I4 r2 r4 q4))
def t9{HK:CmpOp}(ho:BX X (aa1 op) r)(E1:BX X (aa1 HK) r')(ha:PE X a ta)(hb:PE X b tb)(hc:PE X c tc)
  (hm:autoParam (lastMarks [op,HK] [b,c]=false) A'):PT X (.Compare a [op,HK] [b,c] pos) (Io (HD r r' ta tb tc)):=by
 intro pins s U H Q I h;refine isTrue_chain (Bt (ha pins s U H _ I h) λv s1 #[x,H1,I1,r1,q1]=>test_link (Bt (hb pins s1 U H1 _ I1 q1) λu s2 #[y,H2,I2,r2,q2]=>Bt (ho pins s2 U H2 x y v u _ I2 r1 r2 q2) λd s3 #[z,H3,I3,r3,k,e,q3]=>?_)) hm
 subst e;cases r3;refine ab2 ?_;cases k with
 |false=>obtain⟨k',e',q'⟩:=q3;cases e';exact ite_ff #[H3,I3,q']
 |true=>refine ite_tt (test_last (Bt (hc pins s3 U H3 _ I3 q3) λw' s4 #[z',H4,I4,r4,q4]=>Bt (E1 pins s4 U H4 y z' u w' _ I4 r2 r4 q4) λd' s5 #[z2,H5,I5,r5,k2,e2,q5]=>?_));subst e2;cases r5;exact ab2 #[H5,I5,q5]
def Lr(K:aag)(x:V)(H:Hp)(k:Bool):Prop :=
 match x with
 |.AZ=>k=false
 |.bl b=>k=b
 |.int i=>k=(i != 0)
 |.str y=>y.length<=sizeLine/\k=((y.length:Int) != 0)
 |.Jh y=>y.size<=sizeLine/\k=((y.size:Int) != 0)
 |.ref p=>(∃xs,Cr K H p xs/\k=!xs.isEmpty)\/(∃xs,Cf K H p xs/\k=!xs.isEmpty)\/∃gE,H p=some (.dK gE)/\k=!gE.isEmpty
 |_=>False
def qt{d:Type}{gE:List (d×V)}{vs:List (d×Value)}(r:KV gE vs):(!vs.isEmpty)=!gE.isEmpty:=by cases r<;>rfl
variable{eQ:Aad}
def jB(r:oF xs eQ):(!eQ.toArray.isEmpty)=!xs.isEmpty:=by cases r<;>simp
def DX:(sizeLine:Nat)<2 ^ 63:=by rw[aaJ];decide
theorem qV:Vj X (λx H Q=>∃k,Lr X.K x H k/\Q k H):=by
 intro pins s U H x v Q I rx h;obtain⟨k,e,q⟩:=h;have hl:=DX;have hs:sizeLine=16777216:=aaJ;cases x with
 |AZ=>cases rx;have e':k=false:=e;subst e';exact truthy_none #[H,I,q]
 |bl b=>cases rx;have e':k=b:=e;subst e';exact ab2 #[H,I,q]
 |int i=>obtain⟨t,rfl⟩:=rx;have e':k=(i != 0):=e;subst e';exact PySem.P.truthy_int #[H,I,q]
 |str y=>obtain⟨t,rfl⟩:=rx;obtain⟨hy,e'⟩:y.length<=sizeLine/\k=((y.length:Int) != 0):=e;subst e';exact PySem.P.truthy_str #[] #[H,I.tok _,q]
 |Jh y=>obtain⟨t,rfl⟩:=rx;obtain⟨hy,e'⟩:y.size<=sizeLine/\k=((y.size:Int) != 0):=e;subst e';exact PySem.W.truthy_bytes #[] #[H,I.tok _,q]
 |ref p=>
  cases rx;have e'  := e;rcases e' with ⟨xs,hx,e'⟩|⟨xs,hx,e'⟩|⟨gE,hx,e'⟩
  .subst e';obtain⟨eQ,r,pl,hz⟩:=I.list hx;have hlen:=r.length;exact wpAny_truthy_list pl.isList (by simp only[aak];omega) #[H,I.tok _,by rw[jB r];exact q]
  .subst e';obtain⟨eQ,r,pl,hz⟩:=I.tuple hx;have hlen:=r.length;exact truthy_tuple pl (by simp only[aak];omega) #[H,I.tok _,by rw[jB r];exact q]
  .subst e';obtain⟨hz,hS,vs,r,m⟩:gE.length<=sizeLine/\(p==acG)=false/\∃vs,KV gE vs/\s.heap.DictOf (ay X.prog X.w) p vs:=I.Bc p _ hx;have hlen:gE.length=vs.length:=aeJ r;exact wpAny_truthy_dict hS m #[] #[H,I.tok _,by rw[qt r];exact q]
 |_=>exact(show False from e).elim
def t8(ha:PE X a ta)(he:∀whole,isTrue a X.env whole=(do let v <- whole;aec a.pos;adp [v] (truthy v))):
  PT X a (λU H Q=>ta U H λx H'=>∃k,Lr X.K x H' k/\Q k H'):=by
 intro pins s U H Q I h;exact isTrue_plain (Bt (ha pins s U H _ I h) λv s1 #[x,H1,I1,r1,q1]=>qV pins s1 U H1 x v Q I1 r1 q1) (he _)
def qm:BX X (acg .Add) (λx y H Q=>∃i j,x=.str i/\y=.str j/\i.length+j.length<=sizeLine/\Q (.str (i++j)) H):=by intro pins s U H x y v u Q I rx ry h;obtain⟨i,j,rfl,rfl,hz,q⟩:=h;obtain⟨t,rfl⟩:=rx;obtain⟨t',rfl⟩:=ry;exact add_str (λt' tk=>#[.str _,H,I.tok _,#[_,rfl],q]) hz
def vals1{x:V}(r:oF [x] us):∃u,us=[u]/\RelV x u:=by
 cases r with
 |cons r1 r2=>cases r2;exact#[_,rfl,r1]
def nY:Bd X (.builtin "abs") (λxs H Q=>∃i,xs=[.int i]/\Q (.int (if i<0 then -i else i)) H):=by intro pins s U H xs us Q I r h;obtain⟨i,rfl,q⟩:=h;obtain⟨u,rfl,t,rfl⟩:=vals1 r;exact call_abs_int λu tk=>#[.int _,H,I.tok _,#[_,rfl],q]
structure N0(h:Heap)(x dx C:Addr)(mA:Aaf):Prop where
 obj:h.get? x=some (afx C dx)
 ns:h.Ns1 dx mA
 ne:dx≠x
def su{dx:Addr}{mA:Aaf}(n:h.Ns1 dx mA):∃od,h.get? dx=some od/\∀name,afO name od=some (mA name):=by
 obtain⟨o,es,ep,ho,hd,hk,_,hm⟩:=n;refine#[o,ho,λname=>?_];have e:=hm name;unfold nsFind findBy at e;rw[<- Array.find?_toList]at e;unfold afO;rw[hd];dsimp only;split
 .rename_i y q;rw[q]at e;exact congrArg some e
 .rename_i q;rw[q]at e;have a:es.toList.any (·.refKey)=false:=by rw[List.any_eq_false];intro y hy;obtain⟨z,t,ET⟩:=hk y (Array.mem_toList_iff.mp hy);simp[DictEntry.refKey,ET]
  have a':¬ es.toList.any (·.refKey)=true:=by rw[a];exact aaN
  rw[if_neg a'];exact congrArg some e
variable{C:Addr}
def N0.look{dx:Addr}{mA:Aaf}(I:N0 h x dx C mA):∃od,PySem.W.InstAt h x (afx C dx) C (some od)/\∀name,afO name od=some (mA name) :=
 let #[od,ho,hl]:=su I.ns
 #[od,#[I.obj,rfl,rfl,ho],hl]
variable{prog:aaC}{dx f:Addr}{mA:Aaf}{name:Str}{v:Value}
def Fw.some_of{v:V}{o:Option Value}(r:Fw (some v) o):∃u,o=some u/\RelV v u:=by
 cases o with
 |none=>exact(r).elim
 |some u=>exact#[u,rfl,r]
section
variable{a:Addr}{fs Zj:List (Str×V)}
def xc(Bc:DK P w H h)(e:H a=some (.ins C dx fs)):∃mA,N0 h a dx C mA/\(∀f,Fw (fs.lookup f) (mA f))/\PySem.Within mA (fs.map (·.1))/\fs.length<=1000/\H dx=some (.own a):=by
 obtain⟨d,z,ne,ob,mA,n,r,q⟩:=(Bc a _ e)
 exact#[mA,#[ob,n,ne],r,q,z,d]
end
structure Vx(K:aag)(C:Addr):Prop where
 pg:PySem.W.plainGet K C Str.empty=true
 hd:PySem.W.hasDictIn K C=true
 po:PySem.W.plainOver K C=true
 sa:PySem.W.findIn K (.ref C) "__setattr__" = some (some (.builtin "object.__setattr__"))
def Vx.get(c:Vx K C)(f:Str):PySem.W.plainGet K C f=true:=c.pg
section
variable{a:Addr}{fs:List (Str×V)}{f:Str}{v:V}
end
variable{o value:Expr}{f:Str}{Dj:Pos}{tv:TE}
variable{Q:Aaa}{c:Value}{b:Bool}
inductive EE (K:aag) (H:Hp):V->Value->Prop where
 |AZ:EE K H .AZ (.type "NoneType")
 |bl (x:Bool):EE K H (.bl x) (.type "bool")
 |int (i:Int):EE K H (.int i) (.type "int")
 |str (x:Str):EE K H (.str x) (.type "str")
 |OE (x:UInt64):EE K H (.OE x) (.type "float")
 |lst {a:Addr} {xs:Aag} (e:H a=some (.lst xs)):EE K H (.ref a) (.type "list")
 |Dg {a:Addr} {o:Obj} {xs:Aag} (e:H a=some (.Dg o (.lst xs))):EE K H (.ref a) (.type "list")
 |tup {a:Addr} {xs:Aag} (e:H a=some (.tup xs)):EE K H (.ref a) (.type "tuple")
 |dK {a:Addr} {gE:List (Key×V)} (e:H a=some (.dK gE)):EE K H (.ref a) (.type "dict")
 |dT {a:Addr} {gE:List (Aas×V)} (e:H a=some (.dT gE)):EE K H (.ref a) (.type "dict")
 |ins {a C dx:Addr} {fs:List (Str×V)} (e:H a=some (.ins C dx fs)) (cl:Vx K C) (ha:PySem.W.findIn K (.ref C) "__class__" = some (some (.builtin "object.__class__")))
   (hn:PySem.W.specialIn K (.builtin "object.__class__") "__get__" = some (some (.builtin "getset_descriptor.__get__"))) (Ot:PySem.W.takesIn K (.builtin "object.__class__")=some true)
   (hm:PySem.W.mroIn K C (.type "object")=some true):EE K H (.ref a) (.ref C)
def sD{x:V}{u t:Value}(I:Inv X pins U H s)(rx:RelV x u)(ty:EE X.K H x t)(e:aeq X.K t c=some b)(h:∀tk,Q (.bool b) {s with toks:=tk}):
  wpAny #[6] A (call (.builtin "isinstance") [u,c]) Q E s:=by
 cases ty with
 |AZ=>cases (rx);exact abB PySem.W.kitx_none I.GB acv e (λz=>nomatch z) h
 |bl y=>cases (rx);exact abB PySem.W.kitx_bool I.GB acv e (λz=>nomatch z) h
 |int i=>obtain⟨t,q⟩:=(rx);cases q;exact abB PySem.W.kitx_int I.GB acv e (λz=>nomatch z) h
 |str y=>obtain⟨t,q⟩:=(rx);cases q;exact abB PySem.W.kitx_str I.GB acv e (λz=>nomatch z) h
 |OE y=>obtain⟨t,q⟩:=(rx);cases q;exact abB PySem.W.kitx_float I.GB acv e (λz=>nomatch z) h
 |@lst a xs ea=>
  cases (rx);obtain⟨_,_,n,_,h1⟩:=(show Bm X.prog X.w H s.heap a (.lst xs)from I.Bc a _ ea)
  exact abB PySem.W.kitx_list I.GB #[_,h1,rfl] e (λz=>nomatch z) h
 |@Dg a ob xs ea=>
  cases (rx);obtain⟨_,_,_,n,_,h1⟩:=(show Bm X.prog X.w H s.heap a (.Dg ob (.lst xs))from I.Bc a _ ea)
  exact abB PySem.W.kitx_list I.GB #[_,h1,rfl] e (λz=>nomatch z) h
 |@tup a xs ea=>
  cases (rx);obtain⟨_,_,_,p,_⟩:=(show Bm X.prog X.w H s.heap a (.tup xs)from I.Bc a _ ea)
  obtain⟨o,h1,h2,_⟩:=p;exact abB PySem.W.kitx_tuple I.GB #[o,h1,h2] e (λz=>nomatch z) h
 |@dK a gE ea=>
  cases (rx);obtain⟨_,_,vs,_,p⟩:=(show Bm X.prog X.w H s.heap a (.dK gE)from I.Bc a _ ea)
  obtain⟨o,es,ep,h1,h2,_⟩:=p;exact abB PySem.W.kitx_dict I.GB #[o,h1,h2.1] e (λz=>nomatch z) h
 |@dT a gE ea=>
  cases (rx);obtain⟨_,_,xs,_,o,es,ep,h1,h2,_⟩:=(show Bm X.prog X.w H s.heap a (.dT gE)from I.Bc a _ ea)
  exact abB PySem.W.kitx_dict I.GB #[o,h1,h2.1] e (λz=>nomatch z) h
 |@ins a C dx fs ea cl ha hn Ot hm=>cases (rx);obtain⟨mA,O,_⟩:=xc I.Bc ea;obtain⟨od,J,_⟩:=O.look;exact abB (PySem.W.kitx_own (cl.get _) cl.hd ha hn Ot hm) I.GB J e (λz=>nomatch z) h
structure BB(k:Nat)(A:Around):Prop where
 hd:A.handled=none
 dp:A.depth+3*k+5<recursionLimit
 un:A.units+16*k+200<cLine
 gd:A.guards=some []
theorem BB.mono(r:BB k A)(h:j<=k):BB j A:=#[r.hd,by have:=r.dp;omega,by have:=r.un;omega,r.gd]
theorem BB.deeper(r:BB (k+1) A)(env:Env):BB k (A.deeper env) :=
 #[r.hd,by have:=r.dp;show A.depth+1+3*k+5<_;omega,by have:=r.un;show A.units+3+16*k+200<_;omega,r.gd]
theorem BB.depth(r:BB k A):A.depth<recursionLimit:=by have:=r.dp;omega
theorem BB.My(r:BB k A):A.units<cLine:=by have:=r.un;omega
def MF:TA:=λ_ H Q=>Q [] H
def PB(ta:TE)(tr:TA):TA:=λU H Q=>ta U H λx H1=>tr U H1 λxs H2=>Q (x::xs) H2
variable{es:Aai}{t:TA}
def aQ:PA X [] MF:=λ_ _ _ _ H Q I h=>Calls.spliced_nil #[[],H,I,.nil,h]
def aD(ha:PE X e te)(hr:PA X es t)(hs:autoParam #[8] At):PA X (e::es) (PB te t):=by intro pos pins s U H Q I h;rw[hs];refine Calls.spliced_cons (Bt (ha pins s U H _ I h) λu s1 #[x,H1,I1,r1,q1]=>?_);exact Bt (hr pos pins s1 U H1 _ I1 q1) λus s2 #[xs,H2,I2,r2,q2]=>#[_,H2,I2,.cons r1 r2,q2]
def SQ(t:TA):TE:=λU H Q=>t U H λxs H1=>xs.length<=sizeLine/\∀p,H1 p=none->Q (.ref p) (upd H1 p (.tup xs))
def Pq(t:TA):TE:=λU H Q=>t U H λxs H1=>xs.length<=sizeLine/\∀p,H1 p=none->Q (.ref p) (upd H1 p (.lst xs))
def yr{x1}(h:PA X es t):PE X (.Tuple es x1 pos) (SQ t):=by intro pins s U H Q I hq;refine wpAny_Tuple_spliced (Bt (h pos pins s U H _ I hq) λus s1 #[xs,H1,I1,r,z,q]=>#[by rw[<- r.length];exact z,?_]);have hf  := I1.Bc.fresh (aai _);refine#[.ref s1.heap.objs.size,_,I1.laid (λb u e=>aac _ e) (aai _) ?_,rfl,q _ hf];exact#[z,us,r,#[_,aaf _ rfl,rfl,_,rfl],_,aaf _ rfl,rfl]
def m6(h:PA X es t):PE X (.List es pos) (Pq t):=by intro pins s U H Q I hq;refine wpAny_List_spliced (Bt (h pos pins s U H _ I hq) λus s1 #[xs,H1,I1,r,z,q]=>#[by rw[<- r.length];exact z,?_]);have hf  := I1.Bc.fresh (aai _);refine#[.ref s1.heap.objs.size,_,I1.laid (λb u e=>aac _ e) (aai _) ?_,rfl,q _ hf];exact#[z,us,0,r,aaf _ rfl]
abbrev Sp:=List V->Hp->VK->XK->Prop
abbrev Mv:=List Env->Hp->Shared->XK->Value->Shared->Prop
structure Lx(P:aaC)(w:World)(K:aag)(mg:Aaf)(base:Heap)(A:Around)(outer:List Env)(s:Shared)(H:Hp):Prop where
 frames:A.frames=some outer
 mod:Mod K mg base
 bs:∀b o,base.get? b=some o->s.heap.get? b=some o/\H b=none
 Mj:base.objs.size<=s.heap.objs.size
 Fn:s.heap.FunFrames base outer
 OD:∀b∈J7 outer,H b=none
 Bc:DK P w H s.heap
 bare:aeB s.gens
def CE(outer:List Env)(P:aaC)(w:World)(H:Hp)(s:Shared)(Q:VK)(u:Value)(s':Shared):Prop :=
 ∃v H',s'.os=s.os/\aeB s'.gens/\Un (J7 outer) [] H H' s.heap s'.heap/\DK P w H' s'.heap/\RelV v u/\Q v H'
def CR(CX:Mv)(outer:List Env)(P:aaC)(w:World)(H:Hp)(s:Shared)(Q:VK)(E:XK)(r:Result)(s':Shared):Prop :=
 match r with
 |.ok (.ret u)=>CE outer P w H s Q u s'
 |.ok _=>False
 |.error e=>CX outer H s E e s'
structure Bi(P:aaC)(w:World)(K:aag)(mg:Aaf)(base:Heap)(CX:Mv)(k:Nat)(f:Addr)(fd:abL)(ps:A3)(sp:Sp):Prop where
 len:∀vs H Q E,sp vs H Q E->vs.length=ps.length
 run:∀(A:Around) (outer:List Env) (s:Shared) (H:Hp) (args:Args) (us:Aad) (vs:Aag) (Q:VK) (E:XK),BB k A->Lx P w K mg base A outer s H->BindsTo s fd args (ps.zip us)->oF vs us->sp vs H Q E ->
  acK (model P w) A (.call (.ref f) args) (CR CX outer P w H s Q E) s
variable{mg:Aaf}{base:Heap}{CX:Mv}{fd:abL}{ps:A3}{sp:Sp}
def Bi.imp{f:Addr}{VT:Sp}(F:Bi P w K mg base CX k f fd ps sp)
  (h:∀vs H Q E,VT vs H Q E->sp vs H Q E):Bi P w K mg base CX k f fd ps VT :=
 #[λvs H Q E q=>F.len vs H Q E (h _ _ _ _ q),λA outer s H args us vs Q E hr he hb hv hs=>F.run A outer s H args us vs Q E hr he hb hv (h _ _ _ _ hs)]
def Inv.U4(I:Inv X pins U H s):Lx X.prog X.w X.K X.mg X.base X.A X.stack s H :=
 #[I.ok.frames,I.ok.mod,I.bs,aaK I.ok.Mj I.sz,I.stack,I.Ip,I.Bc,I.bare]
def Inv.after{Q:VK}{u:Value}(I:Inv X pins U H s)(h:CE X.stack X.prog X.w H s Q u s'):EP X pins U Q u s':=by obtain⟨v,H',os,bare,un,Bc,r,q⟩:=h;obtain⟨hh,g,d,t,F0⟩:=s';obtain rfl:F0=s.os:=os;exact#[v,H',I.call un Bc bare (λb z=>absurd z #[0]),r,q]
def PC(sp:Sp)(OF:Aag)(E:XK)(t:TA):TE:=λU H Q=>t U H λvs H1=>sp (vs++OF) H1 Q E
def Binds(K:aag)(fd:abL)(ps:A3)(ds:Aad):Prop :=
 ∀(s:Shared) (us:Aad),K.In s.heap->(us++ds).length=ps.length->BindsTo s fd #[us,[]] (ps.zip (us++ds))
def Binds.all(h:∀us:Aad,us.length=ps.length->adm fd #[us,[]]=pure (ps.zip us)):Binds K fd ps []:=λs us _ hl=>by rw[aa0]at hl ⊢;exact .of_eq (h us hl)
def Ij(CX:Mv)(X:Cx)(E:XK):Prop:=∀(pins:Aac) (U:St) (H:Hp) (s:Shared) (e:Value) (s':Shared),Inv X pins U H s->CX X.stack H s E e s'->X.xe e s'
variable{f:Addr}{OF:Aag}{ds:Aad}{E:XK}{x m:Str}{apos:Pos}
variable{vs:Aag}
def yj{Q:VK}(F:Bi X.prog X.w X.K X.mg X.base CX k f fd ps sp)(hr:BB k X.A)(hb:Binds X.K fd ps ds)(hd:oF OF ds)(hx:Ij CX X E)
  (I:Inv X pins U H s) (r:oF vs us) (h:sp (vs++OF) H Q E):wpAny #[6] X.A (call (.ref f) us) (EP X pins U Q) X.xe s:=by
 have r2  := r.append hd;have hl:(us++ds).length=ps.length:=by rw[<- r2.length];exact F.len _ _ _ _ h
 refine wpAny_call (acQ (F.run X.A X.stack s H #[us,[]] _ _ Q E hr I.U4 (hb s us I.GB hl) r2 h) λr s' hq=>?_);cases r with
 |error e=>exact hx pins U H s e s' I hq
 |ok fl=>
  cases fl with
  |ret u=>exact I.after hq
  |next=>exact acU hq
  |brk=>exact acU hq
  |cont=>exact acU hq
def cR(F:Bi X.prog X.w X.K X.mg X.base CX k f fd ps sp)(hr:BB k X.A)(hg:Gl X x)(hm:X.mg x=some (.ref f))(hk:abJ X.K (.ref f)=true)(hb:Binds X.K fd ps ds)(hd:oF OF ds)(hx:Ij CX X E)
  (ha:PA X (e::es) t) (DH:autoParam #[12] on) (he:autoParam #[8] At) (Cj:autoParam #[11] At) :
  PE X (.Call (.Name x p) (e::es) [] pos) (PC sp OF E t):=by
 intro pins s U H Q I h;refine adA (pz I hg hm ?_ DH);refine PySem.W.callWith_K I.ok.mod.kin hk (Bt (ha pos pins s U H _ I h) λus s1 #[vs,H1,I1,r,q]=>#[I1.GB,?_]) he Cj;exact yj F hr hb hd hx I1 r q
variable{ks:A3}{EO:Pos}{kws:List adv}{tk:TA}{nm:Option Str}
variable{g:Aad->List Value->List Value}{gV:Aag->List V->List V}
structure au(N P:A3)(sc:Scope):Prop where
 kind:sc.kind=.function
 co:sc.isCoroutine=false
 gen:sc.isGenerator=false
 nd:N.Nodup
 pre:N.take P.length=P
 par:∀x∈P,sc.names.lookup x=some .local\/sc.names.lookup x=some .cell
 HL:∀y∈sc.names,y.2≠.free
variable{kindOf:Str->Option adD}
def lW:∀{binds:Aav} {m:Aaf},(∀v,(x,v)∉binds)->bindL kindOf binds m x=m x
 |[],_,_=>rfl
 |(n,v)::r,m,h=>by
  unfold bindL;rw[lW λw hw=>h w (aaq _ hw)];split
  .have:x≠n:=by rintro rfl;exact h v aaz
   simp[this]
  .rfl
def lY:∀{binds:Aav} {m:Aaf},(∀v,(x,v)∉binds)->bindC kindOf binds m x=m x
 |[],_,_=>rfl
 |(n,v)::r,m,h=>by
  unfold bindC;rw[lY λw hw=>h w (aaq _ hw)];split
  .rfl
  .have:x≠n:=by rintro rfl;exact h v aaz
   simp[this]
def lX:∀{P:A3} {vs:Aad} {i:Nat} {m:Aaf},P.Nodup->P[i]?=some x->vs[i]?=some v->kindOf x=some .local ->
  bindL kindOf (P.zip vs) m x=some v
 |[],_,_,_,_,h,_,_=>by simp_all
 |_::_,[],_,_,_,_,h,_=>by simp_all
 |p::P,w::vs,0,m,nd,h1,h2,hk=>by simp at h1 h2;subst h1;subst h2;show bindL kindOf ((p,w)::P.zip vs) m p=_;unfold bindL;rw[lW λv hv=>(List.nodup_cons.mp nd).1 (ac0 hv).1,if_pos hk];simp
 |p::P,w::vs,i+1,m,nd,h1,h2,hk=>by unfold bindL;exact lX (i:=i) (List.nodup_cons.mp nd).2 #[1] #[1] hk
def lZ:∀{P:A3} {vs:Aad} {i:Nat} {m:Aaf},P.Nodup->P[i]?=some x->vs[i]?=some v->kindOf x≠some .local ->
  bindC kindOf (P.zip vs) m x=some v
 |[],_,_,_,_,h,_,_=>by simp_all
 |_::_,[],_,_,_,_,h,_=>by simp_all
 |p::P,w::vs,0,m,nd,h1,h2,hk=>by simp at h1 h2;subst h1;subst h2;show bindC kindOf ((p,w)::P.zip vs) m p=_;unfold bindC;rw[lY λv hv=>(List.nodup_cons.mp nd).1 (ac0 hv).1,if_neg hk];simp
 |p::P,w::vs,i+1,m,nd,h1,h2,hk=>by unfold bindC;exact lZ (i:=i) (List.nodup_cons.mp nd).2 #[1] #[1] hk
noncomputable def start(N:A3)(vs:Aag):St:=vs.map some++aaR (N.length - vs.length) none
noncomputable def Ft(CX:Mv)(P:aaC)(w:World)(K:aag)(mg:Aaf)(base:Heap)(N:A3)(qual:Str)(scope:Scope)(f:Addr)(cd:Value)(A:Around)(outer:List Env)(s:Shared)(H:Hp)(E:XK):Cx where
 prog:=P
 w:=w
 K:=K
 mg:=mg
 base:=base
 A:=A.deeper (envOfC qual scope s.heap.objs.size f cd)
 N:=N
 s0:=s
 H0:=H
 env:=envOfC qual scope s.heap.objs.size f cd
 outer:=outer
 stack:=envOfC qual scope s.heap.objs.size f cd::outer
 ex:=[]
 calm:=true
 fn:=λ_=>true
 pn:=[]
 xe:=λe s'=>wpAny (model P w) (A.deeper (envOfC qual scope s.heap.objs.size f cd)) (leaving (envOfC qual scope s.heap.objs.size f cd) e) (λ_ PN=>CX outer H s E e PN) (λe' PN=>CX outer H s E e' PN) s'
def nV{sc:Scope}(h:sc.names.lookup x=some .cell):∃c,(cellsFrom n sc.names []).lookup x=some c:=by have q:=PySem.W.cellsFrom_some sc.names n [] (.inl h);exact Option.isSome_iff_exists.mp q
variable{qual:Str}{scope:Scope}
theorem sE{cd:Value}{outer:List Env}{s1:Shared}
  (S:au N ps scope) (hd:A.handled=none) (e0:Lx P w K mg base A outer s H) (hl:vs.length=ps.length) (r:oF vs us)
  (x:InCallC s s.heap.objs.size (bindL (envOfC qual scope s.heap.objs.size f cd).kindOf (ps.zip us) λ_=>none) (cellsFrom (s.heap.objs.size+1) scope.names []) (bindC (envOfC qual scope s.heap.objs.size f cd).kindOf (ps.zip us) λ_=>none) s1) :
  Inv (Ft CX P w K mg base N qual scope f cd A outer s H E) [] (start N vs) H s1:=by
 have Cj  :=by have:=congrArg acD S.pre;rw[abp]at this;omega
 obtain⟨h1,tk,rfl,hk⟩:=x.done;have Ql:∀b:Addr,b∉(Ft CX P w K mg base N qual scope f cd A outer s H E).ex:=λb z=>absurd (show b∈[]from z) #[0];refine#[#[e0.mod,S.kind,rfl,rfl,aai _,λy z c h1 h2=>?_,λy hy=>?_,λy c _ h=>?_,λ_=>hd,Around.frames_deeper e0.frames,.inr #[rfl,rfl],λb z=>absurd z (Ql b),e0.bs,e0.Mj,λb _ _=>Ql b,λb z=>absurd z (Ql b),e0.Fn,e0.OD],
  rfl,e0.bare,Un.kept hk,#[_,x.toInCall.ns,λi y v h1 h2 h3=>?_],λy c h=>#[_,x.cell y c h],e0.Bc.fresh (aai _),λy c h=>?_,λp hp=>absurd (show p∈[]from hp) #[0],e0.Bc.kept hk,?_]
 .exact name_of_addr x.apart (ab4 h1) (ab4 h2)
 .rcases hy with hy|hy
  .exact nV hy
  .exact absurd rfl (S.HL _ (ab4 hy))
 .exact ae6 (x.above y c (ab4 h))
 .have hi:i<vs.length:=by
   unfold start at h2;by_cases hi:i<vs.length
   .exact hi
   .rw[afI #[1]]at h2;rw[List.getElem?_replicate]at h2;split at h2<;>cases h2
  have ha:vs[i]?=some v:=by
   unfold start at h2;rw[aat #[1],aaj]at h2;cases e:vs[i]? with
   |none=>rw[e]at h2;cases h2
   |some a=>rw[e]at h2;cases h2;rfl
  obtain⟨u,hu,rv⟩:=r.get ha;have hp:ps[i]?=some y:=by rw[<- S.pre,List.getElem?_take_of_lt #[]];exact h1
  have Wb:ps.Nodup:=by rw[<- S.pre];exact S.nd.sublist (List.take_sublist _ _)
  refine#[u,rv,?_];rcases S.par y (aaA hp)with k|k
  .exact .inl #[k,lX Wb hp hu k]
  .obtain⟨c,e⟩:=nV k;refine .inr #[.inl k,c,e,?_];have q:=x.cell y c e;rw[lZ Wb hp hu (by show scope.names.lookup y≠_;rw[k];decide)]at q;exact q
 .exact e0.Bc.fresh (ae6 (x.above y c (ab4 h)))
 .unfold start;show _=N.length;rw[aan,aad,abd];omega
def AI{params:Arguments}{dV kV doc pm Bu ct oc:Value}{an od:Option Addr}
  {LS:Array (Option Value)} {N ps:A3} {sp:Sp} (lk:K.lookup f=some #[oc,od,.func (acS name qual params body scope dV kV doc pm an Bu ct),LS]) (HU:aer K Bu qual=true) (S:au N ps scope)
  (len:∀vs H Q E,sp vs H Q E->vs.length=ps.length)
  (J3:∀(A:Around) (outer:List Env) (s:Shared) (H:Hp) (vs:Aag) (Q:VK) (E:XK),BB k (A.deeper (envOfC qual scope s.heap.objs.size f Bu))->sp vs H Q E ->
   ∃t,IK (Ft CX P w K mg base N qual scope f Bu A outer s H E) body t/\t {nx:=λ_ H'=>Q .AZ H',rt:=Q} (start N vs) H) :
  Bi P w K mg base CX (k+1) f (acS name qual params body scope dV kV doc pm an Bu ct) ps sp:=by
 refine#[len,λA outer s H args us vs Q E hr e0 hb r L8=>?_];have hl:=len _ _ _ _ L8;have KX:K.In s.heap:=e0.mod.kin.keeps λb o e=>(e0.bs b o e).1;have lim:s.heap.NoLimit:=e0.mod.nolimit.keeps λb o e=>(e0.bs b o e).1;have Bg:∀y∈ps.zip us,scope.names.lookup y.1=some .local\/(scope.names.lookup y.1=some .cell/\((cellsFrom (s.heap.objs.size+1) scope.names []).lookup y.1).isSome=true):=λ#[n,v] hy=>by
  rcases S.par n (ac0 hy).1 with q|q
  .exact .inl q
  .exact .inr #[q,PySem.W.cellsFrom_some _ _ _ (.inl q)]
 refine codeAny_call_function hr.depth (KX _ _ lk) rfl S.co S.gen rfl (PySem.W.codeRec_of KX HU) (hb _ _ _ _ ?_);refine wpAny_newFunctionEnv_cells S.kind Bg λenv he s1 x=>?_;subst he;refine#[lim.keeps x.toInCall.keep,codeAny_func ?_];obtain⟨t,ht,hq⟩:=J3 A outer s H vs Q E (hr.deeper _) L8;have I:Inv (Ft CX P w K mg base N qual scope f Bu A outer s H E) [] (start N vs) H s1:=sE S hr.hd e0 hl r x;refine aa5 (ht [] s1 (start N vs) H _ I hq) (λfl s' hs=>?_) λe s' hs=>hs;have fin:∀{sa:St} {H':Hp} {v:V} {u:Value},Inv (Ft CX P w K mg base N qual scope f Bu A outer s H E) [] sa H' s'->RelV v u->Q v H'->CE outer P w H s Q u s' :=
  λ{sa H' v u} J rv q=>#[v,H',J.os,J.bare,J.base,J.Bc,rv,q]
 cases fl with
 |ret u=>obtain⟨v,sa,H',J,rv,q⟩:=hs;exact fin J rv q
 |next=>obtain⟨sa,H',J,q⟩:=hs;exact fin (v:=V.AZ) (u:=abP) J rfl q
 |brk=>obtain⟨_,_,_,q⟩:=hs;exact acU q
 |cont=>obtain⟨_,_,_,q⟩:=hs;exact acU q
variable{id T:String}{r:Aag->Hp->VK->Prop}
def PD(r:Aag->Hp->VK->Prop)(t:TA):TE:=λU H Q=>t U H λvs H1=>r vs H1 Q
def bi(hc:Bd X (.builtin id) r)(hg:Gl X x)(hm:X.mg x=none)(hv:aca x=some (.builtin id))(ha:PA X (e::es) t)(hn:autoParam (x ≠ "__name__") on)(DH:autoParam #[12] on)
  (he:autoParam #[8] At) (Cj:autoParam #[11] At):PE X (.Call (.Name x p) (e::es) [] pos) (PD r t):=by
 intro pins s U H Q I h;refine adA (cw I hg hm hv ?_ hn DH);exact PyProof.Rows.callWith_builtin1 (Bt (ha pos pins s U H _ I h) λus s1 #[vs,H1,I1,r1,q1]=>hc pins s1 U H1 vs us Q I1 r1 q1) he Cj
def bT(hc:Bd X (.type T) r)(hg:Gl X x)(hm:X.mg x=none)(hv:aca x=some (.type T))(ha:PA X (e::es) t)(hn:autoParam (x ≠ "__name__") on)(DH:autoParam #[12] on)
  (he:autoParam #[8] At) (Cj:autoParam #[11] At):PE X (.Call (.Name x p) (e::es) [] pos) (PD r t):=by
 intro pins s U H Q I h;refine adA (cw I hg hm hv ?_ hn DH);exact ab5 (Bt (ha pos pins s U H _ I h) λus s1 #[vs,H1,I1,r1,q1]=>hc pins s1 U H1 vs us Q I1 r1 q1) he Cj
def qh(hc:Bd X (.type T) r)(hg:Gl X x)(hm:X.mg x=none)(hv:aca x=some (.type T))(hn:autoParam (x ≠ "__name__") on)(DH:autoParam #[12] on):
  PE X (.Call (.Name x p) [] [] pos) (PD r MF):=by
 intro pins s U H Q I h;refine adA (cw I hg hm hv ?_ hn DH);exact PyProof.Rows.callWith_type0 (hc pins s U H [] [] Q I .nil h)
end L2
namespace HT
open PySem PyProof.Rows
section
open PySem.SeqAt
open PySem.AutoSeq1 (wpAny_loadPart')
open PySem.MeetsSeq PySem.MeetsSeq2 PySem.MeetsSeq3
end
variable{prog:aaC}{w:World}{A:Around}{E:Aaa}{s:Shared}
def Lq{t b:Addr}{vs ws:Aad}{Q:Aaa}(ht:IsTup s.heap t vs.toArray)(hb:IsTup s.heap b ws.toArray)(hv:vs≠[])
  (h1:ws=[]->Q (.ref t) s) (h2:ws≠[]->Q (.ref s.heap.objs.size) {s with heap:=s.heap.push {cls:=.type "tuple",data:=.seq (vs++ws).toArray}})
  (hsz:vs.length+ws.length<=sizeLine):wpAny #[9] A (acg .Add (.ref t) (.ref b)) Q E s:=by
 obtain⟨⟨cls,dd,data,sl⟩,ho,hc,n,hd⟩:=id ht;obtain⟨⟨Rv,KA,data2,Kq⟩,Hh,ND,n2,hd2⟩:=id hb;subst hc hd ND hd2;have e:vs.toArray++ws.toArray=(vs++ws).toArray:=by simp
 by_cases hw:ws=[]
 .exact concat_meets #[_,ho,rfl] #[_,Hh,rfl] afa seq_tuple_add ad9 adZ (adP _ _)
   (tuple_addW1 t b vs.toArray ws.toArray n n2 dd KA sl Kq #[1] #[1]) #[ho,Hh,h1 hw]
 .refine concat_meets #[_,ho,rfl] #[_,Hh,rfl] afa seq_tuple_add ad9 adZ (adP _ _)
   (tuple_addW2 t b vs.toArray ws.toArray n n2 dd KA sl Kq #[1] #[1] #[1]) #[ho,Hh,?_]
  rw[e];exact h2 hw
noncomputable def Ca(n d:Nat):Option Int->Nat
 |none=>d
 |some v=>if v<0 then (v+(n:Int)).toNat else min v.toNat n
def E9(n d:Nat):Ca n d none=d:=rfl
def Gv(n d k:Nat):Ca n d (some (k:Int))=min k n:=rfl
theorem yi(n d:Nat)(hd:d<=n)(o:Option Int):Ca n d o<=n:=by
 cases o with
 |none=>exact hd
 |some v=>
  show (if v<0 then (v+n).toNat else min v.toNat n)<=n;by_cases hv:v<0
  .rw[if_pos hv];omega
  .rw[if_neg hv];exact Nat.min_le_right _ _
theorem pQ(v:Int)(n d:Nat):(if v<0 then max (v+(n:Int)) 0 else min v (n:Int))=((Ca n d (some v):Nat):Int):=by
 show (if v<0 then max _ 0 else min v _)=(((if v<0 then (v+(n:Int)).toNat else min v.toNat n):Nat):Int)
 by_cases hv:v<0
 .simp only[if_pos hv];omega
 .simp only[if_neg hv];omega
theorem qJ(lo hi:Option Int)(n:Nat):afS lo hi 1 (n:Int)=(((Ca n 0 lo:Nat):Int),((Ca n n hi:Nat):Int)):=by
 have h1  :=by omega
 refine Prod.ext ?_ ?_
 .cases lo with
  |none=>rfl
  |some v=>exact pQ v n 0
 .cases hi with
  |none=>rfl
  |some v=>exact pQ v n n
theorem qg(i j:Nat):abV (i:Int) (j:Int) 1=j - i:=by
 unfold abV;have h1  :=by omega
 split<;>omega
def DV{v:Value}{o:Option Int}{Q:Option Int->Shared->Prop}(p:IsPart v o)(h:Q o s):wpAny #[9] A (Builtin.Slice.slicePartIndex v) Q E s:=by
 cases p with
 |none=>exact slicePart_none h
 |int i t=>exact slicePart_int h
def CV{sl:Addr}{vl vu:Value}{lo hi:Option Int}{n:Nat}{Q:Int×Int×Nat->Shared->Prop}(hs:s.heap.IsSliceOf sl vl vu .none)(pl:IsPart vl lo)(pu:IsPart vu hi)
  (h:Q (((Ca n 0 lo:Nat):Int),1,Ca n n hi - Ca n 0 lo) s):wpAny #[9] A (Builtin.Slice.sliceApplied (.ref sl) (pure (n:Int))) Q E s:=by
 obtain⟨os,IC,Hz,Je⟩:=id hs;refine aaa (aaa (abf IC Je rfl (aaa (abf IC Je rfl (aaa (abf IC Je rfl (aae ?_)))))));refine aaa (slicePart_none ?_);refine aaa (DV pl (aaa (DV pu (aaa (aae ?_)))));show wpAny _ _ (match afS lo hi 1 _ with|(lo,hi)=>pure (lo,(1:Int),abV lo hi 1)) _ _ s;rw[qJ lo hi n];show wpAny _ _ (pure _) _ _ s;rw[qg];exact aae h
theorem uc(xs:Aak)(i k:Nat):((aa3 k).filterMap λ(m:Nat)=>xs[((i:Int)+(m:Int)*1).toNat]?).toArray=((xs.toList.drop i).take k).toArray:=by
 have e:(λ(m:Nat)=>xs[(i+(m:Int)*1).toNat]?)=λm=>xs[i+m]?:=by
  funext m;have:(i+(m:Int)*1).toNat=i+m:=by omega
  rw[this]
 rw[e];have:=pick_run xs i k;rw[ac3]at this;have e2:((λx=>xs[x]?) ∘ λx=>i+x)=λm=>xs[i+m]?:=rfl;rw[e2]at this;rw[this]
theorem D7{t sl:Addr}{items:Aak}{vl vu:Value}{lo hi:Option Int}{Q:Aaa}(ht:IsTup s.heap t items)(hs:s.heap.IsSliceOf sl vl vu .none)(pl:IsPart vl lo)(pu:IsPart vu hi)
  (hw:¬ (Ca items.size 0 lo=0/\Ca items.size items.size hi=items.size))
  (h:Q (.ref s.heap.objs.size) {s with heap:=s.heap.push {cls:=.type "tuple",data:=.seq ((items.toList.drop (Ca items.size 0 lo)).take (Ca items.size items.size hi - Ca items.size 0 lo)).toArray}})
  (hsz:items.size<=sizeLine):wpAny #[9] A (adH (.ref t) (.ref sl)) Q E s:=by
 have IA:sizeOk (.seq ((items.toList.drop (Ca items.size 0 lo)).take (Ca items.size items.size hi - Ca items.size 0 lo)).toArray):=by show ((items.toList.drop (Ca items.size 0 lo)).take (Ca items.size items.size hi - Ca items.size 0 lo)).toArray.size<=sizeLine;rw[aak,abp,ab8,aaE];omega
 have hj:Ca items.size items.size hi<=items.size:=yi _ _ (aai _) hi;obtain⟨os,IC,Hz,Je⟩:=id hs;have Y1:s.TypeIs (.ref sl) "slice" := #[os,IC,Hz]
 unfold adH;try with_reducible refine aaX ?_
 first|refine aaa (aae ?_)|skip
 refine aaa (aeQ ht.typeIs #[2] ?_);refine aaa (aa4 (name:=aao "__getitem__") ht.typeIs aby
  (aaT aby ht.typeIs aev ?_ (aeH _ _)))
 show wpAny _ _ (adz (.ref t) >>= _) _ _ s;refine aaa (tupleItemsOf_ ht ?_);refine aaa (acn Y1 ?_);rw[if_pos #[2]];refine aaa (CV hs pl pu ?_);have Ys:¬ ((((Ca items.size 0 lo:Nat):Int)==0 && (1:Int)==1 && (Ca items.size items.size hi - Ca items.size 0 lo)==items.size)=true):=by intro q;rw[aaM,aaM]at q;have q1:((Ca items.size 0 lo:Nat):Int)=0:=eq_of_beq q.1.1;have q2:Ca items.size items.size hi - Ca items.size 0 lo=items.size:=eq_of_beq q.2;exact hw #[#[],#[]]
 show wpAny _ _ (if (((Ca items.size 0 lo:Nat):Int)==0 && (1:Int)==1 && (Ca items.size items.size hi - Ca items.size 0 lo)==items.size)=true then _ else _) _ _ s;rw[if_neg Ys,uc];first
  |exact aaa (m:=acm _) (aaZ (aae #[_,rfl,aae h]) IA)
  |exact aaa (m:=acm _) (aaZ (aaa (aae (aae #[_,rfl,aae h]))) IA)
  |exact aaa (aaa (m:=acm _) (aaZ (aae (aae #[_,rfl,aae h])) IA))
  |exact aaa (aaa (m:=acm _) (aaZ (aae #[_,rfl,aae h]) IA))
end HT
namespace L2
open PySem PySem.Spec PyProof.Rows
abbrev TO:=St->Hp->(Option Int->Hp->Prop)->Prop
def PO(X:Cx)(e:Option Expr)(t:TO):Prop :=
 ∀(pins:Aac) (s:Shared) (U:St) (H:Hp) (Q:Option Int->Hp->Prop),Inv X pins U H s->t U H Q ->
  wpAny #[6] X.A (evalPart e X.env) (λu s'=>∃o H',Inv X pins U H' s'/\IsPart u o/\Q o H') X.xe s
def vX:TO:=λ_ H Q=>Q none H
def Po(t:TE):TO:=λU H Q=>t U H λx H1=>∃i,x=.int i/\Q (some i) H1
variable{X:Cx}{e:Expr}{te:TE}{lo hi:Option Expr}{tl th:TO}{pos p2:Pos}
def o6:PO X none vX:=by intro pins s U H Q I h;exact aae #[none,H,I,.none,h]
def o5(h:PE X e te):PO X (some e) (Po te):=by intro pins s U H Q I hw;refine Bt (h pins s U H _ I hw) λu s1 #[x,H1,I1,r1,q1]=>?_;obtain⟨i,rfl,q⟩:=q1;obtain⟨t,rfl⟩:=r1;exact#[some i,H1,I1,.int i t,q]
def KH(X:Cx)(r:V->Option Int->Option Int->Hp->VK->Prop):Prop :=
 ∀(pins:Aac) (s:Shared) (U:St) (H:Hp) (x:V) (v vl vu:Value) (lo hi:Option Int) (sl:Addr) (Q:VK),Inv X pins U H s->RelV x v->s.heap.IsSliceOf sl vl vu .none->IsPart vl lo->IsPart vu hi->r x lo hi H Q ->
  ∃T id,aeS (.type T) "__getitem__" = pure (some (.builtin id))/\s.TypeIs v T/\wpAny #[6] X.A (adH v (.ref sl)) (EP X pins U Q) X.xe s
def KH.or{r r':V->Option Int->Option Int->Hp->VK->Prop}(h:KH X r)(h':KH X r'):KH X (λx lo hi H Q=>r x lo hi H Q\/r' x lo hi H Q):=by
 intro pins s U H x v vl vu lo hi sl Q I rx hs pl pu q;rcases q with q|q
 .exact h pins s U H x v vl vu lo hi sl Q I rx hs pl pu q
 .exact h' pins s U H x v vl vu lo hi sl Q I rx hs pl pu q
def Xq(r:V->Option Int->Option Int->Hp->VK->Prop)(te:TE)(tl th:TO):TE:=λU H Q=>te U H λx H1=>tl U H1 λl H2=>th U H2 λu H3=>r x l u H3 Q
def iW{r:V->Option Int->Option Int->Hp->VK->Prop}(hr:KH X r)(he:PE X e te)(hl:PO X lo tl)(hu:PO X hi th):PE X (.Subscript e (.Slice lo hi none p2) pos) (Xq r te tl th):=by intro pins s U H Q I h;refine Subscript_ (Bt (he pins s U H _ I h) λv s1 #[x,H1,I1,r1,q1]=>?_);refine wpAny_Slice (Bt (hl pins s1 U H1 _ I1 q1) λvl s2 #[l,H2,I2,pl,q2]=>Bt (hu pins s2 U H2 _ I2 q2) λvu s3 #[u,H3,I3,pu,q3]=>?_);rw[evalPart_none];refine aae ?_;have I4:Inv X pins U H3 {s3 with heap:=s3.heap.push {cls:=.type "slice",data:=.fields #v[vl,vu,.none]}}:=I3.kept (t':=s3.toks) λb ob q=>aac _ q;obtain⟨T,id,hT,ht,hg⟩:=hr pins {s3 with heap:=s3.heap.push {cls:=.type "slice",data:=.fields #v[vl,vu,.none]}} U H3 x v vl vu l u s3.heap.objs.size Q I4 r1 (Heap.IsSliceOf.new ..) pl pu q3;show wpAny #[6] X.A (subscriptTail e (.Slice lo hi none p2) v (.ref s3.heap.objs.size)) (EP X pins U Q) X.xe {s3 with heap:=s3.heap.push {cls:=.type "slice",data:=.fields #v[vl,vu,.none]}};exact tail_any (ops:=[.ref s3.heap.objs.size,v]) ht hT hg (by with_unfolding_all rfl)
noncomputable def Fu(xs:Aag)(lo hi:Option Int):Aag:=(xs.drop (HT.Ca xs.length 0 lo)).take (HT.Ca xs.length xs.length hi - HT.Ca xs.length 0 lo)
theorem iJ(xs:Aag)(lo hi:Option Int):(Fu xs lo hi).length<=xs.length:=by unfold Fu;rw[abp,ab8];omega
def S9(K:aag):V->Option Int->Option Int->Hp->VK->Prop:=λx lo hi H Q=>∃a xs,x=.ref a/\Cf K H a xs /\
 ¬ (HT.Ca xs.length 0 lo=0/\HT.Ca xs.length xs.length hi=xs.length)/\∀p,H p=none->Q (.ref p) (upd H p (.tup (Fu xs lo hi)))
def yg:KH X (S9 X.K):=by
 intro pins s U H x v vl vu lo hi sl Q I rx hs pl pu h;obtain⟨a,xs,rfl,hx,hw,q⟩:=h;cases rx;obtain⟨eQ,r,ht,hz⟩:=I.tuple hx;have hlen:eQ.toArray.size=xs.length:=by exact r.length.symm
 refine#[_,_,PyProof.Rows.slot_tuple_getitem.lookup,ht.typeIs,?_];refine HT.D7 ht hs pl pu #[1] ?_ #[1];rw[hlen];refine#[.ref s.heap.objs.size,_,I.laid (λb ob q=>aac _ q) (aai _) ?_,rfl,q _ (I.Bc.fresh (aai _))];exact#[aaK (iJ xs lo hi) hz,_,(r.drop _).take _,afC _ _,_,aaf _ rfl,rfl]
def Qd(K:aag):R2:=λx y H Q=>∃a b xs ys,x=.ref a/\y=.ref b/\Cf K H a xs/\Cf K H b ys/\xs≠[]/\xs.length+ys.length<=sizeLine /\
 (ys=[]->Q (.ref a) H)/\(ys≠[]->∀p,H p=none->Q (.ref p) (upd H p (.tup (xs++ys))))
variable{xs:Aag}{us:Aad}
def oF.GA(r:oF xs us):us=[]↔xs=[]:=by
 cases r with
 |nil=>simp
 |cons _ _=>simp
def wR:BX X (acg .Add) (Qd X.K):=by intro pins s U H x y v u Q I rx ry h;obtain⟨a,b,xs,ys,rfl,rfl,ha,hb,hx,hz,q1,q2⟩:=h;cases rx;cases ry;obtain⟨eQ,r1,p1,_⟩:=I.tuple ha;obtain⟨BO,r2,p2,_⟩:=I.tuple hb;refine HT.Lq p1 p2 (λz=>hx (r1.GA.mp z)) (λz=>#[.ref a,H,I,rfl,q1 (r2.GA.mp z)]) (λz=>?_) (by rw[<- r1.length,<- r2.length];exact hz);refine#[.ref s.heap.objs.size,_,I.laid (t':=s.toks) (o:=.tup (xs++ys)) (λb ob q=>aac _ q) (aai _) ?_,rfl,q2 (λw=>z (r2.GA.mpr w)) _ (I.Bc.fresh (aai _))];exact#[by rw[aan];exact hz,_,r1.append r2,afC _ _,_,aaf _ rfl,rfl]
noncomputable def JU(n:Nat)(i:Int):Option Nat:=if 0<=i then (if i<n then some i.toNat else none)else if -(n:Int)<=i then some (i+n).toNat else none
variable{O:Type}
noncomputable def Ih(xs:List O)(i:Int):Option O:=(JU xs.length i).bind λj=>xs[j]?
variable{n j:Nat}{i:Int}
theorem kF(h:JU n i=some j):afq i n=some j/\j<n /\ -(n:Int)<=i/\i<n:=by
 unfold JU at h;by_cases h0:0<=i
 .rw[if_pos h0]at h;by_cases h1:i<n
  .rw[if_pos h1]at h;have e  := aar h;exact#[by rw[seqIndex_of h0 h1,e],#[],#[],h1]
  .rw[if_neg h1]at h;cases h
 .rw[if_neg h0]at h;by_cases h1 : -n<=i
  .rw[if_pos h1]at h;have e  := aar h;exact#[by rw[seqIndex_neg #[] h1,e],#[],h1,#[]]
  .rw[if_neg h1]at h;cases h
def kX{xs:List O}{v:O}(h:Ih xs i=some v):∃j,afq i xs.length=some j/\xs[j]?=some v/\j<xs.length /\ -(xs.length:Int)<=i/\i<xs.length:=by
 unfold Ih at h;cases e:JU xs.length i with
 |none=>rw[e]at h;cases h
 |some j=>rw[e]at h;obtain⟨h1,h2,h3,h4⟩:=kF e;exact#[j,h1,h,h2,h3,h4]
theorem ak{xs:List O}{v:O}(h:xs[j]?=some v):Ih xs (j:Int)=some v:=by
 have hj  := (List.getElem?_eq_some_iff.mp h).1;have e:JU xs.length j=some j:=by unfold JU;rw[if_pos #[],if_pos #[]];simp
 unfold Ih;rw[e];exact h
def kZ(b:Expr):Prop:=∀o i,afp b false o i=operate [o,i] (adH o i)
def Kn(X:Cx)(r:R2):Prop :=
 ∀(value slice:Expr) (pins:Aac) (s:Shared) (U:St) (H:Hp) (x y:V) (v u:Value) (Q:VK),Inv X pins U H s->RelV x v->RelV y u->r x y H Q ->
  afp slice false v u=operate [v,u] (adH v u)->wpAny #[6] X.A (subscriptTail value slice v u) (EP X pins U Q) X.xe s
def Sz(X:Cx)(id:String)(r:V->List V->Hp->VK->Prop):Prop :=
 ∀(pins:Aac) (s:Shared) (U:St) (H:Hp) (x:V) (xs:Aag) (v:Value) (us:Aad) (Q:VK),Inv X pins U H s->RelV x v->oF xs us->r x xs H Q ->
  wpAny #[6] X.A (call (.builtin id) (v::us)) (EP X pins U Q) X.xe s
variable{a b:Expr}{ta tb:TE}
variable{r r':R2}
def Kn.or(h:Kn X r)(h':Kn X r'):Kn X (λx y H Q=>r x y H Q\/r' x y H Q):=by
 intro value slice pins s U H x y v u Q I rx ry q hs;rcases q with q|q
 .exact h value slice pins s U H x y v u Q I rx ry q hs
 .exact h' value slice pins s U H x y v u Q I rx ry q hs
def cg(hr:Kn X r)(ha:PE X a ta)(hb:PE X b tb)(hs:kZ b):PE X (.Subscript a b pos) (E6 r ta tb):=by intro pins s U H Q I h;exact Subscript_ (NU ha hb I h λv u s2 x y H2 I2 rx ry q=>hr a b pins s2 U H2 x y v u Q I2 rx ry q (hs _ _))
def P8(K:aag):R2:=λx y H Q=>∃p xs i v,x=.ref p/\y=.int i/\Cr K H p xs/\Ih xs i=some v/\Q v H
def P6(K:aag):R2:=λx y H Q=>∃p xs i v,x=.ref p/\y=.int i/\Cf K H p xs/\Ih xs i=some v/\Q v H
def P7:R2:=λx y H Q=>∃z i c,x=.str z/\y=.int i/\z.length<=sizeLine/\Ih z.cps.toList i=some c/\Q (.str #[#v[c]]) H
theorem KQ:Kn X (P8 X.K):=by
 intro value slice pins s U H x y v u Q I rx ry h hs;obtain⟨p,xs,i,z,rfl,rfl,hq,he,q⟩:=h;cases rx;obtain⟨t,rfl⟩:=ry;obtain⟨eQ,r,pl,hz⟩:=I.list hq;obtain⟨j,h1,h2,h3,h4,h5⟩:=kX he;obtain⟨w,ew,DG⟩:=r.get h2;have hl:=r.length;have hn:=DX;have fin:EP X pins U Q w s:=#[z,H,I,DG,q]
 by_cases h0:0<=i
 .have hj  :=by rw[seqIndex_of h0 h5]at h1;exact aar h1
  exact item_listR pl.isList h0 #[] #[1] fin hs
 .have hj:(i+(eQ.toArray.size:Int)).toNat=j:=by rw[seqIndex_neg #[] h4]at h1;rw[aak,<- hl];exact aar h1
  exact subscriptTail_builtinR pl.isList.typeIs slot_list_getitem.lookup
   (wpAny_getItem_list_neg pl.isList #[] #[1] #[] #[1] #[rfl,fin]) hs
theorem Nh:Kn X (P6 X.K):=by
 intro value slice pins s U H x y v u Q I rx ry h hs;obtain⟨p,xs,i,z,rfl,rfl,hq,he,q⟩:=h;cases rx;obtain⟨t,rfl⟩:=ry;obtain⟨eQ,r,pl,hz⟩:=I.tuple hq;obtain⟨j,h1,h2,h3,h4,h5⟩:=kX he;obtain⟨w,ew,DG⟩:=r.get h2;have hl:=r.length;have hn:=DX;have fin:EP X pins U Q w s:=#[z,H,I,DG,q]
 exact subscriptTail_builtinR pl.typeIs slot_tuple_getitem.lookup
  (getItem_tuple (j:=j) pl #[] #[] #[1] #[1] #[rfl,fin]) hs
theorem yZ:Kn X P7:=by
 intro value slice pins s U H x y v u Q I rx ry h hs;obtain⟨z,i,c,rfl,rfl,hz,he,q⟩:=h;obtain⟨t,rfl⟩:=rx;obtain⟨t',rfl⟩:=ry;obtain⟨j,h1,h2,h3,h4,h5⟩:=kX he;have hl:z.cps.toList.length=z.length:=rfl;have hn:=DX;exact tail_any (typeIs_str s z t) slot_str_getitem.lookup (getItem_str (by have e1:decide (i < -2 ^ 63)=false:=decide_eq_false #[];have e2:decide (i ≥ 2 ^ 63)=false:=decide_eq_false #[];rw[e1,e2,Bool.or_false]) #[1] #[.str _,H,I.tok _,#[_,rfl],q]) hs
def V4(K:aag):R2:=λx y H Q=>P8 K x y H Q\/P6 K x y H Q\/P7 x y H Q
def Ni:Kn X (V4 X.K):=KQ.or (Nh.or yZ)
def qo(eQ:Aad)(n j:Nat)(u:Value):abE (·.setIfInBounds j u) {cls:=.type "list",data:=.seq eQ.toArray n}={cls:=.type "list",data:=.seq (eQ.set j u).toArray n}:=by simp[abE]
variable{pins:Aac}{U:St}{H:Hp}{s:Shared}
def Inv.lst{p:Addr}(I:Inv X pins U H s)(h:H p=some (.lst xs)):
  ∃(eQ:Aad) (n:Nat),oF xs eQ/\s.heap.get? p=some {cls:=.type "list",data:=.seq eQ.toArray n}/\xs.length<=sizeLine:=by
 obtain⟨z,eQ,n,r,e⟩:=I.Bc p _ h;exact#[eQ,n,r,e,z]
variable{eQ:Aad}
def Inv.Nd{p:Addr}{ys:Aag}{ER:Aad}{n':Nat}{f:Obj->Obj}(I:Inv X pins U H s)(h:H p=some (.lst xs))
  (ho:s.heap.get? p=some {cls:=.type "list",data:=.seq eQ.toArray n}) (hf:f {cls:=.type "list",data:=.seq eQ.toArray n}={cls:=.type "list",data:=.seq ER.toArray n'}) (r:oF ys ER) (hz:ys.length<=sizeLine) (t:Nat) :
  Inv X pins U (upd H p (.lst ys)) {s with heap:=s.heap.update p f,toks:=t}:=by
 have e:(s.heap.update p f).get? p=some {cls:=.type "list",data:=.seq ER.toArray n'}:=by rw[abn f ho (by rw[hf]<;>rfl),hf]
 refine I.write (by rw[h];trivial) (.inl rfl) (λb u hb q=>(ac8 _ _ (abz hb)).trans q) #[_,e] ?_;exact#[hz,ER,n',r,e]
def LJ:V->V->V->Hp->(Hp->Prop)->Prop:=λo i v H Q=>∃p xs k j,o=.ref p/\i=.int k/\H p=some (.lst xs)/\JU xs.length k=some j/\Q (upd H p (.lst (xs.set j v)))
theorem tW:Ht X LJ:=by
 intro pins s U H o i v ov iv u Q I ro ri rv h;obtain⟨p,xs,k,j,rfl,rfl,hp,hj,q⟩:=h;cases ro;obtain⟨t,rfl⟩:=ri;obtain⟨eQ,n,r,ho,hz⟩:=I.lst hp;obtain⟨h1,h2,h3,h4⟩:=kF hj;have hl:=r.length;have hn:=DX;have I'  :=
  I.Nd hp ho (qo eQ n j u) (r.set rv j) #[1] s.toks
 by_cases h0:0<=k
 .have hk  :=by rw[seqIndex_of h0 h4]at h1;exact aar h1
  exact PySem.W.ki_setAt ho h0 #[] #[1] (by rw[hk];exact#[_,I',q])
 .have hk:(k+(eQ.toArray.size:Int)).toNat=j:=by rw[seqIndex_neg #[] h3]at h1;rw[aak,<- hl];exact aar h1
  exact PySem.W.ki_setBack ho #[] #[1] #[] (by rw[hk];exact#[_,I',q])
theorem mS(lo hi:Option Int)(n:Nat):(ado lo hi none n).1=((HT.Ca n 0 lo:Nat):Int)/\(ado lo hi none n).2.1=((HT.Ca n n hi:Nat):Int)/\(ado lo hi none n).2.2=1:=by
 refine#[?_,?_,rfl]
 .cases lo with
  |none=>simp[ado,HT.Ca]
  |some i=>
   simp only[ado,HT.Ca,Option.getD_none,if_true];by_cases h:i<0
   .simp only[h,if_true]<;>omega
   .simp only[h,if_false]<;>omega
 .cases hi with
  |none=>simp[ado,HT.Ca]
  |some i=>
   simp only[ado,HT.Ca,Option.getD_none,if_true];by_cases h:i<0
   .simp only[h,if_true]<;>omega
   .simp only[h,if_false]<;>omega
def mf(eQ:Aad)(lo hi:Option Int):slicePick eQ.toArray lo hi none=((eQ.drop (HT.Ca eQ.length 0 lo)).take (HT.Ca eQ.length eQ.length hi - HT.Ca eQ.length 0 lo)).toArray:=by obtain⟨h1,h2,h3⟩:=mS lo hi eQ.toArray.size;unfold slicePick;rw[h1,h2,h3];simp only[sliceRange_one,pick_run]<;>rfl
def Tb(K:aag):V->Option Int->Option Int->Hp->VK->Prop:=λx lo hi H Q=>∃a xs,x=.ref a/\Cr K H a xs/\∀p,H p=none->Q (.ref p) (upd H p (.lst (Fu xs lo hi)))
def oS:KH X (Tb X.K):=by intro pins s U H x v vl vu lo hi sl Q I rx hs pl pu h;obtain⟨a,xs,rfl,hx,q⟩:=h;cases rx;obtain⟨eQ,r,ht,hz⟩:=I.list hx;have hlen:=r.length;refine#[_,_,slot_list_getitem.lookup,ht.isList.typeIs,?_];refine wpAny_getItem_list_slice ht.isList hs pl pu .none #[0] ?_ #[1];rw[mf,<- hlen];refine#[.ref s.heap.objs.size,_,I.laid (λb ob q=>aac _ q) (aai _) ?_,rfl,q _ (I.Bc.fresh (aai _))];exact#[aaK (iJ xs lo hi) hz,_,0,(r.drop _).take _,aaf _ rfl]
def m9:BX X (aa1 .NotIn) (λx y H Q=>∃i j,x=.str i/\y=.str j/\Q (.bl (!(!(ac5 j i 0 j.length 1).isEmpty))) H):=by intro pins s U H x y v u Q I rx ry h;obtain⟨i,j,rfl,rfl,q⟩:=h;obtain⟨t,rfl⟩:=rx;obtain⟨t',rfl⟩:=ry;exact notIn_str #[.bl _,H,I,rfl,q]
theorem gM:Bd X (.builtin "len") (λxs H Q=>∃p ys,xs=[.ref p]/\(Cr X.K H p ys\/Cf X.K H p ys)/\Q (.int ys.length) H):=by
 intro pins s U H xs us Q I r h;obtain⟨p,ys,rfl,hq,q⟩:=h;obtain⟨u,rfl,rx⟩:=vals1 r;cases rx;have hn:=DX;rcases hq with hq|hq
 .obtain⟨eQ,r',pl,hz⟩:=I.list hq;have hlen:=r'.length;exact Calls.call_len_list pl.isList (by simp only[aak]<;>omega) #[.int ys.length,H,I.tok _,#[s.toks+1,#[1]],q]
 .obtain⟨eQ,r',pl,hz⟩:=I.tuple hq;have hlen:=r'.length;exact len_tuple pl (by simp only[aak]<;>omega) #[.int ys.length,H,I.tok _,#[s.toks+1,#[1]],q]
theorem nX:Bd X (.builtin "len") (λxs H Q=>∃z,xs=[.str z]/\z.length<=sizeLine/\Q (.int z.length) H):=by intro pins s U H xs us Q I r h;obtain⟨z,rfl,hz,q⟩:=h;obtain⟨u,rfl,t,rfl⟩:=vals1 r;have hn:=DX;exact len_str #[] #[.int z.length,H,I.tok _,#[_,rfl],q]
variable{f:Value}
def Bd.or{r r':Aag->Hp->VK->Prop}(h:Bd X f r)(h':Bd X f r'):Bd X f (λxs H Q=>r xs H Q\/r' xs H Q):=by
 intro pins s U H xs us Q I rs q;rcases q with q|q
 .exact h pins s U H xs us Q I rs q
 .exact h' pins s U H xs us Q I rs q
def gL:Bd X (.type "list") (λxs H Q=>∃p ys,xs=[.ref p]/\(Cr X.K H p ys\/Cf X.K H p ys)/\∀l,H l=none->Q (.ref l) (upd H l (.lst ys))):=by
 intro pins s U H xs us Q I r h;obtain⟨p,ys,rfl,hq,q⟩:=h;obtain⟨u,rfl,rx⟩:=vals1 r;cases rx;have fin:∀(eQ:Aad),oF ys eQ->ys.length<=sizeLine->∀(h':Heap) (c':Nat),(∀b o',s.heap.get? b=some o'->h'.get? b=some o') ->
   h'.get? s.heap.objs.size=some _->EP X pins U Q _ _:=λeQ r' hz h' c' kp e=>
  #[.ref s.heap.objs.size,_,I.laid (t':=s.toks) kp (aai _) (show Bm X.prog X.w _ h' _ (.lst ys)from #[hz,eQ,c',r',e]),rfl,q _ (I.Bc.fresh (aai _))]
 rcases hq with hq|hq
 .obtain⟨eQ,r',pl,hz⟩:=I.list hq;have hlen:=r'.length;obtain⟨o,ho,hc,n,hd⟩:=pl.isList;exact call_list_seq p (.inl rfl) ho hc hd (λh' c' kp e=>fin eQ r' hz h' c' kp e) #[1]
 .obtain⟨eQ,r',pl,hz⟩:=I.tuple hq;have hlen:=r'.length;obtain⟨o,ho,hc,n,hd⟩:=pl;exact call_list_seq p (.inr rfl) ho hc hd (λh' c' kp e=>fin eQ r' hz h' c' kp e) #[1]
def mE:Bd X (.type "tuple") (λxs H Q=>∃p ys,xs=[.ref p]/\((Cr X.K H p ys/\∀l,H l=none->Q (.ref l) (upd H l (.tup ys)))\/(Cf X.K H p ys/\Q (.ref p) H))):=by
 intro pins s U H xs us Q I r h;obtain⟨p,ys,rfl,h⟩:=h;obtain⟨u,rfl,rx⟩:=vals1 r;cases rx;rcases h with ⟨hq,q⟩|⟨hq,q⟩
 .obtain⟨eQ,r',pl,hz⟩:=I.list hq;have hlen:=r'.length;refine call_tuple_list pl.isList (λh' kp=>?_) #[1];have I1  := I.kept (t':=s.toks) kp;have I2  :=
   I1.laid (t':=s.toks) (λb o e=>aac _ e) (aai _) (show Bm X.prog X.w _ _ _ (.tup ys)from #[hz,eQ,r',afC _ _,_,aaf _ rfl,rfl])
  exact#[.ref h'.objs.size,_,I2,rfl,q _ (I1.Bc.fresh (aai _))]
 .obtain⟨eQ,r',pl,hz⟩:=I.tuple hq;exact call_tuple_same pl #[.ref p,H,I,rfl,q]
def SM(K:aag)(T:String)(x:V)(H:Hp):Prop:=match x with
 |.str _=>T = "str"
 |.int _=>T = "int"
 |.ref p=>(T = "list" /\ ∃xs,Cr K H p xs)\/(T = "tuple" /\ ∃o,K.lookup p=some o/\o.cls=.type "tuple" /\ o.dict=none) \/
   (T = "dict" /\ ((∃gE,H p=some (.dK gE))\/∃gE,H p=some (.dT gE)))\/(T = "set" /\ ∃S n,H p=some (.set S n))
 |_=>False
variable{x:V}{v:Value}
def qQ{T:String}(I:Inv X pins U H s)(r:RelV x v)(ty:SM X.K T x H):
  s.TypeIs v T/\∀a,v=.ref a->∃ob,s.heap.get? a=some ob/\ob.dict=none:=by
 cases x with
 |str z=>obtain⟨t,rfl⟩:=r;cases (ty);exact#[typeIs_str s z t,λ_ e=>nomatch e]
 |int i=>obtain⟨t,rfl⟩:=r;cases (ty);exact#[typeIs_int s i t,λ_ e=>nomatch e]
 |ref p=>
  cases r;rcases ty with ⟨rfl,xs,hq⟩|⟨rfl,o,hk,hc,hd⟩|⟨rfl,hk⟩|⟨rfl,S,n,hk⟩
  .obtain⟨eQ,_,pl,_⟩:=I.list hq;refine#[pl.isList.typeIs,λa e=>?_];cases e;obtain⟨o,n,e,c,hd,_⟩:=pl;exact#[o,e,hd]
  .refine#[#[o,I.GB p o hk,hc],λa e=>?_];cases e;exact#[o,I.GB _ o hk,hd]
  .have z:∃o,s.heap.get? p=some o/\o.ExactDict:=by
    rcases hk with ⟨gE,hk⟩|⟨gE,hk⟩
    .obtain⟨_,_,_,_,o,_,_,e,ex,_⟩:=I.Bc p _ hk;exact#[o,e,ex]
    .obtain⟨_,_,_,_,o,_,_,e,ex,_⟩:=I.Bc p _ hk;exact#[o,e,ex]
   obtain⟨o,e,ex⟩:=z;refine#[#[o,e,ex.1],λa e2=>?_];cases e2;exact#[o,e,ex.2.1]
  .obtain⟨o,_,_,_,e,ex,_⟩:=I.Bc p _ hk;refine#[#[o,e,ex.1],λa e2=>?_];cases e2;exact#[o,e,ex.2.1]
 |_=>exact acU ty
def SX(K:aag)(T:String)(r:V->List V->Hp->VK->Prop)(to:TE):TE:=λU H Q=>to U H λx H1=>SM K T x H1/\r x [] H1 Q
def VQ(K:aag)(T:String)(r:V->List V->Hp->VK->Prop)(to:TE)(t:TA):TE:=λU H Q=>to U H λx H1=>SM K T x H1/\t U H1 λxs H2=>r x xs H2 Q
variable{o:Expr}{es:Aai}{to:TE}{t:TA}{name:Str}{apos Bs:Pos}{T id:String}{r:V->List V->Hp->VK->Prop}
def yz(pa:PlainAttrs T)(slot:Slot T name id)(IY:typeOf (.builtin id)=pure (.type "method_descriptor"))(hm:Sz X id r)(ho:PE X o to)
  (BI:autoParam (abT o name X.env (eval o X.env)=eval o X.env) At) (BH:autoParam ((apos.endLine==Bs.line)=true) At):PE X (.Call (.Attribute o name apos) [] [] Bs) (SX X.K T r to):=by
 intro pins s U H Q I h;refine wpAny_Call_method0_late BI BH (Bt (ho pins s U H _ I h) λv s1 #[x,H1,I1,r1,ty,q1]=>?_);obtain⟨h1,h2⟩:=qQ I1 r1 ty;exact#[T,id,pa,slot,IY,h1,h2,ac9 rfl (PySem.evalArgs_none (hm pins s1 U H1 x [] v [] Q I1 r1 .nil q1))]
def qi(pa:PlainAttrs T)(slot:Slot T name id)(IY:typeOf (.builtin id)=pure (.type "method_descriptor"))(hm:Sz X id r)(ho:PE X o to)(ha:PA X (e::es) t)
  (BI:autoParam (abT o name X.env (eval o X.env)=eval o X.env) At)
  (Fl:autoParam (((backTo Bs (aal (e::es) X.env)).all (λx=>!x.1) && (afi Bs (adX [] X.env)).all (λx=>x.1.isSome)
   && decide ((e::es).length+([]:List adv).length+(if ([]:List adv).isEmpty then 0 else 1)<30))=true) At)
  (BH:autoParam ((apos.endLine==Bs.line)=true) At) (hs:autoParam #[8] At) (C4:autoParam ((backTo Bs (aal es X.env)).any (·.1)=false) At) :
  PE X (.Call (.Attribute o name apos) (e::es) [] Bs) (VQ X.K T r to t):=by
 intro pins s U H Q I h;refine wpAny_Call_method_late BI Fl BH rfl (Bt (ho pins s U H _ I h) λv s1 #[x,H1,I1,r1,ty,q1]=>?_);obtain⟨h1,h2⟩:=qQ I1 r1 ty;refine#[T,id,pa,slot,IY,h1,h2,?_];have hA:=ha Bs pins s1 U H1 _ I1 q1;rw[hs]at hA ⊢;refine ac9 #[1] (Calls.evalArgs_plain ?_);exact Bt hA λus s2 #[vs,H2,I2,r2,q2]=>hm pins s2 U H2 x vs v us Q I2 r1 r2 q2

def Vl(X:Cx)(id:String)(r:V->List V->Hp->VK->Prop):Prop :=
 ∀(pins:Aac) (s:Shared) (U:St) (H:Hp) (x:V) (xs:Aag) (v:Value) (us:Aad) (Q:VK),Inv X pins U H s->RelV x v->oF xs us->r x xs H Q ->
  wpAny #[6] X.A (call (.builtin id) (v::us)) (EP X pins U Q) X.xe s
def oF.one:∀{x:V} {us:Aad},oF [x] us->∃u,us=[u]/\RelV x u
 |_,_,.cons r .nil=>#[_,rfl,r]
def oF.zero:∀{us:Aad},oF [] us->us=[]
 |_,.nil=>rfl
def oF.dropLast(h:oF xs us):oF xs.dropLast us.dropLast:=by
 induction h with
 |nil=>exact .nil
 |cons r t ih=>
  cases t with
  |nil=>exact .nil
  |cons q t'=>exact .cons r ih
def oF.eraseIdx:∀{xs:Aag} {us:Aad} (i:Nat),oF xs us->oF (xs.eraseIdx i) (us.eraseIdx i)
 |_,_,_,.nil=>.nil
 |_,_,0,.cons _ t=>t
 |_,_,i+1,.cons r t=>.cons r (oF.eraseIdx i t)
def oF.reverse(h:oF xs us):oF xs.reverse us.reverse:=by
 induction h with
 |nil=>exact .nil
 |cons r t ih=>rw[acj,acj];exact oF.append ih (.cons r .nil)
def oF.rep(h:oF xs us):∀k:Nat,oF (aaR k xs).flatten (aaR k us).flatten
 |0=>.nil
 |k+1=>by exact oF.append h (oF.rep h k)
theorem qC(l:List O):l.eraseIdx (l.length - 1)=l.dropLast:=by
 induction l with
 |nil=>rfl
 |cons a r ih=>
  cases r with
  |nil=>rfl
  |cons b r=>
   have e:(a::b::r).length - 1=((b::r).length - 1)+1:=by have h1:(a::b::r).length=r.length+2:=rfl;have h2:(b::r).length=r.length+1:=rfl;omega
   rw[e,List.eraseIdx_cons_succ,ih];all_goals rfl
def lH:∀(l:List O) (i:Nat),(l.eraseIdx i).length<=l.length
 |[],_=>aai _
 |_::_,0=>acA _
 |_::r,i+1=>Nat.succ_le_succ (lH r i)
def lM(eQ:Aad):∀(k:Nat) (acc:Aad),
  List.foldl (λx1 x2=>x1++x2) acc.toArray (aaR k eQ.toArray)=(acc++(aaR k eQ).flatten).toArray
 |0,acc=>by simp
 |k+1,acc=>by
  have e:acc.toArray++eQ.toArray=(acc++eQ).toArray:=by simp
  have e2:(acc++eQ)++(aaR k eQ).flatten=acc++(aaR (k+1) eQ).flatten:=by rw[ads,List.flatten_cons,abS]
  rw[<- e2,<- lM eQ k _,<- e,ads,ac2]
variable{l b:Addr}{ys zs:Aag}
variable{t':Nat}
def Inv.Nf{ER:Aad}{f:Aak->Array Value}(I:Inv X pins U H s)(hH:H l=some (.lst xs))
  (e:s.heap.get? l=some {cls:=.type "list",data:=.seq eQ.toArray n}) (hf:f eQ.toArray=ER.toArray) (hv:oF ys ER) (hz:ys.length<=sizeLine) :
  Inv X pins U (upd H l (.lst ys)) {s with heap:=s.heap.update l (abE f),toks:=t'}:=by
 have q:=PySem.IsL.update e f;rw[hf]at q;refine I.write (by rw[hH];exact trivial) (.inl rfl) (λb' u hb hu=>(ac8 s.heap _ (abz hb)).trans hu) #[_,q] ?_;exact#[hz,ER,_,hv,q]
def Inv.Qs(I:Inv X pins U H s)(hv:oF ys eQ)(hz:ys.length<=sizeLine):
  Inv X pins U (upd H s.heap.objs.size (.lst ys)) {s with heap:=s.heap.push {cls:=.type "list",data:=.seq eQ.toArray},toks:=t'} :=
 I.laid (λ_ _ q=>aac _ q) (aai _) #[hz,eQ,0,hv,aaf _ rfl]
def Inv.fresh(I:Inv X pins U H s):H s.heap.objs.size=none:=I.Bc.fresh (aai _)
def Inv.IT(I:Inv X pins U H s)(hH:H l=some (.lst xs)):xs.length<=sizeLine/\∃(eQ:Aad) (n:Nat),oF xs eQ/\xs.length=eQ.length/\s.heap.get? l=some {cls:=.type "list",data:=.seq eQ.toArray n}:=by obtain⟨z,eQ,n,r,e⟩:=I.Bc l _ hH;exact#[z,eQ,n,r,r.length,e]
theorem uB(h:n<=sizeLine):Builtin.List.listTooLong n=false:=by exact decide_eq_false #[]
def oZ:V->List V->Hp->VK->Prop:=λx vs H Q=>∃l xs y,x=.ref l/\vs=[y]/\H l=some (.lst xs)/\xs.length<sizeLine/\Q .AZ (upd H l (.lst (xs++[y])))
theorem dF:Vl X "list.append" oZ:=by intro pins s U H x vs v us Q I rx rv h;obtain⟨l,xs,y,rfl,rfl,hH,hz,q⟩:=h;cases rx;obtain⟨u,rfl,ru⟩:=rv.one;obtain⟨z,eQ,n,r,hl,e⟩:=I.IT hH;refine adN F.slot_list_append #[_,e,rfl] F.entry_list_append (F.args_list_append_2 _ _) (PySem.list_append l eQ.toArray n u #[1]) #[e,?_];refine#[.AZ,_,I.Nf hH e #[0] (r.append (.cons ru .nil)) ?_,rfl,q];rw[aan,adf];omega
def PY:V->List V->Hp->VK->Prop:=λx vs H Q=>∃l xs y,x=.ref l/\vs=[]/\H l=some (.lst xs)/\xs[xs.length - 1]?=some y/\Q y (upd H l (.lst xs.dropLast))
theorem yN:Vl X "list.pop" PY:=by
 intro pins s U H x vs v us Q I rx rv h;obtain⟨l,xs,y,rfl,rfl,hH,hy,q⟩:=h;cases rx;have Yf:=rv.zero;subst Yf;obtain⟨z,eQ,n,r,hl,e⟩:=I.IT hH;obtain⟨u,hu,ru⟩:=r.get hy;have Yb:eQ.toArray[eQ.toArray.size - 1]?=some u:=by simp_all
 refine adN F.slot_list_pop #[_,e,rfl] F.entry_list_pop (F.args_list_pop_1 _) (MeetsSeq.list_pop_last l eQ.toArray n u Yb #[1]) #[e,?_];refine#[y,_,I.Nf hH e ?_ r.dropLast ?_,ru,q]
 .rw[aak,ae0,qC]
 .rw[List.length_dropLast];omega
def JM:V->List V->Hp->VK->Prop:=λx vs H Q=>∃l xs i k y,x=.ref l/\vs=[.int i]/\H l=some (.lst xs) /\ -(2 ^ 63)<=i/\i<2 ^ 63/\afq i xs.length=some k/\xs[k]?=some y/\Q y (upd H l (.lst (xs.eraseIdx k)))
theorem ni:Vl X "list.pop" JM:=by
 intro pins s U H x vs v us Q I rx rv h;obtain⟨l,xs,i,k,y,rfl,rfl,hH,h1,h2,hk,hy,q⟩:=h;cases rx;obtain⟨u,rfl,ru⟩:=rv.one;obtain⟨t,rfl⟩:=ru;obtain⟨z,eQ,n,r,hl,e⟩:=I.IT hH;obtain⟨w,hw,DG⟩:=r.get hy;refine adN F.slot_list_pop #[_,e,rfl] F.entry_list_pop (F.args_list_pop_2 _ _)
  (MeetsSeq.list_pop_at l eQ.toArray n i t k w (fitsIndex_both h1 h2) #[1] #[1] #[1]) #[e,?_]
 refine#[y,_,I.Nf hH e ?_ (r.eraseIdx k) ?_,DG,q]
 .rw[ae0]
 .have:=lH xs k;omega
def Qe:R2:=λx y H Q=>∃l b xs zs,x=.ref l/\y=.ref b/\H l=some (.lst xs)/\H b=some (.lst zs)/\xs.length+zs.length<=sizeLine/\∀p,H p=none->Q (.ref p) (upd H p (.lst (xs++zs)))
def yI:BX X (acg .Add) Qe:=by
 intro pins s U H x y v u Q I rx ry h;obtain⟨l,b,xs,zs,rfl,rfl,hH,hB,hz,q⟩:=h;cases rx;cases ry;obtain⟨z,eQ,n,r,hl,e⟩:=I.IT hH;obtain⟨z2,BO,n2,r2,Gf,e2⟩:=I.IT hB;refine PySem.P.add_list e e2 ?_ #[1];have ea:eQ.toArray++BO.toArray=(eQ++BO).toArray:=by simp
 rw[ea];exact#[.ref _,_,I.Qs (r.append r2) #[1],rfl,q _ I.fresh]
def PX:R2:=λx y H Q=>∃l k xs,x=.ref l/\y=.int k/\H l=some (.lst xs) /\ -(2 ^ 63)<=k/\k<2 ^ 63/\xs.length*k.toNat<=sizeLine /\
 ∀p,H p=none->Q (.ref p) (upd H p (.lst (aaR k.toNat xs).flatten))
def wY(xs:List O)(k:Nat):(aaR k xs).flatten.length=k*xs.length:=by simp_all
theorem yD:BX X (acg .Mult) PX:=by
 intro pins s U H x y v u Q I rx ry h;obtain⟨l,k,xs,rfl,rfl,hH,h1,h2,hz,q⟩:=h;cases rx;obtain⟨t,rfl⟩:=ry;obtain⟨z,eQ,n,r,hl,e⟩:=I.IT hH;have hlen:eQ.toArray.size*k.toNat<=sizeLine:=by simp_all
 have Bq:¬ eQ.toArray.size*k.toNat > (2 ^ 63 - 1) / 8:=by
  have:sizeLine<=(2 ^ 63 - 1) / 8:=by decide
  omega
 have Uz:¬ (!Builtin.List.listFitsIndex k)=true:=by rw[fitsIndex_both h1 h2];exact aaN
 have QY:¬ Builtin.List.listTooLong (eQ.toArray.size*k.toNat)=true:=by rw[uB hlen];exact aaN
 have Du:List.foldl (λx1 x2=>x1++x2) #v[] (aaR (if eQ.toArray.isEmpty=true then 0 else k.toNat) eQ.toArray)=(aaR k.toNat eQ).flatten.toArray:=by
  have f0  := λm=>by have:=lM eQ m [];rw[aaL]at this;exact this
  rw[f0];cases eQ with
  |nil=>simp
  |cons a r'=>rw[if_neg #[0]]
 refine wpAny_binaryOp_repeat_ref (rfl) #[_,e,rfl] (λs'=>typeIs_int s' k t) noFill_list_mul F.fills_int_mul F.slot_int_rmul repeat_list F.slot_int_index.lookup
  (adN F.slot_int_rmul (typeIs_int s k t) F.entry_int_rmul (F.args_int_rmul_2 _ _) (int___rmul___int_list k t l eQ.toArray n)
   #[e,rfl,#[_,e,rfl],adN F.slot_list_mul #[_,e,rfl] F.entry_list_mul (F.args_list_mul_2 _ _) (AutoListH.list___mul___list_int_3 l eQ.toArray n k t Uz Bq QY) #[e,?_]])
 rw[Du];exact#[.ref _,_,I.Qs (r.rep k.toNat) (by rw[wY,Nat.mul_comm];exact hz),rfl,q _ I.fresh]
variable{prog:aaC}{w:World}{A:Around}{E:Aaa}
end L2
namespace Att
open PySem PySem.W PySem.Calls PyProof.Rows
def jC{P:Params}{h:Heap}:∀(ns:Aar) (vs:Aad),WellAll P h vs (ns.map WData.int)->IntsAre vs ns:=by
 intro ns;induction ns with
 |nil=>intro vs w;cases w;exact .nil
 |cons n ns ih=>
  intro vs w;cases w with
  |cons a b=>cases a;exact .cons _ _ (ih _ b)
theorem rj{l:OpenLaw}{n:Nat}(hn:l.most=some n){P:Params}{h:Heap}{args:List WData}{vals:Aad}
  (Ld:l.row.toRowW.claim.pre args=true) (TQ:WellAll P h vals args) :
  ∃a vs ns,vals=[aba a]/\args=[WData.list (ns.map WData.int)]/\h.get? a=some {cls:=.type "list",data:=.seq vs.toArray}/\IntsAre vs ns/\ns.length<=n:=by
 have Yk:WShape.hasAll [] args [.list .int]=true:=(pre_splitW Ld).1;have hc:l.pre.holds [] {args:=args}=true:=(pre_splitW Ld).2;obtain⟨d,r,rfl,h1,h2⟩:=hasAllW_cons Yk;obtain rfl:=hasAllW_nil h2;obtain⟨xs,rfl,h3⟩:=hasW_list h1;obtain⟨ns,rfl⟩:=items_int h3;have hlen:ns.length<=n:=by
  unfold OpenLaw.pre at hc;have h4:(WTm.not (.lt (.lit (.int (n:Int))) (.len (.arg 0)))).holds [] {args:=[.list (ns.map .int)]}=true:=by have h4:=(holds_andW hc).1;rw[hn]at h4;exact h4
  have h5:=condW_of h4 (w_not (w_lt w_lit (w_len_list (w_arg rfl))));rw[aad]at h5;refine Nat.le_of_not_lt λq=>?_;have q':(n:Int)<((ns.length:Nat):Int):=by omega
  first
   |(rw[decide_eq_true q']at h5;exact absurd h5 #[2])
   |(simp at h5;omega)
 cases TQ with
 |cons w1 w2=>
  cases w2;cases w1 with
  |list ho CH=>exact#[_,_,ns,rfl,rfl,ho,jC ns _ CH,hlen]
def rE(l:OpenLaw)(args:List WData):l.row.toRowW.claim.post args (.bool true) args=true :=
 postW_of
  (show WShape.has [] (.bool true) .bool=true by first|rfl|decide|simp[WShape.has,WShape.arms,WShape.armsAll])
  (show (WTm.eq .res (.lit (.bool true))).value [] {args:=args,res:=some (.bool true),after:=args}=some (.bool (true==true))from w_eq_bool (w_res rfl) w_lit) rfl
def Hq{l:OpenLaw}{n:Nat}{q:aaC}{loose:A3}{XP:(Str->Option Value)->Heap->Prop}{YP:World->Heap->Prop}{d:DefRec}
  (hn:l.most=some n) (Q4:d.params.defaults=[])
  (call:∀(w:World) (s0 sc:Shared) (mg mb:Aaf) (fa:Addr) (o:Obj) (pm cd doc:Value) (a:Addr) (vs:Aad) (ns:Aar),
   Ground q loose [] XP w s0 mg mb sc.heap->YP w sc.heap ->
   sc.heap.get? fa=some o->o.data=.func (docDef d.name d.params d.body d.scope pm cd doc)->sc.heap.CodeRec cd d.name->mg d.name=some (.ref fa) ->
   sc.heap.get? a=some {cls:=.type "list",data:=.seq vs.toArray}->IntsAre vs ns->ns.length<=n->sc.gens=#v[] ->
   acK (model l.prog w) afu (.call (.ref fa) #[[.ref a],[]]) (λr s'=>r=.ok (.ret (.bool true))/\OldK sc.heap s'.heap/\s'.os=sc.os/\aeB s'.gens) sc) :
  WalkO q loose XP YP l.row.toRowW d [] (λf vs=>PySem.call f vs):=by
 intro w s0 sc mg mb G Y fa o pm cd doc dV kV ho hd HU hD hmg hg args vals as Ld Yx hrd TQ hlo;obtain rfl:dV=.none:=Dflts.none hD Q4;obtain rfl:kV=.none:=Dflts.noKw hD;obtain⟨a,vs,ns,rfl,rfl,Nu,hints,hlen⟩:=rj hn Ld TQ;refine enter_call (acQ (call w s0 sc mg mb fa o pm cd doc a vs ns G Y ho (fd_plain hd) HU hmg Nu hints hlen hg) λr s' hq=>?_);obtain⟨rfl,h2,h3,h4⟩:=hq;exact#[.inl #[_,_,[],rfl,λ_=>rfl,.bool true,rE l _,λ_=>#[ae1,λ_ hm=>(nomatch hm)]],h2,h3,h4]
variable{prog:aaC}{w:World}{A:Around}{E:Aaa}{s:Shared}{K:Frag}
end Att
namespace L2
open PySem PySem.Spec PyProof.Rows
def lg:∀{vs:Aad} {ns:Aar},IntsAre vs ns->oF (ns.map V.int) vs
 |_,_,.nil=>.nil
 |_,_,.cons n t h=>.cons #[t,rfl] (lg h)
def NZ(H:Hp):Prop:=∀b,H b=none\/∃o xs,H b=some (.Dg o (.lst xs))
variable{P:aaC}{w:World}{K:aag}{mg:Aaf}{CX:Mv}{k:Nat}{a:Addr}{fd:abL}{x:Str}{sp:Sp}{vs:Aad}
def uI{mb:Aaf}{fa:Addr}{sc:Shared}{ns:Aar}
  (KX:K.In sc.heap) (L9:sc.heap.Ns aaV mg) (hb:sc.heap.Ns builtinsNs mb) (Q8:∀x:Str,x ≠ "__name__" -> mb x=aca x) (Uo:sc.heap.NoLimit) (hg:sc.gens=#v[])
  (ha:sc.heap.get? a=some {cls:=.type "list",data:=.seq vs.toArray}) (hi:IntsAre vs ns) (hl:ns.length<=sizeLine) (hr:BB k afu)
  (F:∀base:Heap,K.In base->base.Ns aaV mg->Bi P w K mg base CX k fa fd [x] sp) (Q7:∀(s:Shared) (u:Value),BindsTo s fd #[[u],[]] [(x,u)])
  (L8:∀H:Hp,NZ H->Cr K H a (ns.map V.int)->sp [.ref a] H (λv _=>v=.bl true) λ_ _ _=>False)
  (UQ:∀H e s',CX [] H sc (λ_ _ _=>False) e s'->False) :
  acK (model P w) afu (.call (.ref fa) #[[.ref a],[]]) (λr s'=>r=.ok (.ret (.bool true))/\OldK sc.heap s'.heap/\s'.os=sc.os/\aeB s'.gens) sc:=by
 have rv:=lg hi;have Tu:=hi.length;have core:∀H:Hp,NZ H->Cr K H a (ns.map V.int)->DK P w H sc.heap->(∀b,H b≠none->b=a)->(H a≠none->K.lookup a=none) ->
   acK (model P w) afu (.call (.ref fa) #[[.ref a],[]]) (λr s'=>r=.ok (.ret (.bool true))/\OldK sc.heap s'.heap/\s'.os=sc.os/\aeB s'.gens) sc:=by
  intro H hO hS Bc hA hK;have IF:∀{b:Addr} {o:Obj},sc.heap.get? b=some o->H b=none->(GF sc.heap H).get? b=some o:=λe n=>uN e n;have Ql:∀{b:Addr} {o:Obj} {es:Array DictEntry} {ep:Nat},sc.heap.get? b=some o->o.data=.dict es ep->H b=none:=λ{b o es ep} e d=>by
   cases q:H b with
   |none=>rfl
   |some u=>have e':b=a:=hA b (by rw[q];simp);subst e';rw[ha]at e;cases e;have d':Data.seq vs.toArray _=Data.dict es ep:=d;cases d'
  have R4:∀{b:Addr} {m:Aaf},sc.heap.Ns b m->(GF sc.heap H).Ns b m:=λ{b m} #[o,es,ep,e,d,r]=>#[o,es,ep,IF e (Ql e d),d,r]
  have WV:K.In (GF sc.heap H):=λb o e=>IF (KX b o e) (by
   cases q:H b with
   |none=>rfl
   |some u=>have e':b=a:=hA b (by rw[q];simp);subst e';rw[hK (by rw[q];simp)]at e;cases e)
  have hM:Mod K mg (GF sc.heap H):=#[WV,R4 L9,#[mb,R4 hb,Q8],let #[mc,h1,h2]:=Uo;#[mc,R4 h1,h2]]
  have e0:Lx P w K mg (GF sc.heap H) afu [] sc H:=#[rfl,hM,λb o e=>wS e,Nat.le_of_eq (sJ _ _),trivial,λb hb=>absurd (show b∈([]:Aaj)from hb) #[0],Bc,.of_eq hg]
  refine acQ ((F _ WV (R4 L9)).run afu [] sc H #[[.ref a],[]] [.ref a] [.ref a] _ _ hr e0 (Q7 sc (.ref a)) (.cons rfl .nil) (L8 H hO hS)) λr s' h=>?_;cases r with
  |error e=>exact(UQ H e s' h).elim
  |ok fl=>
   cases fl with
   |next=>exact acU h
   |brk=>exact acU h
   |cont=>exact acU h
   |ret u=>
    obtain⟨v,H',os,bare,un,Ue,r',q⟩:=h;have q':v=.bl true:=q;subst q';obtain rfl:u=Value.bool true:=r';refine#[rfl,OldK.of_keep λb o e=>?_,os,bare];cases q:H b with
    |none=>exact un.keep b o e q (by intro z;exact absurd (show b∈([]:Aaj)from z) #[0]) #[0]
    |some u=>
     rcases hO b with z|⟨ob,xs,z⟩
     .rw[q]at z;cases z
     .have z2:=un.GG b ob _ z;obtain⟨e1,_⟩:=Bc b _ z;obtain⟨e2,_⟩:=Ue b _ z2;rw[e]at e1;cases e1;exact e2
 cases hk:K.lookup a with
 |some o=>have e:=KX a o hk;rw[ha]at e;cases e;refine core (λ_=>none) (λ_=>.inl rfl) (.inr #[_,vs.toArray,_,hk,rfl,rfl,rfl,by rw[aak,Tu];exact hl,by simpa using rv]) (λb u z=>by have z':(none:Option HO)=some u:=z;cases z') (λb z=>absurd rfl z) λz=>absurd rfl z
 |none=>
  refine core (λb=>if b=a then some (.Dg {cls:=.type "list",data:=.seq vs.toArray} (.lst (ns.map V.int)))else none) (λb=>?_) (.inl (.inr #[{cls:=.type "list",data:=.seq vs.toArray},if_pos rfl])) (λb u z=>?_) (λb z=>?_) λ_=>hk
  .by_cases hb:b=a
   .exact .inr #[_,_,if_pos hb]
   .exact .inl (if_neg hb)
  .by_cases hb:b=a
   .have z':=(if_pos hb).symm.trans z;cases z';subst hb;exact#[ha,by rw[aad];exact hl,vs,_,rv,ha]
   .have z':=(if_neg hb).symm.trans z;cases z'
  .by_cases hb:b=a
   .exact hb
   .exact absurd (if_neg hb) z
variable{n:Nat}
def oJ{l:afy}{q:aaC}{loose:A3}{XP:(Str->Option Value)->Heap->Prop}{YP:World->Heap->Prop}{d:DefRec}{K:Params->aag}{CX:World->Mv}{sp:World->Sp}
  (hn:l.most=some n) (QT:n<=sizeLine) (Q4:d.params.defaults=[]) (hr:BB k afu)
  (hY:∀(w:World) (h:Heap),YP w h->(K w.params).In h)
  (F:∀(w:World) (mg:Aaf) (fa:Addr) (h:Heap),(K w.params).In h->h.Ns aaV mg->mg d.name=some (.ref fa) ->
   ∃fd:abL,(∀(s:Shared) (u:Value),BindsTo s fd #[[u],[]] [(x,u)]) /\
    ∀base:Heap,(K w.params).In base->base.Ns aaV mg->Bi l.prog w (K w.params) mg base (CX w) k fa fd [x] (sp w))
  (L8:∀(w:World) (H:Hp) (a:Addr) (ns:Aar),ns.length<=n->NZ H->Cr (K w.params) H a (ns.map V.int)->sp w [.ref a] H (λv _=>v=.bl true) λ_ _ _=>False)
  (UQ:∀(w:World) (H:Hp) (s:Shared) (e:Value) (s':Shared),CX w [] H s (λ_ _ _=>False) e s'->False) :
  PySem.W.WalkO q loose XP YP l.row.toRowW d [] (λf vs=>PySem.call f vs):=by
 refine Att.Hq hn Q4 λw s0 sc mg mb fa o pm cd doc a vs ns G Y ho hd HU hmg Nu hints hlen hg=>?_;have KX:=hY w _ Y;obtain⟨fd,hb,hF⟩:=F w mg fa _ KX G.T.g hmg;exact uI KX G.T.g G.T.b G.T.builtins G.T.nolimit hg Nu hints (aaK hlen QT) hr hF hb (λH hO hS=>L8 w H a ns hlen hO hS) λH e s'=>UQ w H sc e s'
end L2

namespace L2
open PySem PySem.Spec PyProof.Rows
noncomputable def cV(s:Stmt):Arguments:=match s with
 |.FunctionDef _ a _ _ _ _ _ _ _ _=>a
 |_=>{posonlyargs:=[],args:=[],vararg:=none,kwonlyargs:=[],kw_defaults:=[],kwarg:=none,defaults:=[]}
noncomputable def bd(s:Stmt):List Stmt:=match s with
 |.FunctionDef _ _ b _ _ _ _ _ _ _=>b
 |_=>[]
noncomputable def am(s:Stmt):Scope:=match s with
 |.FunctionDef _ _ _ _ _ _ sc _ _ _=>sc
 |_=>{kind:=.function,names:=[],isGenerator:=false,isCoroutine:=false}
abbrev Cp:Mv:=λ_ _ _ _ _ _=>False
abbrev E0:XK:=λ_ _ _=>False
variable{X:Cx}
def FZ:Ij Cp X E0:=λ_ _ _ _ _ _ _ h=>h.elim
structure Jl(K:aag)(x qual:Str)(st:Stmt)(f:Addr)(fd:abL):Prop where
 ex:∃(oc:Value) (od:Option Addr) (kV doc pm:Value) (an:Option Addr) (Bu ct:Value) (LS:Array (Option Value)),
  fd=acS x qual (cV st) (bd st) (am st) .none kV doc pm an Bu ct/\K.lookup f=some #[oc,od,.func fd,LS]/\aer K Bu qual=true
 kp:abJ K (.ref f)=true
variable{P:aaC}{w:World}{K:aag}{mg:Aaf}{base:Heap}
variable{x qual:Str}{st:Stmt}{f:Addr}{fd:abL}{N ps:A3}{k:Nat}{sp:Sp}
def Jl.ok(F:Jl K x qual st f fd)(S:au N ps (am st))(len:∀vs H Q E,sp vs H Q E->vs.length=ps.length)
  (J3:∀(Bu:Value) (A:Around) (outer:List Env) (s:Shared) (H:Hp) (vs:Aag) (Q:VK) (E:XK),BB k (A.deeper (envOfC qual (am st) s.heap.objs.size f Bu))->sp vs H Q E ->
   ∃t,IK (Ft Cp P w K mg base N qual (am st) f Bu A outer s H E).KN (bd st) t/\t {nx:=λ_ H'=>Q .AZ H',rt:=Q} (start N vs) H):Bi P w K mg base Cp (k+1) f fd ps sp:=by
 obtain⟨oc,od,kV,doc,pm,an,Bu,ct,LS,rfl,lk,HU⟩:=F.ex;refine AI lk HU S len λA outer s H vs Q E hr L8=>?_;obtain⟨t,h,q⟩:=J3 Bu A outer s H vs Q E hr L8;exact#[t,h.KN,q]
def Jl.binds(F:Jl K x qual st f fd)
  (h:∀(kV doc pm:Value) (an:Option Addr) (Bu ct:Value) (us:Aad),us.length=ps.length->adm (acS x qual (cV st) (bd st) (am st) .none kV doc pm an Bu ct) #[us,[]]=pure (ps.zip us)):Binds K fd ps []:=by
 obtain⟨oc,od,kV,doc,pm,an,Bu,ct,LS,rfl,lk,HU⟩:=F.ex;exact .all (h kV doc pm an Bu ct)
def sP{oc:Value}{od an:Option Addr}{LS:Array (Option Value)}{kV doc pm Bu ct:Value}(l:K.lookup f=some #[oc,od,.func (acS x qual (cV st) (bd st) (am st) .none kV doc pm an Bu ct),LS])
  (c:aer K Bu qual=true) (k:abJ K (.ref f)=true):Jl K x qual st f (acS x qual (cV st) (bd st) (am st) .none kV doc pm an Bu ct):=#[#[oc,od,kV,doc,pm,an,Bu,ct,LS,rfl,l,c],k]
variable{pos:Pos}
def pv(i:Nat)(hN:autoParam (X.N[i]?=some x) At)(hv:autoParam (OH X.env.scope x) BT)(hd:autoParam #[12] on)
  (HU:autoParam ((x==("__classdict__" : Str))=false) on):PE X (.Name x pos) (Bw i):=yq hN hv hd HU
variable{A B:Prop}
def ES(h:B):if false=true then A else B:=by rw[if_neg aaN];exact h
def Fj(h:A):if true=true then A else B:=by rw[if_pos rfl];exact h
def Qy{c:Prop}[Decidable c](h1:c->A)(h2:¬ c->B):if c then A else B:=by simp_all
def dO(H H':Hp):Prop:=∀b o,H b=some o->H' b=some o
def dO.refl(H:Hp):dO H H:=λ_ _ h=>h
variable{H H':Hp}{l:Addr}
def dO.free(e:dO H H')(h:H' l=Option.none):H l=Option.none:=by
 cases q:H l with
 |none=>rfl
 |some o=>rw[e l o q]at h;cases h
section
variable{d:Type}[DecidableEq d]
noncomputable def CO(gE:List (d×V))(k:d):Aau:=(gE.find? λkv=>decide (kv.1=k)).map (·.2)
noncomputable def putK(gE:List (d×V))(k:d)(v:V):List (d×V) :=
 if (gE.any λkv=>decide (kv.1=k))=true then gE.map (λkv=>if kv.1=k then (kv.1,v)else kv)else gE++[(k,v)]
def cX{p:d×V}{r:List (d×V)}{k:d}(e:p.1=k):CO (p::r) k=some p.2:=by simp[CO,abX,e]
def fo{p:d×V}{r:List (d×V)}{k:d}(e:¬ p.1=k):CO (p::r) k=CO r k:=by simp[CO,abX,e]
def mM(k:d):∀gE:List (d×V),(gE.any λkv=>decide (kv.1=k))=(CO gE k).isSome
 |[]=>rfl
 |p::r=>by
  rw[List.any_cons];by_cases e:p.1=k
  .simp only[cX e,decide_eq_true e,Bool.true_or,Option.isSome_some]
  .rw[fo e,decide_eq_false e,Bool.false_or];exact mM k r
theorem ci(gE:List (d×V))(k:d)(v:V):(putK gE k v).length<=gE.length+1:=by
 unfold putK;split
 .rw[aad];omega
 .rw[aan,aay,abl];omega
def Fw.CZ{o:Aau}{u:Option Value}(r:Fw o u):o.isSome=u.isSome:=by
 cases o with
 |none=>cases u with
  |none=>rfl
  |some _=>exact(show False from r).elim
 |some _=>cases u with
  |none=>exact(show False from r).elim
  |some _=>rfl
def KV.val{gE:List (d×V)}{vs:List (d×Value)}(r:KV gE vs)(k:d):Fw (CO gE k) (afm vs k):=by
 unfold KV at r;induction r with
 |nil=>exact acv
 |@cons p q ps qs h t ih=>
  obtain⟨h1,h2⟩:=h;by_cases e:p.1=k
  .have e':q.1=k:=h1.symm.trans e;have b:afm (q::qs) k=some q.2:=by simp[afm,abX,e']
   rw[cX e,b];exact h2
  .have e':¬ q.1=k:=λz=>e (h1.trans z);have b:afm (q::qs) k=afm qs k:=by simp[afm,abX,e']
   rw[fo e,b];exact ih
def KV.any{gE:List (d×V)}{vs:List (d×Value)}(r:KV gE vs)(k:d):(gE.any λkv=>decide (kv.1=k))=vs.any λkv=>decide (kv.1=k):=by
 unfold KV at r;induction r with
 |nil=>rfl
 |cons h t ih=>rw[List.any_cons,List.any_cons,ih,h.1]
def KV.MT{gE:List (d×V)}{vs:List (d×Value)}(r:KV gE vs)(k:d){y:V}{u:Value}(ry:RelV y u):
  KV (gE.map λkv=>if kv.1=k then (kv.1,y)else kv) (vs.map λkv=>if kv.1=k then (kv.1,u)else kv):=by
 unfold KV at r ⊢;induction r with
 |nil=>exact .nil
 |@cons p q ps qs h t ih=>
  rw[aaw,aaw];refine .cons ?_ ih;obtain⟨h1,h2⟩:=h;by_cases e:p.1=k
  .rw[if_pos e,if_pos (h1.symm.trans e)];exact#[h1,ry]
  .rw[if_neg e,if_neg (λz=>e (h1.trans z))];exact#[h1,h2]
def KV.put{gE:List (d×V)}{vs:List (d×Value)}(r:KV gE vs)(k:d){y:V}{u:Value}(ry:RelV y u):KV (putK gE k y) (stored vs k u):=by
 unfold putK stored;rw[r.any k];by_cases e:(vs.any λkv=>decide (kv.1=k))=true
 .rw[if_pos e,if_pos e];exact r.MT k ry
 .rw[if_neg e,if_neg e];exact Paired.snoc r #[rfl,ry]
def KV.keys{gE:List (d×V)}{vs:List (d×Value)}(r:KV gE vs):gE.map (·.1)=vs.map (·.1):=by
 unfold KV at r;induction r with
 |nil=>rfl
 |cons h t ih=>rw[aaw,aaw,ih,h.1]
def KV.length{gE:List (d×V)}{vs:List (d×Value)}(r:KV gE vs):gE.length=vs.length:=aeJ r
end
variable{u:Value}
def fM{k:Key}(r:RelV (kV k) u):(ay P w).is k u=true:=by
 cases k with
 |inl i=>obtain⟨t,e⟩:=(show ∃t,u=Value.int i t from r);subst e;exact ou P w i t
 |inr x=>obtain⟨t,e⟩:=(show ∃t,u=aee x t from r);subst e;exact dW P w x t
def lJ:∀{ks:Aas} {us:Aad},oF (ks.map kV) us->ItemsAre (ay P w) ks us
 |[],_,r=>by rw[aej]at r;cases r;exact .nil
 |k::ks,_,r=>by
  rw[aaw]at r;cases r with
  |cons h t=>exact .cons (fM h) (lJ t)
abbrev KT(H:Hp):List (Aas×V)->List (Aas×Addr×Value)->Prop:=Paired λp q=>p.1=q.1/\H q.2.1=some (.tup (p.1.map kV))/\RelV p.2 q.2.2
variable{gE:List (Aas×V)}{xs:List (Aas×Addr×Value)}
def KT.val(r:KT H gE xs)(k:Aas):Fw (CO gE k) ((atKey xs k).map (·.2)):=by
 induction r with
 |nil=>exact acv
 |@cons p q ps qs h t ih=>
  obtain⟨h1,_,h2⟩:=h;by_cases e:p.1=k
  .have e':q.1=k:=h1.symm.trans e;have b:atKey (q::qs) k=some q.2:=by simp[atKey,abX,e']
   rw[cX e,b];exact h2
  .have e':¬ q.1=k:=λz=>e (h1.trans z);have b:atKey (q::qs) k=atKey qs k:=by simp[atKey,abX,e']
   rw[fo e,b];exact ih
variable{y:V}
def KT.MT(r:KT H gE xs)(k:Aas)(ry:RelV y u):
  KT H (gE.map λkv=>if kv.1=k then (kv.1,y)else kv) (xs.map (putAt k u)):=by
 induction r with
 |nil=>exact .nil
 |@cons p q ps qs h t ih=>
  rw[aaw,aaw];refine .cons ?_ ih;obtain⟨h1,h2,h3⟩:=h;unfold putAt;by_cases e:p.1=k
  .rw[if_pos e,if_pos (h1.symm.trans e)];exact#[h1,h2,ry]
  .rw[if_neg e,if_neg (λz=>e (h1.trans z))];exact#[h1,h2,h3]
variable{b:Addr}
def KT.put(r:KT H gE xs)(k:Aas)(hb:H b=some (.tup (k.map kV)))(ry:RelV y u):
  KT H (putK gE k y) (storedH xs k b u):=by
 have e:(gE.any λkv=>decide (kv.1=k))=(atKey xs k).isSome:=by rw[mM,(r.val k).CZ,aeX]
 unfold putK storedH;rw[e];by_cases q:(atKey xs k).isSome=true
 .rw[if_pos q,if_pos q];exact r.MT k ry
 .rw[if_neg q,if_neg q];exact Paired.snoc r #[rfl,hb,ry]
def KT.keeps(r:KT H gE xs)(ht:∀b ys,H b=some (.tup ys)->H' b=some (.tup ys)):KT H' gE xs :=
 Paired.Nb r λ_ _ z=>#[z.1,ht _ _ z.2.1,z.2.2]
variable{h:Heap}{a:Addr}
def vz{u:HO}(ok:DK P w H h)(e:Rd H a u):Bm P w H h a u:=e.ok ok
def fN{gE:List (Key×V)}(ok:DK P w H h)(e:Rd H a (.dK gE)):gE.length<=sizeLine/\(a==acG)=false/\∃vs,KV gE vs/\h.DictOf (ay P w) a vs :=
 show Bm P w H h a (.dK gE)from vz ok e
def mJ{gE:List (Key×V)}(ok:DK P w H h)(e:H a=some (.dK gE)):gE.length<=sizeLine/\(a==acG)=false/\∃vs,KV gE vs/\h.DictOf (ay P w) a vs:=fN ok (.inl e)
def gG{ks:Aas}(ok:DK P w H h)(e:H a=some (.tup (ks.map kV))):(afo (ay P w)).is h ks a:=by
 obtain⟨_,eQ,r,⟨o,h1,h2,n,h3⟩,_⟩:=(show Bm P w H h a (.tup (ks.map kV))from ok a _ e)
 exact#[o,eQ.toArray,n,h1,h2,h3,by simpa using lJ r]
def hV(ok:DK P w H h)(e:Rd H a (.dT gE)):gE.length<=sizeLine/\(a==acG)=false /\
  ∃xs,KT H gE xs/\h.DictOfH (afo (ay P w)) a xs:=by
 obtain⟨z,y,xs,r,o,es,ep,h1,h2,h3,h4,h5⟩:=(show Bm P w H h a (.dT gE)from vz ok e)
 refine#[z,y,xs,r,o,es,ep,h1,h2,h3,h4,λx hx=>?_,h5];have all:∀{l:List (Aas×V)} {m:List (Aas×Addr×Value)},KT H l m->∀x∈m,(afo (ay P w)).is h x.1 x.2.1:=by
  intro l m q;induction q with
  |nil=>intro x hx;exact nomatch hx
  |@cons p q ps qs hq t ih=>
   intro x hx;rcases List.mem_cons.mp hx with e|hx
   .subst e;exact gG ok (by rw[<- hq.1];exact hq.2.1)
   .exact ih x hx
 exact all r x hx
def AR(ok:DK P w H h)(e:H a=some (.dT gE)):gE.length<=sizeLine/\(a==acG)=false /\
  ∃xs,KT H gE xs/\h.DictOfH (afo (ay P w)) a xs:=hV ok (.inl e)
def GY(H:Hp)(a:Addr)(y:V)(r:Aau):Prop :=
 (∃gE k,Rd H a (.dK gE)/\y=kV k/\r=CO gE k)\/∃gE k b,Rd H a (.dT gE)/\y=.ref b/\H b=some (.tup (k.map kV))/\r=CO gE k
def Lz(H:Hp)(a:Addr)(y v:V)(H':Hp):Prop :=
 (∃gE k,H a=some (.dK gE)/\y=kV k/\gE.length<sizeLine/\H'=upd H a (.dK (putK gE k v))) \/
 ∃gE k b,H a=some (.dT gE)/\y=.ref b/\H b=some (.tup (k.map kV))/\gE.length<sizeLine/\H'=upd H a (.dT (putK gE k v))
def R6{gE:List (Key×V)}{k:Key}(e:H a=some (.dK gE)):GY H a (kV k) (CO gE k):=.inl #[gE,k,.inl e,rfl,rfl]
variable{v:V}
def X0{gE:List (Key×V)}{k:Key}(e:H a=some (.dK gE))(hl:gE.length<sizeLine):Lz H a (kV k) v (upd H a (.dK (putK gE k v))):=.inl #[gE,k,e,rfl,hl,rfl]
variable{pins:Aac}{U:St}{s:Shared}{r:Value}{o:Aau}{A:Around}{E:Aaa}
def Inv.RA(I:Inv X pins U H s):acG<s.heap.objs.size:=by have h:aaV<s.heap.objs.size:=(I.mod.glob.keeps I.bk).lt;exact Nat.lt_trans #[2] h
variable{Q:Aaa}
def lU(hu:A.units+1<cLine)(I:Inv X pins U H s)(g:GY H a y (some v))(ry:RelV y u)(h:∀w' s',Inv X pins U H s'->RelV v w'->Q w' s'):
  wpAny #[6] A (adH (.ref a) u) Q E s:=by
 rcases g with ⟨gE,k,e,ey,l⟩|⟨gE,k,b,e,ey,eb,l⟩
 .subst ey;obtain⟨z,hd,vs,rel,dd⟩:=fN I.Bc e;obtain⟨w',hw,DG⟩:=Fw.some_of (v:=v) (o:=afm vs k) (by rw[l];exact rel.val k);exact wpAny_getItem_of (fM ry) dd.mapOf hw (h w' _ (I.tok _) DG)
 .subst ey;cases (show u=aba b from ry);obtain⟨z,hd,xs,rel,dd⟩:=hV I.Bc e;obtain⟨w',hw,DG⟩:=Fw.some_of (v:=v) (o:=(atKey xs k).map (·.2)) (by rw[l];exact rel.val k);obtain⟨p,hp,Uc⟩:=Option.map_eq_some_iff.mp hw;refine wpAny_getItem_heap (adB hu) (gG I.Bc eb) dd hp ?_;rw[Uc];exact h w' _ (I.tok _) DG
def AX(hu:A.units+1<cLine)(I:Inv X pins U H s)(g:GY H a y o)(ry:RelV y u)(h:∀s',Inv X pins U H s'->Q (.bool o.isSome) s'):
  wpAny #[6] A (aa1 .In u (.ref a)) Q E s:=by
 rcases g with ⟨gE,k,e,ey,l⟩|⟨gE,k,b,e,ey,eb,l⟩
 .subst ey;obtain⟨z,hd,vs,rel,dd⟩:=fN I.Bc e;refine wpAny_in_of (fM ry) hd dd.mapOf ?_;rw[<- (rel.val k).CZ,<- l];exact h _ (I.tok _)
 .subst ey;cases (show u=aba b from ry);obtain⟨z,hd,xs,rel,dd⟩:=hV I.Bc e;refine wpAny_in_heap (adB hu) (gG I.Bc eb) hd dd ?_;have q:=(rel.val k).CZ;rw[aeX]at q;rw[<- q,<- l];exact h _ (I.tok _)
def xS(hu:A.units+1<cLine)(I:Inv X pins U H s)(g:GY H a y o)(ry:RelV y u)(h:∀s',Inv X pins U H s'->Q (.bool (!o.isSome)) s'):
  wpAny #[6] A (aa1 .NotIn u (.ref a)) Q E s:=by
 rcases g with ⟨gE,k,e,ey,l⟩|⟨gE,k,b,e,ey,eb,l⟩
 .subst ey;obtain⟨z,hd,vs,rel,dd⟩:=fN I.Bc e;refine wpAny_notIn_of (fM ry) hd dd.mapOf ?_;rw[<- (rel.val k).CZ,<- l];exact h _ (I.tok _)
 .subst ey;cases (show u=aba b from ry);obtain⟨z,hd,xs,rel,dd⟩:=hV I.Bc e;refine wpAny_notIn_heap (adB hu) (gG I.Bc eb) hd dd ?_;have q:=(rel.val k).CZ;rw[aeX]at q;rw[<- q,<- l];exact h _ (I.tok _)
variable{h':Heap}{t':Nat}
def ia{ob:HO}(I:Inv X pins U H s)(mu:RI (H a))(hs:ab1 a s.heap h')(he:∃q,h'.get? a=some q)(new:Bm X.prog X.w (upd H a ob) h' a ob):
  Inv X pins U (upd H a ob) {s with heap:=h',toks:=t'} :=
 I.write (x:=a) (e:=a) mu (.inl rfl) (λb q hb z=>(hs.2 b hb).trans z) he new
variable{vs:List (Key×Value)}
def nQ{gE:List (Key×V)}(z:gE.length<=sizeLine)(hd:(a==acG)=false)(rel:KV gE vs)(dd:h'.DictOf (ay P w) a vs):
  Bm P w H' h' a (.dK gE):=#[z,hd,vs,rel,dd]
theorem tD{Q:Unit->Shared->Prop}(hu:A.units+1<cLine)(I:Inv X pins U H s)(g:Lz H a y v H')(ry:RelV y u)(rv:RelV v r)(h:∀s',Inv X pins U H' s'->Q () s'):
  wpAny #[6] A (setItem (.ref a) u r) Q E s:=by
 rcases g with ⟨gE,k,e,ey,l,eH⟩|⟨gE,k,b,e,ey,eb,l,eH⟩
 .subst ey eH;obtain⟨z,hd,vs,rel,dd⟩:=mJ I.Bc e;have hz:vs.length<=sizeLine:=by rw[<- rel.length];exact z
  have hl:(putK gE k v).length<=sizeLine:=by have:=ci gE k v;omega
  refine wpAny_setItem_pairs (hsz:=hz) (fM ry) dd λh' KC hs=>h _ ?_;have he:∃q,h'.get? a=some q:=let #[q,_,_,hq,_]:=KC;#[q,hq]
  exact ia I (by rw[e];exact acv) hs he (nQ hl hd (rel.put k rv) KC)
 .subst ey eH;cases (show u=aba b from ry);obtain⟨z,hd,xs,rel,dd⟩:=AR I.Bc e;have hz:xs.length<=sizeLine:=by rw[<- aeJ rel];exact z
  have hl:(putK gE k v).length<=sizeLine:=by have:=ci gE k v;omega
  refine wpAny_setItem_heap (hsz:=hz) (adB hu) (gG I.Bc eb) dd λh' KC hs=>h _ ?_;obtain⟨q,es,ep,hq,h2,h3,h4,_,h5⟩:=KC;refine ia I (by rw[e];exact acv) hs #[q,hq] #[hl,hd,_,(rel.put k eb rv).keeps λc ys ec=>?_,q,es,ep,hq,h2,h3,h4,h5];rw[aj (vD ec e (λz=>nomatch z))];exact ec
variable{gE:List (Key×V)}{k:Key}
theorem AU(I:Inv X pins U H s)(e:Rd H a (.dK gE))(h:∀t s',Inv X pins U H s'->Q (.int gE.length t) s'):wpAny #[6] A (call (.builtin "len") [.ref a]) Q E s:=by obtain⟨z,hd,vs,rel,dd⟩:=fN I.Bc e;refine call_len_dict hd dd (by rw[<- rel.length];rw[aaJ]at z;omega) ?_;rw[<- rel.length];exact h _ _ (I.tok _)
def Lu(i:Expr):Prop:=∀ov iv,afp i false ov iv=operate [ov,iv] (adH ov iv)
variable{prog:aaC}{env:Env}
def wa{value slice:Expr}{T id:String}
  (hl:aeS (.type T) "__getitem__" = pure (some (.builtin id))) (hs:Lu slice)
  (h:wpAny #[9] A (eval value env) (λo sc=>wpAny #[9] A (eval slice env) (λi st=>st.TypeIs o T/\wpAny #[9] A (adH o i) Q E st) E sc) E s) :
  wpAny #[9] A (eval (.Subscript value slice pos) env) Q E s:=by
 refine Subscript_ (aa5 h (λo sc h₁=>aa5 h₁ (λi st h₂=>?_) λ_ _ x=>x) λ_ _ x=>x);obtain⟨hT,h₂⟩:=h₂;unfold subscriptTail;refine aaa ?_;rw[getitemInPython_of_ne hT.not_modules];refine aaa (wpAny_specialOf hT hl ?_);have fin:wpAny #[9] A (afp slice false o i) (λr s3=>wpAny #[9] A (letTemporaryGo value o r >>= λ_=>pure r) Q E s3) E st:=by rw[hs o i];exact wpAny_operating (aa5 h₂ (λr s3 h₃=>aaa (wpAny_letTemporaryGo (aae h₃))) λ_ _ x=>x)
 first
  |exact aae (aaa fin)
  |exact aaa (aae (aaa fin))
  |exact aaa fin
def iH(I:Inv X pins U H s)(g:GY H a y o):s.TypeIs (.ref a) "dict" :=by
 rcases g with ⟨gE,k,e,_,_⟩|⟨gE,k,b,e,_,_,_⟩
 .obtain⟨_,_,vs,_,dd⟩:=fN I.Bc e;exact dd.typeIs
 .obtain⟨_,_,xs,_,dd⟩:=hV I.Bc e;exact dd.typeIs
def Pz(td ty:TE):TE:=λU H Q=>td U H λx H1=>ty U H1 λy H2=>∃a v,x=.ref a/\GY H2 a y (some v)/\Q v H2
variable{o i e value:Expr}{pos' Dj:Pos}{td ty tv:TE}
def wz(hu:X.A.units+1<cLine)(ho:PE X o td)(hi:PE X i ty)(hs:Lu i):PE X (.Subscript o i pos) (Pz td ty):=by intro pins s U H Q I h;refine wa PySem.F.slot_dict_getitem.lookup hs (Bt (ho pins s U H _ I h) λu s1 #[x,H1,I1,rx,q1]=>Bt (hi pins s1 U H1 _ I1 q1) λiv s2 #[y,H2,I2,ry,a,v,ex,g,q2]=>?_);subst ex;obtain rfl:u=aba a:=rx;exact#[iH I2 g,lU hu I2 g ry λw' s3 I3 DG=>#[v,H2,I3,DG,q2]]
def jc(h:Heap)(hb:acG<h.objs.size):Bm P w H (h.push {cls:=.type "dict",data:=.dict #v[]}) h.objs.size (.dK []) :=
 #[abg _,beq_eq_false_iff_ne.mpr (abz (aap hb)),[],.nil,afD h]
def MG:TE:=λ_ H Q=>∀p,H p=none->Q (.ref p) (upd H p (.dK []))
def ug:PE X (.Dict [] [] pos) MG:=λpins s U H Q I h=>wpAny_Dict_empty #[.ref s.heap.objs.size,_,I.laid (a:=s.heap.objs.size) (o:=.dK []) (t':=s.toks) (λ_ _ q=>aac _ q) (aai _) (jc s.heap I.RA),rfl,h _ (I.Bc.fresh (aai _))]
def Gr:List (TE×TE)->St->Hp->(List (V×V)->Hp->Prop)->Prop
 |[],_,H,Q=>Q [] H
 |(tk,tv)::r,U,H,Q=>tk U H λx H1=>tv U H1 λy H2=>Gr r U H2 λps H3=>Q ((x,y)::ps) H3
abbrev VV:List (V×V)->List (Value×Value)->Prop:=Paired λp q=>RelV p.1 q.1/\RelV p.2 q.2
def RF(X:Cx)(pos:Pos)(keys:List (Option Expr))(values:Aai)(Im:List (TE×TE)):Prop :=
 ∀(pins:Aac) (s:Shared) (U:St) (H:Hp) (Q:List (V×V)->Hp->Prop),Inv X pins U H s->Gr Im U H Q ->
  wpAny #[6] X.A (evalPairs (pairTrees keys values X.env pos)) (λvs s'=>∃ps H',Inv X pins U H' s'/\VV ps vs/\Q ps H') X.xe s
def o4:RF X pos [] [] []:=λpins s U H Q I h=>pairTrees_nil_walk #[[],H,I,.nil,h]
def df{k v:Expr}{ks:List (Option Expr)}{vs:Aai}{tk:TE}{Im:List (TE×TE)}(hk:PE X k tk)(hv:PE X v tv)(hr:RF X pos ks vs Im):
  RF X pos (some k::ks) (v::vs) ((tk,tv)::Im):=λpins s U H Q I h=>
 pairTrees_cons_walk (Bt (hk pins s U H _ I h) λu s1 #[x,H1,I1,rx,q1]=>Bt (hv pins s1 U H1 _ I1 q1) λw2 s2 #[y,H2,I2,ry,q2]=>Bt (hr pins s2 U H2 _ I2 q2) λws s3 #[ps,H3,I3,rel,q3]=>#[(x,y)::ps,H3,I3,.cons #[rx,ry] rel,q3])
noncomputable def Dr(gE more:List (Key×V)):List (Key×V):=more.foldl (λacc kv=>putK acc kv.1 kv.2) gE
def KV.merge:∀{more:List (Key×V)} {rs:List (Key×Value)} {gE:List (Key×V)} {vs:List (Key×Value)},KV more rs->KV gE vs->KV (Dr gE more) (merged vs rs):=by
 intro more rs gE vs r;unfold KV at r;induction r generalizing gE vs with
 |nil=>intro q;exact q
 |@cons p q ps qs h t ih=>
  intro r0;have e:KV (putK gE p.1 p.2) (stored vs q.1 q.2):=by have:=r0.put p.1 h.2;rw[<- h.1];exact this
  exact ih e
theorem fZ:∀(more gE:List (Key×V)),(Dr gE more).length<=gE.length+more.length
 |[],gE=>by show gE.length<=gE.length+0;omega
 |p::r,gE=>by have h1:=fZ r (putK gE p.1 p.2);have h2:=ci gE p.1 p.2;show (Dr (putK gE p.1 p.2) r).length<=_;rw[aay];omega
def jH{P:aaC}{w:World}:∀{gE:List (Key×V)} {ws:List (Value×Value)},VV (gE.map λkv=>(kV kv.1,kv.2)) ws->∃rs,Carries (ay P w) ws rs/\KV gE rs
 |[],_,r=>by rw[aej]at r;cases r;exact#[[],acv,.nil]
 |p::gE,_,r=>by
  rw[aaw]at r;cases r with
  |@cons a b as bs h t=>obtain⟨rs,c,q⟩:=jH (P:=P) (w:=w) t;obtain⟨b1,b2⟩:=b;exact#[(p.1,b2)::rs,#[fM h.1,rfl,c],.cons #[rfl,h.2] q]
def Py(Im:List (TE×TE)):TE:=λU H Q=>∀p,H p=none->Gr Im U (upd H p (.dK [])) λps H2=>H2 p=some (.dK [])/\∃gE:List (Key×V),ps=gE.map (λkv=>(kV kv.1,kv.2))/\gE.length<=15/\Q (.ref p) (upd H2 p (.dK (Dr [] gE)))
theorem o8{keys:List (Option Expr)}{values:Aai}{Im:List (TE×TE)}(h:RF X pos keys values Im)(CH:keys.all (·.isSome)=true)(hl:keys.length=values.length)(h0:keys≠[])
  (Rj:keys.length<=15):PE X (.Dict keys values pos) (Py Im):=by
 intro pins s U H Q I q;have hn:=I.Bc.fresh (aai s.heap.objs.size);have I1:=I.laid (a:=s.heap.objs.size) (o:=.dK []) (h':=s.heap.push {cls:=.type "dict",data:=.dict #v[]}) (t':=s.toks) (λ_ _ q=>aac _ q) (aai _) (jc s.heap I.RA);refine wpAny_Dict_walk (knd:=ay X.prog X.w) CH hl h0 Rj (Bt (h pins _ U _ _ I1 (q _ hn)) λws s2 #[ps,H2,I2,rel,e,gE,ep,lk,q2]=>?_);subst ep;obtain⟨rs,c,rk⟩:=jH (P:=X.prog) (w:=X.w) rel;obtain⟨z,hd,Pd,r0,dd⟩:=mJ I2.Bc e;cases r0;refine#[rs,c,dd,λh' KC hs=>#[.ref s.heap.objs.size,_,?_,rfl,q2]];have hz:(Dr [] gE).length<=sizeLine:=by have h1:=fZ gE [];rw[abl]at h1;rw[aaJ];omega
 have he:∃q,h'.get? s.heap.objs.size=some q:=let #[q,_,_,hq,_]:=KC;#[q,hq]
 exact ia I2 (by rw[e];exact acv) hs he (nQ hz hd (rk.merge .nil) KC)
def IsD(H:Hp)(a:Addr):Prop:=(∃gE,Rd H a (.dK gE))\/∃gE,Rd H a (.dT gE)
def zc(I:Inv X pins U H s)(d:IsD H a):
  s.TypeIs (.ref a) "dict" /\ (∀b,aba a=.ref b->∃ob,s.heap.get? b=some ob/\ob.dict=none)/\(a==acG)=false:=by
 rcases d with ⟨gE,e⟩|⟨gE,e⟩
 .obtain⟨_,hd,vs,_,dd⟩:=fN I.Bc e;refine#[dd.typeIs,λb q=>?_,hd];cases q;obtain⟨ob,_,_,h1,h2,_⟩:=dd;exact#[ob,h1,h2.2.1]
 .obtain⟨_,hd,xs,_,dd⟩:=hV I.Bc e;refine#[dd.typeIs,λb q=>?_,hd];cases q;obtain⟨ob,_,_,h1,h2,_⟩:=dd;exact#[ob,h1,h2.2.1]
variable{d:V}{o:Aau}
variable{o f:Expr}{apos Bs:Pos}{tx:TE}
def tG:Bd X (.builtin "len") (λxs H Q=>∃a gE,xs=[V.ref a]/\H a=some (.dK gE)/\Q (.int gE.length) H):=by intro pins s U H xs us Q I r h;obtain⟨a,gE,rfl,ha,q⟩:=h;obtain⟨u,rfl,ru⟩:=vals1 r;cases ru;exact AU I (.inl ha) λt s' I'=>#[.int gE.length,H,I',#[t,rfl],q]
section
variable{d:Type}[DecidableEq d]
end
end L2
set_option maxHeartbeats 4000000
namespace L2
open PySem PySem.Spec PyProof.Rows
noncomputable def D9(cells:List (Str×Addr)):List (Str×adD)->List (Str×Addr)->List (Str×Addr)
 |[],acc=>acc
 |(n,k)::r,acc=>if k==.free then D9 cells r ((n,(cells.lookup n).getD 0)::acc)else D9 cells r acc
variable{env:Env}
def jG:∀(names:List (Str×adD)) (acc:List (Str×Addr)),(∀x∈names,x.2=.free->∃c,env.cells.lookup x.1=some c) ->
  (forIn names acc λ(x:Str×adD) (cs:List (Str×Addr))=>match x with
   |(name,kind)=>if (kind==abu)=true then (do let c <- cellOf env name;pure (ac4 ((name,c)::cs)))else pure (ac4 cs):Sem (List (Str×Addr)))=pure (D9 env.cells names acc)
 |[],acc,_=>rfl
 |(n,k)::r,acc,h=>by
  have hr:=λacc=>jG r acc λx hx=>h x (aaq _ hx);rw[afB];unfold D9;by_cases hk:(k==abu)=true
  .obtain⟨c,hc⟩:=h _ aaz #[1];have Fm  := hc;have e:cellOf env n=pure c:=by unfold cellOf;rw[Fm]
   rw[if_pos hk];dsimp only;rw[if_pos hk,e,pure_bind];rw[Fm];exact hr _
  .rw[if_neg hk];dsimp only;rw[if_neg hk];exact hr acc
variable{scope:Scope}
def mD(h:∀x∈scope.names,x.2=.free->∃c,env.cells.lookup x.1=some c):closureFor scope env=pure (D9 env.cells scope.names []):=by have e:=jG scope.names [] h;unfold closureFor;simp only[bind_pure];exact e
variable{x:Str}
def fP{cells:List (Str×Addr)}{c:Addr}:∀{names:List (Str×adD)} {acc:List (Str×Addr)},(∀y∈names,y.2=.free->∃c,cells.lookup y.1=some c)->(∀c,acc.lookup x=some c->cells.lookup x=some c) ->
  (D9 cells names acc).lookup x=some c->cells.lookup x=some c
 |[],acc,_,ha,e=>ha c e
 |(n,k)::r,acc,h,ha,e=>by
  have hr  := λy hy=>h y (aaq _ hy);unfold D9 at e;split at e
  .rename_i hk;refine fP hr (λc' e'=>?_) e;rw[abx]at e';split at e'
   .rename_i hx;obtain⟨c0,hc⟩:=h _ aaz #[1];have Fm  := hc;rw[Fm]at e';have:x=n:=by simp_all
    rw[this,Fm];exact e'
   .exact ha c' e'
  .exact fP hr ha e
def fQ{cells:List (Str×Addr)}:∀{names:List (Str×adD)} {acc:List (Str×Addr)},((x,abu)∈names\/∃c,acc.lookup x=some c)->∃c,(D9 cells names acc).lookup x=some c
 |[],acc,h=>by
  rcases h with h|h
  .simp at h
  .exact h
 |(n,k)::r,acc,h=>by
  unfold D9;split
  .refine fQ ?_;rcases h with h|⟨c,h⟩
   .rcases List.mem_cons.mp h with e|e
    .cases e;exact .inr #[_,by simp;rfl]
    .exact .inl e
   .refine .inr ?_;rw[abx];split
    .exact#[_,rfl]
    .exact#[c,h]
  .rename_i hk;refine fQ ?_;rcases h with h|h
   .rcases List.mem_cons.mp h with e|e
    .cases e;exact absurd rfl hk
    .exact .inl e
   .exact .inr h
noncomputable def lT(X:Cx)(scope:Scope)(N:A3)(C:Addr)(s0:Shared)(H0:Hp)(ex:Aaj)(pn:Aac):Cx :=
 {X with N:=N,s0:=s0,H0:=H0,env:=compEnvC scope (D9 X.env.cells scope.names []) C X.env,outer:=X.stack,stack:=X.stack,ex:=ex,fn:=λ_=>false,pn:=pn,xe:=λ_ _=>False}
noncomputable def BR(js:Aae)(U:St):St:=js.map λo=>o.bind λj=>(U[j]?).getD none
noncomputable def Ce(M:A3)(scope:Scope)(N:A3)(js:Aae):Bool :=
 decide (N.length=js.length) && (N.zip js).all λp=>match p.2 with
  |none=>true
  |some j=>decide (M[j]?=some p.1) && (decide (scope.names.lookup p.1=some .free) || decide (scope.names.lookup p.1=none))
noncomputable def Dm(env:Env)(scope:Scope):Bool :=
 scope.names.all λx=>match x.2 with
  |.free=>decide (env.kindOf x.1=some .cell) || decide (env.kindOf x.1=some .free)
  |.cell=>false
  |.local=>decide (scope.names.lookup x.1=some .local)
  |_=>true
def jt{scope:Scope}{k:adD}:∀{names:List (Str×adD)},(∀y∈names,y.2≠.cell)->(k=.cell\/k=.free) ->
  (names.map λ(n,k)=>if (k==abu && env.scope.kind==.function && env.kindOf n==some .cell)then (n,acZ)else (n,k)).lookup x=some k->(x,abu)∈names:=by
 intro names hn hk h;have hm:=ab4 h;obtain⟨⟨n,k0⟩,h0,e⟩:=List.mem_map.mp hm;dsimp only at e;split at e
 .rename_i hc;cases e;simp only[aaM]at hc;have  :=by simpa using hc.1.1
  subst this;exact h0
 .cases e;rcases hk with e|e
  .exact absurd e (hn _ h0)
  .subst e;exact h0
def gB{env:Env}{x:Str}:∀{names:List (Str×adD)},names.lookup x=some .free ->
  (names.map λ(n,k)=>if (k==abu && env.scope.kind==.function && env.kindOf n==some .cell)then (n,acZ)else (n,k)).lookup x=some .cell \/
  (names.map λ(n,k)=>if (k==abu && env.scope.kind==.function && env.kindOf n==some .cell)then (n,acZ)else (n,k)).lookup x=some .free
 |[],h=>by simp at h
 |(n,k)::r,h=>by
  have ih:=@gB env x r;show List.lookup x ((if (k==abu && env.scope.kind==.function && env.kindOf n==some .cell)=true then (n,acZ)else (n,k))::_)=_\/List.lookup x ((if (k==abu && env.scope.kind==.function && env.kindOf n==some .cell)=true then (n,acZ)else (n,k))::_)=_;cases hx:x==n with
  |true=>
   simp only[abx,hx]at h;cases h;by_cases hc:(abu==abu && env.scope.kind==.function && env.kindOf n==some .cell)=true
   .rw[if_pos hc];left;simp only[abx,hx]
   .rw[if_neg hc];right;simp only[abx,hx]
  |false=>
   simp only[abx,hx]at h;by_cases hc:(k==abu && env.scope.kind==.function && env.kindOf n==some .cell)=true
   .rw[if_pos hc];simp only[abx,hx];exact ih h
   .rw[if_neg hc];simp only[abx,hx];exact ih h
variable{X:Cx}{pins:Aac}{U:St}{H:Hp}{s:Shared}
structure Ls(env:Env)(scope:Scope):Prop where
 fr:∀x∈scope.names,x.2=.free->env.kindOf x.1=some .cell\/env.kindOf x.1=some .free
 nc:∀x∈scope.names,x.2≠.cell
 lc:∀x∈scope.names,x.2=.local->scope.names.lookup x.1=some .local
def wf(h:Dm env scope=true):Ls env scope:=by
 have q:=List.all_eq_true.mp h;refine#[λx hx e=>?_,λx hx e=>?_,λx hx e=>?_]
 .have:=q x hx;rw[e]at this;simp only[ael,decide_eq_true_eq]at this;exact this
 .have:=q x hx;rw[e]at this;cases this
 .have:=q x hx;rw[e]at this;simpa using this
def Ls.cells(h:Ls X.env scope)(ok:X.Ok):∀x∈scope.names,x.2=.free->∃c,X.env.cells.lookup x.1=some c:=λx hx e=>ok.has x.1 (h.fr x hx e)
structure Mu(M:A3)(scope:Scope)(N:A3)(js:Aae):Prop where
 len:N.length=js.length
 at':∀(i:Nat) (x:Str) (j:Nat),N[i]?=some x->js[i]?=some (some j)->M[j]?=some x/\(scope.names.lookup x=some .free\/scope.names.lookup x=none)
variable{N:A3}{js:Aae}
def vk{M:A3}(h:Ce M scope N js=true):Mu M scope N js:=by
 unfold Ce at h;rw[aaM]at h;refine#[of_decide_eq_true h.1,λi x j hx hj=>?_];have hm:(x,some j)∈N.zip js:=by refine aaA (i:=i) ?_;rw[aaF];exact#[hx,hj]
 have q:=List.all_eq_true.mp h.2 _ hm;simp only[aaM,ael,decide_eq_true_eq]at q;exact q
def gA{env:Env}{x:Str}:∀{names:List (Str×adD)},names.lookup x=none ->
  (names.map λ(n,k)=>if (k==abu && env.scope.kind==.function && env.kindOf n==some .cell)then (n,acZ)else (n,k)).lookup x=none
 |[],h=>rfl
 |(n,k)::r,h=>by
  have ih:=@gA env x r;show List.lookup x ((if (k==abu && env.scope.kind==.function && env.kindOf n==some .cell)=true then (n,acZ)else (n,k))::_)=_;cases hx:x==n with
  |true=>simp only[abx,hx]at h;cases h
  |false=>
   simp only[abx,hx]at h;by_cases hc:(k==abu && env.scope.kind==.function && env.kindOf n==some .cell)=true
   .rw[if_pos hc];simp only[abx,hx];exact ih h
   .rw[if_neg hc];simp only[abx,hx];exact ih h
variable{C:Addr}{fp:Aaj}
def uJ{h₁:Heap}{tk:Nat}(I:Inv X pins U H s)(C3:Ls X.env scope)(Bq:Mu X.N scope N js)(Bg:scope.kind=.function)
  (hf:∀b∈fp,DL X pins H b) (YH:∀b∈fp,b<s.heap.objs.size) (hC:C=s.heap.objs.size) (keep:∀b o,s.heap.get? b=some o->h₁.get? b=some o) (L9:h₁.Ns C λ_=>none) :
  Inv (lT X scope N C s H fp (X.pn++pins)) [] (BR js U) H {s with heap:=h₁,toks:=tk}:=by
 have Hz:=C3.cells I.ok;have OG:∀x c,(D9 X.env.cells scope.names []).lookup x=some c->X.env.cells.lookup x=some c:=λx c e=>fP Hz (λc e=>by simp at e) e;have Ol:∀b o,s.heap.get? b=some o->b≠C:=λb o e=>by rw[hC];exact aap (aah e)
 refine#[#[I.ok.mod,Bg,I.ok.glob,I.ok.blt,Nat.le_of_eq hC.symm,λx y c e1 e2=>?_,λx hx=>?_,λx c e=>?_,I.ok.hd,I.ok.frames,.inl rfl,λb hb=>#[?_,λx c e=>?_],I.bs,aaK I.ok.Mj I.sz,λb o e hb=>?_,λb hb z=>?_,I.stack,I.Ip],
  rfl,I.bare,Un.kept keep,#[_,L9,λi x v h1 h2 h3=>?_],λx c e=>?_,I.Bc.fresh (Nat.le_of_eq hC.symm),λx c e=>I.Dd x c (OG x c e),λp hp=>?_,I.Bc.kept keep,?_]
 .exact I.ok.inj x y c (OG x c e1) (OG y c e2)
 .have hm:(x,abu)∈scope.names:=by
   rcases hx with hx|hx
   .exact jt (scope:=scope) C3.nc (.inl rfl) hx
   .exact jt (scope:=scope) C3.nc (.inr rfl) hx
  exact fQ (.inl hm)
 .exact absurd e (by intro z;cases z)
 .rw[hC];exact aap (YH b hb)
 .exact(hf b hb).2.2.2.2.1 x c (OG x c e)
 .obtain⟨_,_,_,q,_⟩:=hf b hb;rcases q with q|q
  .exact I.ok.JQ b o e q
  .exact absurd (aaP (aah (I.ok.bs b o e).1) q) (abY _)
 .obtain⟨_,q1,q2,_⟩:=hf b hb;rcases List.mem_cons.mp (I.E7 b z)with e|e
  .exact q1 e
  .exact q2 e
 .unfold BR at h2;rw[aaj]at h2;cases ej:js[i]? with
  |none=>rw[ej]at h2;cases h2
  |some o=>
   cases o with
   |none=>rw[ej]at h2;cases h2
   |some j=>
    rw[ej]at h2;have Kz  :=by simpa using h2
    have hg:U[j]?=some (some v):=by
     cases es:U[j]? with
     |none=>rw[es]at Kz;cases Kz
     |some w'=>rw[es]at Kz;exact congrArg some Kz
    obtain⟨hM,Kw⟩:=Bq.at' i x j h1 ej;rcases Kw with Kw|Kw;case inr=>
     have hn:=gA (env:=X.env) Kw;rcases h3 with h3|h3|h3
     .exact absurd (hn.symm.trans h3) #[0]
     .exact absurd (hn.symm.trans h3) #[0]
     .exact absurd (hn.symm.trans h3) #[0]
    have Lh:=ab4 Kw;have WN:=C3.fr _ Lh rfl;have TX:OH X.env.scope x:=WN.elim (λz=>.inr (.inl z)) λz=>.inr (.inr z);obtain⟨m,hn,hl⟩:=I.loc;obtain⟨u,ru,lk⟩:=hl j x v hM hg TX;refine#[u,ru,?_];rcases lk with ⟨k,_⟩|⟨k,c,ec,z⟩
    .rcases WN with q|q
     .rw[q]at k;cases k
     .rw[q]at k;cases k
    .obtain⟨c',Fm⟩:=fQ (.inl Lh);have e2:=OG x c' Fm;rw[ec]at e2;cases e2;refine .inr #[gB Kw,c,Fm,?_];obtain⟨o,ho,hd⟩:=z;exact#[o,keep _ _ ho,hd]
 .obtain⟨v,o,ho,hd⟩:=I.cell x c (OG x c e);exact#[v,o,keep _ _ ho,hd]
 .have Si  :=by
   have Uc  := hp
   rwa [aa0]at Uc
  obtain⟨e,n,ne,nf,d⟩:=I.pin p Si;refine#[keep _ _ e,n,Ol _ _ e,λz=>?_,d];rcases List.mem_cons.mp (I.E7 p.1 z)with q|q
  .exact ne q
  .exact nf q
 .unfold BR;rw[aad];exact Bq.len.symm
variable{H':Hp}{s':Shared}
def uK{sa:St}(I:Inv X pins U H s)(J:Inv (lT X scope N C s H fp (X.pn++pins)) [] sa H' s')(hf:∀b∈fp,DL X pins H b):Inv X pins U H' s' :=
 I.Ry J.os J.base J.Bc J.bare λb hb=>let #[_,q1,_,q3,q4,q5]:=hf b hb;#[q3,q1,q4,q5]
def C2(js:Aae)(g:TG):Prop:=∀x U H Q,g x U H Q->g x U H λsa H'=>Q sa H'/\sa.length=U.length/\∀(k j:Nat),js[k]?=some (some j)->sa[k]?=U[k]?
def RP(js:Aae)(g:Ju):Prop:=∀x U H Q,g x U H Q->g x U H λsa H'=>Q sa H'/\sa.length=U.length/\∀(k j:Nat),js[k]?=some (some j)->sa[k]?=U[k]?
variable{i:Nat}
def kH(h:autoParam (js[i]?=some none) At):C2 js (By i):=by intro x U H Q hq;refine#[hq,#[0],λk j hk=>?_];rw[aaD];rintro rfl;rw[h]at hk;cases hk
def zg:RP js NK:=by rintro x U H Q ⟨e,hq⟩;exact#[e,hq,rfl,λ_ _ _=>rfl]
variable{t:TG}{u:Ju}
def xh(h1:C2 js t)(h2:RP js u)(mono:∀x U H Q Q',(∀a b,Q a b->Q' a b)->t x U H Q->t x U H Q')(Qq:∀x U H Q Q',(∀a b,Q a b->Q' a b)->u x U H Q->u x U H Q'):RP js (Hk t u):=by rintro x U H Q ⟨v,r,e,hq⟩;refine#[v,r,e,mono _ _ _ _ _ (λss H1 hh=>?_) (h1 v U H _ hq)];obtain⟨a,l1,k1⟩:=hh;exact Qq _ _ _ _ _ (λsl H2 #[b,l2,k2]=>#[b,l2.trans l1,λk j hk=>(k2 k j hk).trans (k1 k j hk)]) (h2 r ss H1 _ a)
variable{K:aag}{n:Nat}
def zf{t:Ju}(h:RP js t):C2 js (NI K n t):=by rintro x U H Q ⟨a,xs,e,hs,hl,hq⟩;exact#[a,xs,e,hs,hl,h xs U H Q hq]
def eU:∀x U H (Q Q':St->Hp->Prop),(∀a b,Q a b->Q' a b)->By i x U H Q->By i x U H Q':=λ_ _ _ _ _ h q=>h _ _ q
def hU(m1:∀x U H (Q Q':St->Hp->Prop),(∀a b,Q a b->Q' a b)->t x U H Q->t x U H Q')(m2:∀x U H (Q Q':St->Hp->Prop),(∀a b,Q a b->Q' a b)->u x U H Q->u x U H Q'):
  ∀x U H (Q Q':St->Hp->Prop),(∀a b,Q a b->Q' a b)->Hk t u x U H Q->Hk t u x U H Q':=λ_ _ _ _ _ h #[v,r,e,q]=>#[v,r,e,m1 _ _ _ _ _ (λ_ _=>m2 _ _ _ _ _ h) q]
def PF(X:Cx)(ifs:Aai)(t:TT):Prop :=
 ∀(pins:Aac) (s:Shared) (U:St) (H:Hp) (Q:Bool->Hp->Prop),Inv X pins U H s->t U H Q ->
  wpAny #[6] X.A (forIn ifs true λc r=>if r=true then do let ok <- isTrue c X.env (eval c X.env);pure (ac4 ok)else pure (ac4 r)) (TP X pins U Q) X.xe s
def MC:TT:=λ_ H Q=>Q true H
def rH:PF X [] MC:=λpins s U H Q I h=>wpAny_tests_nil #[H,I,h]
variable{c:Expr}
def yp{t:TT}(h:PT X c t):PF X [c] t:=λpins s U H Q I hq=>wpAny_tests_one (h pins s U H Q I hq)
def SU(wi:TI)(g:TG)(tc:TT)(te:TE)(js:Aae):TE:=λU H Q=>wi U H λJ H1=>∀l,H1 l=none ->
 ∃W:Nat->Nat->List V->Hp->Prop,(∃m,W 0 m [] (upd H1 l (.lst [])))/\∀i m ys H2,W i m ys H2 ->
  (J.stop i H2/\Q (.ref l) H2)\/(J.go i H2/\∀x H3,J.yld i H2 x H3->g x (BR js U) H3 λsb H4=>tc sb H4 λb H5=>if b=true then te sb H5 λy H6=>H6 l=some (.lst ys)/\ys.length<sizeLine/\∃m',m'<m/\W (i+1) m' (ys++[y]) (upd H6 l (.lst (ys++[y])))else ∃m',m'<m/\W (i+1) m' ys H5)
variable{γ:Type}
def Xs(wi:TI)(g:TG)(u0:HO)(z0:γ)(ev:Addr->γ->St->Hp->(γ->Hp->Prop)->Prop)(js:Aae):TE:=λU H Q=>wi U H λJ H1=>∀l,H1 l=none ->
 ∃W:Nat->Nat->γ->Hp->Prop,(∃m,W 0 m z0 (upd H1 l u0))/\∀i m ys H2,W i m ys H2 ->
  (J.stop i H2/\Q (.ref l) H2)\/(J.go i H2/\∀x H3,J.yld i H2 x H3->g x (BR js U) H3 λsb H4=>ev l ys sb H4 λzs H6=>∃m',m'<m/\W (i+1) m' zs H6)
def Ly(Y:Cx)(em:Addr->Env->Sem Unit)(ev:Addr->γ->St->Hp->(γ->Hp->Prop)->Prop):Prop :=
 ∀(pins:Aac) (s:Shared) (U:St) (H:Hp) (l:Addr) (ys:γ) (k:γ->Hp->Prop),Inv Y pins U H s->ev l ys U H k->wpAny (model Y.prog Y.w) Y.A (em l Y.env) (λ_ s'=>∃zs H',Inv Y pins U H' s'/\k zs H') Y.xe s
noncomputable def Ph(ifs:Aai)(env:Env):Sem Bool:=forIn ifs true λc r=>if r=true then do let ok <- isTrue c env (eval c env);pure (ac4 ok)else pure (ac4 r)
noncomputable def QG(ifs:Aai)(em:Addr->Env->Sem Unit)(acc:Addr)(env:Env):Sem Unit:=do
 let ok <- Ph ifs env
 if ok=true then em acc env else pure ()
def U3(tc:TT)(ev:Addr->γ->St->Hp->(γ->Hp->Prop)->Prop)(l:Addr)(ys:γ)(U:St)(H:Hp)(k:γ->Hp->Prop):Prop:=tc U H λb H5=>if b=true then ev l ys U H5 k else k ys H5
variable{tc:TT}{em:Addr->Env->Sem Unit}
def tu{Y:Cx}{ifs:Aai}{ev:Addr->γ->St->Hp->(γ->Hp->Prop)->Prop}(ht:PF Y ifs tc)(he:Ly Y em ev):Ly Y (QG ifs em) (U3 tc ev):=by
 intro pins s U H l ys k I q;refine aaa (Bt (ht pins s U H _ I q) λb s9 #[H9,I9,q9]=>?_);cases b with
 |false=>exact aae #[ys,H9,I9,q9]
 |true=>exact he _ _ _ _ _ _ _ I9 q9
variable{O:Type}
def lK{ifs:Aai}{acc:Addr}{a:Sem O}:(Ph ifs env >>= λok=>if ok=true then em acc env >>= λ_=>a else a)=(QG ifs em acc env >>= λ_=>a):=by
 unfold QG;rw[bind_assoc];congr 1;funext b;cases b
 .exact(pure_bind _ _).symm
 .rfl
variable{tg iter:Expr}{ifs:Aai}{pos:Pos}{wi:TI}{g:TG}
noncomputable def jd{ce:Expr}{gs:List Comprehension}{Wg:Sem Value}{o0:Obj}{u0:HO}{z0:γ}{ev:Addr->γ->St->Hp->(γ->Hp->Prop)->Prop}
  {use:Option (Value->Sem Unit)} {pins:Aac} {s:Shared} {U:St} {H:Hp} {Q:VK} {QQ:Aaa} {E:Aaa} {pos':Pos}
  (YS:clausesOf ce=#[tg,iter,ifs,0]::gs) (Ut:∀{Q:Aaa} {E:Aaa} {s:Shared},Q (.ref s.heap.objs.size) {s with heap:=s.heap.push o0}->wpAny #[6] X.A Wg Q E s)
  (Yr:∀(pins:Aac) (U:St) (H:Hp) (s:Shared),Inv X pins U H s->Bm X.prog X.w (upd H s.heap.objs.size u0) (s.heap.push o0) s.heap.objs.size u0)
  (UC:∀(P:aaC) (w:World) (it acc:Value) (env:Env),(model P w).den (.compLoop ce 0 it acc env)=(compTurn ce 0 it acc env).onRaise λx=>do noteFrame x env;theTreesLotGoes x)
  (T3:∀(A:Around) (it acc:Value) (env:Env),A.under (.compLoop ce 0 it acc env)=A)
  (QO:∀(it:Value) (acc:Addr) (env:Env),compTurn ce 0 it (.ref acc) env=(aec iter.pos >>= λ_=>pyNext it >>= λr=>match r with
   |none=>pure (.done .next)
   |some v=>acW tg it v >>= λ_=>assign tg env v >>= λ_=>em acc env >>= λ_=>again (.compLoop ce 0 it (.ref acc) env)))
  (Nq:∀{it acc:Value} {env:Env} {R:Result->Shared->Prop} {s:Shared},acK #[6] X.A (.compLoop ce 0 it acc env) R s->wpAny #[6] X.A (pyIter it) (λR9 s'=>acK #[6] X.A (.compLoop ce 0 R9 acc env) R s') (notedBy #[6] X.A env λx s'=>R (.error x) s') s ->
   acK #[6] X.A (.compStart ce 0 it acc env) R s)
  (hc:X.calm=true) (hx:X.xe=λ_ _=>False) (hi:PI X tg iter wi)
  (hg:∀C s0 H0 ex pn,PG #[5] tg g) (OA:∀C s0 H0 ex pn,Ly #[5] em ev) (Hi:C2 js g)
  (C3:Dm X.env scope=true) (Bq:Ce X.N scope N js=true) (Bg:scope.kind=.function) (hs:∀x,aaB iter X.env x=pure x)
  (I:Inv X pins U H s) (h:Xs wi g u0 z0 ev js U H Q)
  (fin:∀(l C:Addr) (H':Hp) (s':Shared),Inv X pins U H' s'->Q (.ref l) H'->H' C=none->C≠X.env.locals->X.s0.heap.objs.size<=C->(∀x c,X.env.cells.lookup x=some c->c≠C)->(∀p∈X.pn++pins,p.1≠C)->(∃m,s'.heap.Ns C m)->afh #[6] X.A E use QQ (.ref l) C (.ok .next) s') :
  wpAny #[6] X.A (aeF ce scope X.env pos' Wg false (eval iter X.env) use) QQ E s:=by
 have SC:=wf C3;have CP:=vk Bq;refine wpAny_comprehension_free (cl:=D9 X.env.cells scope.names []) YS hs (mD (SC.cells I.ok)) Bg SC.lc ?_;refine aa5 (hi pins s U H _ I h) (λv s1 h1=>aa5 h1 (λR8 s2 h2=>?_) (λ_ _ z=>by rw[hx]at z;exact z.elim)) (λ_ _ z=>by rw[hx]at z;exact z.elim);obtain⟨it,fp,tn,J,H2,rfl,I2,T,RY,f2,hq⟩:=h2;have Ze:H2 s2.heap.objs.size=none:=I2.Bc.fresh (aai _);obtain⟨W,⟨m0,w0⟩,turn⟩:=hq s2.heap.objs.size Ze;refine Ut (wpAny_newFunctionEnv (λx hx=>SC.nc x hx) (by intro y hy;simp at hy) (λh₁ hns1 hsb1=>?_) Bg);dsimp only at hns1 hsb1 ⊢;generalize UM:s2.heap.push o0=hp3 at hns1 hsb1 ⊢;have WX:hp3.objs.size=s2.heap.objs.size+1:=by rw[<- UM,aa9]
 have I3:Inv X pins U (upd H2 s2.heap.objs.size u0) {s2 with heap:=hp3}:=by rw[<- UM];exact I2.laid (t':=s2.toks) (λb u e=>aac _ e) (aai _) (Yr _ _ _ _ I2)
 have keep:∀b o,hp3.get? b=some o->h₁.get? b=some o:=λb o e=>hsb1.extBut b o (aap (aah e)) (aac _ e);have UZ:∀b∈fp,b<s2.heap.objs.size:=λb hb=>by obtain⟨o,e,_⟩:=T.obj _ _ RY b hb;exact aah e
 have f3:∀b∈fp,DL X pins (upd H2 s2.heap.objs.size u0) b:=λb hb=>#[by rw[aj (aap (UZ b hb))];exact(f2 b hb).1,(f2 b hb).2]
 have J4:=uJ (tk:=s2.toks+([]:Aav).length) (C:=hp3.objs.size) (fp:=fp) (h₁:=h₁) (scope:=scope) (N:=N) (js:=js) I3 SC CP Bg f3 (λb hb=>by show b<hp3.objs.size;rw[WX];exact abG (UZ b hb)) rfl keep #[1];have VR:tn 0 h₁:=T.keep _ _ _ RY λb hb o e=>keep b o (by rw[<- UM];exact aac _ e);have loop:∀s4:Shared,s4={s2 with heap:=h₁,toks:=s2.toks+([]:Aav).length} ->
   acK #[6] X.A (.compLoop ce 0 (.ref it) (.ref s2.heap.objs.size) (compEnvC scope (D9 X.env.cells scope.names []) hp3.objs.size X.env)) (afh #[6] X.A E use QQ (.ref s2.heap.objs.size) hp3.objs.size) s4:=by
  rintro s4 rfl;generalize hY:lT X scope N hp3.objs.size {s2 with heap:=hp3} (upd H2 s2.heap.objs.size u0) fp (X.pn++pins)=Y at J4;have U0:∀{H':Hp},(∀b∈fp,H' b=none)->∀b∈fp,DL Y [] H' b:=λhn b hb=>by
   subst hY;refine#[hn b hb,?_,?_,.inl hb,λx c e=>?_,λp hp=>?_]
   .show b≠hp3.objs.size;rw[WX];exact aap (abG (UZ b hb))
   .intro z;rcases List.mem_cons.mp (I3.E7 b z)with q|q
    .exact(f3 b hb).2.1 q
    .exact(f3 b hb).2.2.1 q
   .exact(f3 b hb).2.2.2.2.1 x c (fP (SC.cells I.ok) (λc e=>by simp at e) e)
   .exact(f3 b hb).2.2.2.2.2 p (by simpa[lT]using hp)
  have YF:PG Y tg g:=by subst hY;exact hg _ _ _ _ _
  have UA:Ly Y em ev:=by subst hY;exact OA _ _ _ _ _
  have eA:Y.A=X.A:=by subst hY;rfl
  have eP:Y.prog=X.prog:=by subst hY;rfl
  have eW:Y.w=X.w:=by subst hY;rfl
  have eK:Y.K=X.K:=by subst hY;rfl
  have eC:Y.calm=true:=by subst hY;exact hc
  have eX:Y.xe=λ_ _=>False:=by subst hY;rfl
  have eE:Y.env=compEnvC scope (D9 X.env.cells scope.names []) hp3.objs.size X.env:=by subst hY;rfl
  have T':Turn Y.prog Y.w Y.K tg J fp it tn:=by rw[eP,eW,eK];exact T
  have eL:(BR js U).length=js.length:=by unfold BR;rw[aad]
  rw[<- eP,<- eW,<- eA,<- eE];refine codeAny_loop rfl (λn s'=>∃i ys H',Inv Y [] (BR js U) H' s'/\tn i s'.heap/\(∀b∈fp,H' b=none)/\W i n ys H') (λn s' hI=>?_) m0 #[0,z0,_,J4,VR,λb hb=>(f3 b hb).1,w0];obtain⟨i,ys,H5,I5,Oe,Sr,w5⟩:=hI;rw[UC,T3];refine wpAny_noted ?_;rw[QO];refine aaa (aco (aaa ?_));have Jm:∀(x:Value) (s:Shared) (P:Prop),Y.xe x s->P:=λx s P z=>by rw[eX]at z;exact z.elim
  rcases turn i n ys H5 w5 with ⟨stop,qn⟩|⟨go,step⟩
  .refine aa5 (T'.done Y rfl rfl rfl eC i [] s' _ H5 Y.xe I5 (U0 Sr) Oe stop) (λr s6 #[hr,I6]=>?_) λx s z=>Jm x s _ z;subst hr;refine aae ?_;show afh _ _ _ _ _ _ _ _ _;rw[eP,eW,eA];have back:Inv X pins U H5 s6:=by subst hY;exact uK I3 I6 f3
   have Lg:∃m,s6.heap.Ns hp3.objs.size m:=by
    obtain⟨m,hm,_⟩:=I6.loc;have:Y.env.locals=hp3.objs.size:=by rw[eE];rfl
    rw[this]at hm;exact#[m,hm]
   have Zf:H5 hp3.objs.size=none:=by
    have:=I6.free;have e:Y.env.locals=hp3.objs.size:=by rw[eE];rfl
    rw[e]at this;exact this
   refine fin s2.heap.objs.size hp3.objs.size H5 s6 back qn Zf ?_ ?_ ?_ ?_ Lg
   .exact abF I3.lt
   .exact I3.sz
   .intro x c e z;obtain⟨v,o,ho,_⟩:=I3.cell x c e;exact absurd (aah ho) (by rw[z];exact abY _)
   .intro p hp z;have:=aah (I3.pin p hp).1;rw[z]at this;exact absurd this (abY _)
  .refine aa5 (T'.item Y rfl rfl rfl eC i [] s' _ H5 Y.xe I5 (U0 Sr) Oe go) (λr s6 h6=>?_) λx s z=>Jm x s _ z;obtain⟨u,hr,h6⟩:=h6;subst hr;dsimp only;refine aaa ?_;refine aa5 h6 (λ_ s7 h7=>?_) λx s z=>Jm x s _ z;obtain⟨x,H7,I7,r7,y7,SY,Zk⟩:=h7;have I7':=I7.pinned (U0 Zk) (T.obj _ _ SY);have g7:=Hi x (BR js U) H7 _ (step x H7 y7);refine aaa ?_;refine aa5 (YF _ s7 (BR js U) H7 x u _ I7' r7 g7) (λ_ s8 h8=>?_) λx s z=>Jm x s _ z;obtain⟨sd,H8,I8,q8,l8,k8⟩:=h8;have again:∀{s':Shared} {H':Hp},Inv Y ([]++Fc fp s7.heap) sd H' s'->Inv Y [] (BR js U) H' s'/\tn (i+1) s'.heap/\∀b∈fp,H' b=none:=λ{s' H'} I'=>by
    refine#[(I'.Di).weak l8.symm λk v e=>?_,T.keep _ _ _ SY λb hb o e=>(I'.pin (b,o) (aaH _ (aaH _ (bC hb e)))).1,λb hb=>?_]
    .cases ej:js[k]? with
     |none=>unfold BR at e;rw[aaj,ej]at e;cases e
     |some o=>
      cases o with
      |none=>unfold BR at e;rw[aaj,ej]at e;cases e
      |some j=>rw[k8 k j ej];exact e
    .obtain⟨o,e,d⟩:=T.obj _ _ SY b hb;exact(I'.pin (b,o) (aaH _ (aaH _ (bC hb e)))).2.1
   refine aaa (aa5 (UA _ s8 sd H8 _ _ _ I8 q8) (λ_ Og UU=>?_) λx s z=>Jm x s _ z);obtain⟨zs,N7,N6,m',hm,Pc⟩:=UU;obtain⟨a1,a2,a3⟩:=again N6;exact aae #[rfl,m',hm,i+1,zs,N7,a1,a2,a3,Pc]
 exact Nq (loop _ rfl) (T.self X.A 0 _ _ _ VR (loop _ rfl))
variable{elt:Expr}{te:TE}
variable{use:Option (Value->Sem Unit)}{Q:VK}{QQ E:Aaa}{pos':Pos}
def pB(hc:X.calm=true)(hx:X.xe=λ_ _=>False)(hi:PI X tg iter wi)
  (hg:∀C s0 H0 ex pn,PG #[5] tg g) (ht:∀C s0 H0 ex pn,PF #[5] ifs tc) (he:∀C s0 H0 ex pn,PE #[5] elt te) (Hi:C2 js g)
  (C3:Dm X.env scope=true) (Bq:Ce X.N scope N js=true) (Bg:scope.kind=.function) (hs:∀x,aaB iter X.env x=pure x)
  (I:Inv X pins U H s) (h:SU wi g tc te js U H Q)
  (fin:∀(l C:Addr) (H':Hp) (s':Shared),Inv X pins U H' s'->Q (.ref l) H'->H' C=none->C≠X.env.locals->X.s0.heap.objs.size<=C->(∀x c,X.env.cells.lookup x=some c->c≠C)->(∀p∈X.pn++pins,p.1≠C)->(∃m,s'.heap.Ns C m)->afh #[6] X.A E use QQ (.ref l) C (.ok .next) s') :
  wpAny #[6] X.A (aeF (.ListComp elt [#[tg,iter,ifs,0]] scope pos) scope X.env pos' (newList []) false (eval iter X.env) use) QQ E s:=by
 refine jd (γ:=List V) (z0:=[]) (u0:=.lst []) (em:=QG ifs λacc env=>do let _ <- call (.builtin "list.append") [.ref acc,<- eval elt env]) (ev:=U3 tc λl ys U H k=>te U H λy H6=>H6 l=some (.lst ys)/\ys.length<sizeLine/\k (ys++[y]) (upd H6 l (.lst (ys++[y])))) rfl
  (λq=>aaZ q) (λ_ _ _ _ _=>#[by show 0<=_;exact abg _,[],_,.nil,aaf _ rfl]) (λ_ _ _ _ _=>rfl) (λ_ _ _ _=>rfl) (λ_ _ _=>by rw[compTurn_list];simp only[<- lK];rfl) codeAny_compStart_list hc hx hi hg (λC s0 H0 ex pn=>tu (ht _ _ _ _ _) λpins s U H l ys k I q=>?_) Hi C3 Bq Bg hs I h fin
 refine aaa (Bt (he C s0 H0 ex pn _ s U H _ I q) λy Og #[yv,N7,N6,Te,Zz,z10,Pc]=>?_);refine aaa (Bt (dF (X:=lT X scope N C s0 H0 ex pn) _ Og U N7 (.ref l) [yv] (.ref l) [y] (λ_ H'=>H'=upd N7 l (.lst (ys++[yv]))) N6 rfl (.cons Te .nil) #[_,ys,yv,rfl,rfl,Zz,z10,rfl]) λ_ V0 #[_,OK,N5,_,Sw]=>?_);subst Sw;exact aae #[_,_,N5,Pc]
def Aw(hi:PI X tg iter wi)(hg:∀C s0 H0 ex pn,PG #[5] tg g)(ht:∀C s0 H0 ex pn,PF #[5] ifs tc)(he:∀C s0 H0 ex pn,PE #[5] elt te)(Hi:C2 js g)
  (hc:autoParam (X.calm=true) At) (hx:autoParam (X.xe=(λ_ _=>False)) At) (C3:autoParam (Dm X.env scope=true) At) (Bq:autoParam (Ce X.N scope N js=true) At) (Bg:autoParam (scope.kind=.function) At) (hs:autoParam (∀x,aaB iter X.env x=pure x) AT) :
  PE X (.ListComp elt [#[tg,iter,ifs,0]] scope pos) (SU wi g tc te js):=by
 intro pins s U H Q I h;refine pB hc hx hi hg ht he Hi C3 Bq Bg hs I h λl C H' s' I' q f0 f1 f2 f3 f4 #[m,hm]=>?_;refine#[m,hm,λh' sb=>#[.ref l,H',?_,rfl,q]];exact I'.turned (λb o hb e=>sb.extBut b o hb e) f0 f1 (.inr f2) f3 f4
variable{y:Str}{py:Pos}
def Ar{BM:Pos}(hN:X.N.Nodup)(hy:X.N[i]?=some y)(hk:X.env.scope.names.lookup y=some .local)(hi:PI X tg iter wi)(hg:∀C s0 H0 ex pn,PG #[5] tg g)(ht:∀C s0 H0 ex pn,PF #[5] ifs tc)(he:∀C s0 H0 ex pn,PE #[5] elt te)(Hi:C2 js g)
  (JZ:autoParam (ab3 (.ListComp elt [#[tg,iter,ifs,0]] scope pos) (some (.Name y py)) BM.line X.env=pure true) At)
  (hc:autoParam (X.calm=true) At) (hx:autoParam (X.xe=(λ_ _=>False)) At) (C3:autoParam (Dm X.env scope=true) At) (Bq:autoParam (Ce X.N scope N js=true) At) (Bg:autoParam (scope.kind=.function) At) (hs:autoParam (∀x,aaB iter X.env x=pure x) AT) :
  PS X (.Assign [.Name y py] (.ListComp elt [#[tg,iter,ifs,0]] scope pos) BM) (FG (SU wi g tc te js) (By i)):=by
 intro pins s U H D I h;rw[exec_Assign_Name_used _ _ _ _ JZ];refine aaa (aco (aaa ?_));refine aaa (aa5 (pB hc hx hi hg ht he Hi C3 Bq Bg hs I h λl C H' s' I' q f0 f1 f2 f3 f4 #[m,hm]=>?_) (λ_ s' hq=>aae (aae hq)) λ_ _ e=>e);refine aeR (gh I' hN hy (.inl hk) (v:=.ref l) rfl (λPN Vt #[a,sb,ha]=>?_) (.inr hk));have UI:C≠a:=by
  rcases ha with rfl|ha
  .exact f1
  .exact λz=>f3 _ _ ha z.symm
 refine#[m,hm.sameBut sb UI,λh' S4=>#[_,H',?_,q]];exact Vt.turned (λb o hb e=>S4.extBut b o hb e) f0 f1 (.inr f2) f3 f4
end L2
namespace Srt
open PySem PySem.W PyProof.Rows
variable{O:Type}
def pw(lt:Nat->Nat->Bool)(n:Nat):KasT O->(O->Prop)->Prop
 |.ret a,Q=>Q a
 |.ask i j k,Q=>i<n/\j<n/\i≠j/\pw lt n (k (lt i j)) Q
def pw_bind{w:Type}{lt:Nat->Nat->Bool}{n:Nat}{f:O->KasT w}{Q:w->Prop}:∀(t:KasT O),pw lt n t (λa=>pw lt n (f a) Q)->pw lt n (t.bind f) Q
 |.ret _,h=>h
 |.ask i j k,h=>#[h.1,h.2.1,h.2.2.1,pw_bind _ h.2.2.2]
structure Ord(lt:Nat->Nat->Bool)(n:Nat):Prop where
 irr:∀i,i<n->lt i i=false
 tr:∀i j k,i<n->j<n->k<n->lt i j=true->lt j k=true->lt i k=true
 tot:∀i j,i<n->j<n->i≠j->lt i j=false->lt j i=true
section
variable{lt:Nat->Nat->Bool}{n:Nat}
noncomputable def at'(p:Array Nat)(i:Nat):Nat:=p.getD i 0
structure Pm(p:Array Nat)(n:Nat):Prop where
 sz:p.size=n
 lt:∀i,i<n->at' p i<n
 nd:∀i j,i<n->j<n->at' p i=at' p j->i=j
def aL(p:Array Nat)(i:Nat):at' p i=(p[i]?).getD 0:=by
 unfold at';by_cases h:i<p.size
 .simp[h]
 .simp[h]
def Jv(lt:Nat->Nat->Bool)(p:Array Nat)(k:Nat):Prop:=∀i j,i<j->j<k->lt (at' p i) (at' p j)=true
def Vv(lt:Nat->Nat->Bool)(p:Array Nat)(k:Nat):Prop:=∀i j,i<j->j<k->lt (at' p j) (at' p i)=true
theorem n4(o:Ord lt n){p:Array Nat}(P:Pm p n):∀(f m:Nat) (Q:Nat->Prop),1<=m->m+f<=n->Jv lt p m->(∀m',m<=m'->m'<=m+f->Jv lt p m'->(m'<m+f->lt (at' p m') (at' p (m' - 1))=true)->Q m')->pw lt n (kas_asc p f m) Q
 |0,m,Q,_,_,ha,h=>h m (aai _) (aai _) ha λz=>absurd z (abY _)
 |f+1,m,Q,h1,hm,ha,h=>by
  refine#[P.lt _ #[],P.lt _ #[],λz=>(by have:=P.nd _ _ #[] #[] z;omega),?_];cases c:lt _ _ with
  |true=>exact h m (aai _) #[] ha λ_=>c
  |false=>
   have e  := o.tot _ _ (P.lt _ #[]) (P.lt _ #[]) (λz=>by have:=P.nd _ _ #[] #[] z;omega) c;refine n4 o P f _ Q #[] #[] (λi j EI hj=>?_) λm' a b c d=>h m' #[] #[] c λz=>d #[];by_cases ej:j=m
   .subst ej;by_cases ei:i=j - 1
    .subst ei;exact e
    .exact o.tr _ _ _ (P.lt _ #[]) (P.lt _ #[]) (P.lt _ #[]) (ha i _ #[] #[]) e
   .exact ha i j EI #[]
theorem pG(o:Ord lt n){p:Array Nat}(P:Pm p n):∀(f m:Nat) (Q:Array Nat×Nat×Nat->Prop),1<=m->m+f<=n->Vv lt p m->(∀m',m<=m'->m'<=m+f->Vv lt p m'->Q (p,m',0))->pw lt n (kas_desc f p m 0) Q
 |0,m,Q,_,_,ha,h=>h m (aai _) (aai _) ha
 |f+1,m,Q,h1,hm,ha,h=>by
  refine#[P.lt _ #[],P.lt _ #[],λz=>(by have:=P.nd _ _ #[] #[] z;omega),?_];cases c:lt _ _ with
  |true=>
   refine pG o P f _ Q #[] #[] (λi j EI hj=>?_) λm' a b c=>h m' #[] #[] c;by_cases ej:j=m
   .subst ej;by_cases ei:i=j - 1
    .subst ei;exact c
    .exact o.tr _ _ _ (P.lt _ #[]) (P.lt _ #[]) (P.lt _ #[]) c (ha i _ #[] #[])
   .exact ha i j EI #[]
  |false=>have e  := o.tot _ _ (P.lt _ #[]) (P.lt _ #[]) (λz=>by have:=P.nd _ _ #[] #[] z;omega) c;refine#[P.lt _ #[],P.lt _ #[],λz=>(by have:=P.nd _ _ #[] #[] z;omega),?_];rw[show lt (p.getD _ 0) (p.getD m 0)=true from e];exact h m (aai _) #[] ha
theorem mV{p:Array Nat}{m i:Nat}(hm:m<=p.size)(hi:i<m):at' (afs p 0 m) i=at' p (m - 1 - i):=by
 rw[aL,aL];unfold afs;rw[getElem?_mirror hm _ #[]];have e:0+m - 1 - i=m - 1 - i:=by omega
 split
 .rw[e]
 .have:i=m - 1 - i:=by omega
  rw[<- this]
theorem wj{p:Array Nat}{m i:Nat}(hm:m<=p.size)(hi:m<=i):at' (afs p 0 m) i=at' p i:=by rw[aL,aL];unfold afs;rw[getElem?_mirror hm _ #[],if_neg #[]]
theorem yk{p:Array Nat}{m:Nat}(P:Pm p n)(hm:m<=n):Pm (afs p 0 m) n:=by
 have hs:m<=p.size:=by rw[P.sz];exact hm
 have key:∀i,i<n->∃i',i'<n/\at' (afs p 0 m) i=at' p i'/\((i<m/\i'=m - 1 - i)\/(m<=i/\i'=i)):=λi hi=>by
  by_cases h:i<m
  .exact#[m - 1 - i,#[],mV hs h,.inl #[h,rfl]]
  .exact#[i,hi,wj hs #[],.inr #[#[],rfl]]
 refine#[by unfold afs;rw[mirror_size];exact P.sz,λi hi=>?_,λi j hi hj e=>?_]
 .obtain⟨i',h1,h2,_⟩:=key i hi;rw[h2];exact P.lt i' h1
 .obtain⟨i',h1,h2,h3⟩:=key i hi;obtain⟨j',k1,k2,k3⟩:=key j hj;rw[h2,k2]at e;have:=P.nd _ _ h1 k1 e;omega
theorem tQ(o:Ord lt n){p:Array Nat}(P:Pm p n){m:Nat}{Q:Nat×Array Nat->Prop}(h1:1<=m)(hm:m<=n)(hd:Vv lt p m)(h:∀m' q,1<=m'->m'<=n->Pm q n->Jv lt q m'->Q (m',q)):pw lt n (kas_tail3 m n p) Q:=by
 refine pw_bind _ ?_;have P':=yk P hm;have hs:m<=p.size:=by rw[P.sz];exact hm
 refine n4 o P' _ _ _ h1 #[] (λi j EI hj=>?_) λm' a b c _=>h m' _ #[] #[] P' c;rw[mV hs #[],mV hs hj];exact hd _ _ #[] #[]
theorem vi(o:Ord lt n){p:Array Nat}(P:Pm p n)(h2:2<=n){Q:Nat×Array Nat->Prop}(h:∀m q,1<=m->m<=n->Pm q n->Jv lt q m->Q (m,q)):pw lt n (kas_count n p) Q:=by
 refine pw_bind _ (n4 o P _ _ _ (aai 1) #[] (λi j EI hj=>#[]) λm a b c d=>?_);by_cases e:(m==n)=true
 .rw[if_pos e];exact h m p #[] #[] P c
 .rw[if_neg e];by_cases hm:m > 1
  .rw[if_pos hm];refine#[P.lt _ #[],P.lt _ #[],λz=>(by have:=P.nd _ _ #[] #[] z;omega),?_];rw[show lt (p.getD 0 0) (p.getD _ 0)=true from c 0 _ #[] #[]];exact h m p #[] #[] P c
  .have Uk:m=1:=by omega
   subst Uk;refine pw_bind _ ?_;have d1  := d #[];refine pG o P _ _ _ #[] #[] (λi j EI hj=>?_) λm' a b hd=>?_
   .have:i=0:=by omega
    have:j=1:=by omega
    subst i j;exact d1
   .show pw lt n (if 0 > 0 then kas_tail3 m' n _ else kas_tail3 m' n p) Q;exact tQ o P #[] #[] hd h
theorem iV(o:Ord lt n){p:Array Nat}(P:Pm p n){k:Nat}(hk:k<n)(ha:Jv lt p k):∀(f l r:Nat) (Q:Nat->Prop),l<=r->r<=k->r<=l+f->(∀i,i<l->lt (at' p i) (at' p k)=true)->(∀i,r<=i->i<k->lt (at' p k) (at' p i)=true) ->
  (∀l',l'<=k->(∀i,i<l'->lt (at' p i) (at' p k)=true)->(∀i,l'<=i->i<k->lt (at' p k) (at' p i)=true)->Q l')->pw lt n (kas_place p k f l r) Q
 |0,l,r,Q,hl,hr,hf,h1,h2,h=>by
  have:l=r:=by omega
  subst this;exact h l hr h1 h2
 |f+1,l,r,Q,hl,hr,hf,h1,h2,h=>by
  unfold kas_place;by_cases Wu:l ≥ r
  .rw[if_pos Wu];have:l=r:=by omega
   subst this;exact h l hr h1 h2
  .rw[if_neg Wu];refine#[P.lt _ hk,P.lt _ #[],λz=>(by have:=P.nd _ _ hk #[] z;omega),?_];cases c:lt (p.getD k 0) _ with
   |true=>
    refine iV o P hk ha f l _ Q #[] #[] #[] h1 (λi hi WH=>?_) h;by_cases e:i=(l+r) / 2
    .subst e;exact c
    .exact o.tr _ _ _ (P.lt _ hk) (P.lt _ #[]) (P.lt _ #[]) c (ha _ _ #[] WH)
   |false=>
    have e  := o.tot _ _ (P.lt _ hk) (P.lt _ #[]) (λz=>by have:=P.nd _ _ hk #[] z;omega) c;refine iV o P hk ha f _ r Q #[] hr #[] (λi hi=>?_) h2 h;by_cases e':i=(l+r) / 2
    .subst e';exact e
    .exact o.tr _ _ _ (P.lt _ #[]) (P.lt _ #[]) (P.lt _ hk) (ha _ _ #[] #[]) e
theorem gO{p:Array Nat}{k l i:Nat}(hk:k<p.size)(hl:l<=k):at' (bubble p k (k - l)) i=if i=l then at' p k else if l<i/\i<=k then at' p (i - 1)else at' p i:=by
 rw[aL];rw[getElem?_bubble hk _ #[]];have e:k - (k - l)=l:=by omega
 rw[e];split
 .rw[aL]
 .split
  .rw[aL]
  .rw[aL]
theorem tI(o:Ord lt n):∀(f k:Nat) (p:Array Nat) (Q:Array Nat->Prop),Pm p n->Jv lt p k->k+f=n->(∀q,Pm q n->Jv lt q n->Q q)->pw lt n (kas_bin f p k) Q
 |0,k,p,Q,P,ha,hk,h=>by
  have:k=n:=by omega
  subst this;exact h p P ha
 |f+1,k,p,Q,P,ha,hk,h=>by
  have Nw:k<n:=by omega
  have hs:k<p.size:=by rw[P.sz];exact Nw
  refine pw_bind _ (iV o P Nw ha k 0 k _ (abg _) (aai _) #[] (λi hi=>#[]) (λi hi WH=>#[]) λl hl h1 h2=>?_);refine tI o f (k+1) _ Q #[by rw[bubble_size];exact P.sz,λi hi=>?_,λi j hi hj e=>?_] (λi j EI hj=>?_) #[] h
  .rw[gO hs hl];split
   .exact P.lt _ Nw
   .split
    .exact P.lt _ #[]
    .exact P.lt _ hi
  .rw[gO hs hl,gO hs hl]at e;have P1:=P.nd;split at e
   .split at e
    .omega
    .split at e
     .have:=P1 _ _ Nw #[] e;omega
     .have:=P1 _ _ Nw #[] e;omega
   .split at e
    .split at e
     .have:=P1 _ _ #[] Nw e;omega
     .split at e
      .have:=P1 _ _ #[] #[] e;omega
      .have:=P1 _ _ #[] #[] e;omega
    .split at e
     .have:=P1 _ _ #[] Nw e;omega
     .split at e
      .have:=P1 _ _ #[] #[] e;omega
      .have:=P1 _ _ #[] #[] e;omega
  .rw[gO hs hl,gO hs hl];split
   .split
    .omega
    .split
     .exact h2 _ #[] #[]
     .omega
   .split
    .split
     .omega
     .split
      .exact ha _ _ #[] #[]
      .omega
    .split
     .exact h1 _ #[]
     .split
      .exact ha _ _ #[] #[]
      .exact ha _ _ EI #[]
theorem oQ(o:Ord lt n)(h2:2<=n){Q:Array Nat->Prop}(h:∀p,Pm p n->Jv lt p n->Q p):pw lt n (kas_sort n) Q:=by
 have P0:Pm (ae7 (aa3 n)) n:=by
  have e:∀i,i<n->at' (ae7 (aa3 n)) i=i:=λi hi=>by rw[aL];simp[hi]
  refine#[#[0],λi hi=>#[1],λi j hi hj q=>#[1]]
 refine pw_bind _ (vi o P0 h2 λm q h1 hm P ha=>?_);by_cases e:m<n
 .rw[if_pos e];have em:max m 1=m:=by omega
  rw[em];exact tI o _ _ _ _ P ha #[] h
 .rw[if_neg e];have:m=n:=by omega
  subst this;exact h q P ha
end
def pw_wp{lt:Nat->Nat->Bool}{n:Nat}{cmp:Nat->Nat->(Bool->Shared->Prop)->Shared->Prop}{Q:O->Prop}{QQ:O->Shared->Prop}{J:Shared->Prop}
  (hc:∀i j C s,i<n->j<n->i≠j->J s->(∀s',J s'->C (lt i j) s')->cmp i j C s) (hq:∀a s,J s->Q a->QQ a s):∀(t:KasT O) (s:Shared),J s->pw lt n t Q->t.kasWp cmp QQ s
 |.ret a,s,hj,h=>hq a s hj h
 |.ask i j k,s,hj,h=>hc i j _ s h.1 h.2.1 h.2.2.1 hj λs' E2=>pw_wp hc hq _ s' E2 h.2.2.2
end Srt
namespace L2
open PySem PySem.Spec PyProof.Rows
variable{ss:A3}
def fw:∀{us:Aad},oF (ss.map V.str) us->acp us ss:=by
 induction ss with
 |nil=>intro us r;cases r;exact .nil
 |cons x r ih=>
  intro us h;cases h with
  |cons h1 h2=>obtain⟨t,rfl⟩:=h1;exact .cons x t (ih h2)
def dA:∀{us:Aad} {ss:A3},acp us ss->oF (ss.map V.str) us
 |_,_,.nil=>.nil
 |_,_,.cons x t h=>.cons #[t,rfl] (dA h)
def Bv(a b:Str):Prop:=a.cps.toList<b.cps.toList
instance (a b:Str):Decidable (Bv a b):=inferInstanceAs (Decidable (a.cps.toList<b.cps.toList))
def iy:∀(l:A3) (p:Str),risingS p l=true->(∀y∈l,¬ Bv y p)/\l.Pairwise (λa b=>¬ Bv b a)
 |[],p,_=>#[(λ_ h=>nomatch h),ae1]
 |x::r,p,h=>by
  have h':(!ltCps x.cps.toList p.cps.toList && risingS x r)=true:=h;rw[aaM]at h';obtain⟨h1,h2⟩:=h';have hx:¬ Bv x p:=by unfold Bv;rw[ltCps_eq]at h1;simpa using h1
  obtain⟨a,b⟩:=iy r x h2;refine#[λy hy=>?_,List.pairwise_cons.mpr #[a,b]];rcases List.mem_cons.mp hy with rfl|hy
  .exact hx
  .intro z;have:=a y hy;exact hx (List.lt_of_le_of_lt (List.not_lt.mp this) z)
def dQ{l:A3}(h:sortedS l=true):l.Pairwise (λa b=>¬ Bv b a):=by
 cases l with
 |nil=>exact ae1
 |cons x r=>obtain⟨a,b⟩:=iy r x h;exact List.pairwise_cons.mpr #[a,b]
variable{X:Cx}
def MV(K:aag):Aag->Hp->VK->Prop:=λxs H Q=>∃(p:Addr) (ss:A3),xs=[.ref p]/\Cr K H p (ss.map V.str)/\ss.length<64 /\
 ∀(l:Addr) (EL:A3),H l=none->EL.Perm ss->EL.Pairwise (λa b=>¬ Bv b a)->Q (.ref l) (upd H l (.lst (EL.map V.str)))
theorem qD:Bd X (.builtin "sorted") (MV X.K):=by intro pins s U H xs us Q I r h;obtain⟨p,ss,rfl,hq,Gg,k⟩:=h;obtain⟨u,rfl,ru⟩:=r.one;cases ru;obtain⟨eQ,rv,pl,hz⟩:=I.list hq;have hS:=fw rv;have hl:=rv.length;rw[aad]at hl;refine sorted_strs pl.isList hS #[] λout EL a1 a2 a3=>?_;obtain⟨e,he⟩:=sortedAll_at s.heap eQ out;have hn  := I.Bc.fresh (acA _);refine#[.ref _,_,I.laid (λb o q=>sortedAll_old q) (acA _) ?_,rfl,k _ EL hn a2 (dQ a3)];refine#[by rw[aad,a2.length_eq,aaJ];omega,out.toList,e,dA a1,?_];exact he
variable{prog:aaC}{w:World}{A:Around}{E:Aaa}{s:Shared}
noncomputable def cZ(vs:Aad):Sem PySem.Fin:=do
 let l <- newList vs;let _ <- adp [l] (call (.builtin "list.sort") [l] [])
 ret l
variable{x:Value}{vs:Aad}{Q:Aaa}
def rg(hc:∀R:Aad->Shared->Prop,(∀h1 tk,(∀b o,s.heap.get? b=some o->h1.get? b=some o)->R vs {s with heap:=h1,toks:=tk})->wpAny #[9] A.in1 (collect x) R E s)
  (h:∀h1 tk,(∀b o,s.heap.get? b=some o->h1.get? b=some o)->wpAny #[9] A.in1 (cZ vs) (λfin s'=>∃v,fin=.done (.ret v)/\Q v s') E {s with heap:=h1,toks:=tk}):wpAny #[9] A (call (.builtin "sorted") [x]) Q E s:=by
 refine acM afr ae3 ae4 (ae5 _) ?_;exact aaa (aae (aaa (hc _ λh1 tk kk=>h h1 tk kk)))
theorem qb(h2:vs.length<2)(h:∀h' e,(∀b o,s.heap.get? b=some o->h'.get? b=some o)->h'.get? s.heap.objs.size=some (seqObj "list" vs.toArray e)->Q (.ref s.heap.objs.size) {s with heap:=h'}):
  wpAny #[9] A (cZ vs) (λfin s'=>∃v,fin=.done (.ret v)/\Q v s') E s:=by
 have hz:vs.length<=sizeLine:=by rw[aaJ];omega
 unfold cZ;refine aaa (acV ?_ hz);have I0:(s.heap.push (seqObj "list" vs.toArray 0)).get? s.heap.objs.size=some (seqObj "list" vs.toArray 0):=aaf _ rfl;refine(?_:wpAny _ _ _ _ _ {s with heap:=s.heap.push (seqObj "list" vs.toArray 0)});generalize WY:s.heap.push (seqObj "list" vs.toArray 0)=hB at I0 ⊢;have kB:∀b o,s.heap.get? b=some o->hB.get? b=some o:=λb o e=>by rw[<- WY];exact aac _ e
 refine aaa (aaX (aaT adG #[_,I0,rfl] adq ?body (adI _)));case body=>
  rw[list_sort_plain];obtain⟨e1,Ja⟩:∃e1,(hB.update s.heap.objs.size (abE λ_=>#v[])).get? s.heap.objs.size=some (seqObj "list" #v[] e1):=#[_,aft I0 λ_=>#v[]]
  refine aaa (listItems_at I0 rfl (aaa (adW I0 rfl ?_ (by rw[aak];exact hz) (abg _))));refine aaa (aeu Ja rfl (aaa (afL ?_ (by show vs.length<=_;exact hz))));refine aaa (acV (aaX ?_) (abg _));have Lf:(((hB.update s.heap.objs.size (abE λ_=>#v[])).push (seqObj "tuple" vs.toArray 0)).push (seqObj "list" #v[] 0)).get? s.heap.objs.size=some (seqObj "list" #v[] e1) :=
   aac _ (aac _ Ja)
  refine(?_:wpAny #[9] _ _ _ _ {s with heap:=((hB.update s.heap.objs.size (abE λ_=>#v[])).push (seqObj "tuple" vs.toArray 0)).push (seqObj "list" #v[] 0)});dsimp only;have BU:vs.toArray.size<2:=by rw[aak];exact h2
  rw[if_pos BU,if_pos BU];refine aaa (aae ?_);rw[StateT.run_pure];refine aaa (aae ?_);dsimp only;have eo:(arrOf (SortSt.mk' general' (vs.toArray.zip vs.toArray) #v[] 7 none)).map (·.2)=vs.toArray:=by
   show (vs.toArray.zip vs.toArray).map (·.2)=vs.toArray;apply Array.ext
   .simp
   .intro i h1 h2;simp
  rw[eo];refine aaa (aeu Lf rfl (aaa (adW Lf rfl ?_ (abg _) (by rw[aak];first|exact hz|exact Nat.le_succ_of_le hz))));simp only[bne_self_eq_false,abA,if_false];refine aae #[_,rfl,aae #[_,rfl,h _ _ (λb o e=>?_) (aft Lf λ_=>vs.toArray)]];have hb:b≠s.heap.objs.size:=aap (aah e);rw[acO _ _ _ _ hb];refine aac _ (aac _ ?_);rw[acO _ _ _ _ hb];exact kB b o e
variable{pins:Aac}{U:St}{H:Hp}
variable{h:Heap}{a:Addr}
def yK{m m':Aaf}(x:h.Ns a m)(y:h.Ns a m'):m=m':=by obtain⟨o,es,ep,ho,hd,_,hm⟩:=x;obtain⟨o',Hl,Ss,E1,Sm,_,Sk⟩:=y;rw[ho]at E1;cases E1;rw[hd]at Sm;cases Sm;funext n;rw[<- hm n,<- Sk n]
variable{P:aaC}{o:HO}
def Bm.there(x:Bm P w H h a o):∃u,h.get? a=some u:=by
 cases o with
 |lst xs=>obtain⟨_,_,_,_,e⟩:=x;exact#[_,e]
 |tup xs=>obtain⟨_,_,_,⟨o,e,_⟩,_⟩:=x;exact#[_,e]
 |dK gE=>obtain⟨_,_,_,_,o,_,_,e,_⟩:=x;exact#[_,e]
 |dT gE=>obtain⟨_,_,_,_,o,_,_,e,_⟩:=x;exact#[_,e]
 |set S n=>obtain⟨o,_,_,_,e,_⟩:=x;exact#[_,e]
 |ins C dx fs=>obtain⟨_,_,_,e,_⟩:=x;exact#[_,e]
 |own y=>exact x
 |xd fs=>obtain⟨_,⟨_,_,_,e,_⟩,_⟩:=x;exact#[_,e]
 |R1 lo hi=>obtain⟨_,_,_,e⟩:=x;exact#[_,e]
 |Dg ob u=>obtain⟨e,_⟩:=x;exact#[_,e]
 |LC ps=>exact#[_,x]
 |met f y=>exact#[_,x]
 |ext W=>obtain⟨_,e,_⟩:=x;exact e
def DK.dead(x:DK P w H h)(e:h.get? a=none):H a=none:=by
 cases q:H a with
 |none=>rfl
 |some u=>obtain⟨o,z⟩:=(x a u q).there;rw[e]at z;cases z
variable{h':Heap}{xs:Aag}
def Inv.Qt{D:Addr}{m:Aaf}(I:Inv X pins U H s)(hm:s.heap.Ns X.env.locals m)(Sk:h'.Ns X.env.locals m)(k:∀b o,b≠X.env.locals->s.heap.get? b=some o->h'.get? b=some o)
  (hD:s.heap.get? D=none) (new:Bm X.prog X.w (upd H D (.lst xs)) h' D (.lst xs)):Inv X pins U (upd H D (.lst xs)) {s with heap:=h'}:=by
 have fr  := I.Bc.dead hD;have nD:∀b o,s.heap.get? b=some o->b≠D:=λb o e z=>by simp_all
 have nt:∀b u,H b=some u->b≠D:=λb u e=>av e fr;have V8:∀b u,H b=some u->b≠X.env.locals:=λb u e=>av e I.free;refine I.step (ch:=[]) (λ_ z=>nomatch z) (λb o hb _ _ e _=>k b o hb e) (λb o hb _ _ e _=>#[o.slots,k b o hb e]) (λb o _ e n=>by rw[aj (nD b o e)];exact n)
  (λb o _ e=>?_) (λb ys e=>by rw[aj (nt b _ e)];exact e) (λb o u e=>by rw[aj (nt b _ e)];exact e) (λb ps e=>#[#v[],by rw[aj (nt b _ e),e];simp]) (λm2 h2=>by rw[yK h2 hm];exact Sk) (λb u e=>?_) I.bare
 .by_cases hb:b=X.env.locals
  .subst hb;obtain⟨o',_,_,E1,_⟩:=Sk;exact#[o',E1]
  .exact#[o,k b o hb e]
 .by_cases hb:b=D
  .subst hb;rw[ah]at e;cases e;exact new
  .rw[aj hb]at e;refine(I.Bc b u e).G7 (λc v hc q=>k c v ?_ q) (λc q=>by rw[aj (nt c _ q)];exact q) λc ys q=>by rw[aj (nt c _ q)];exact q
   rcases hc with z|z
   .rw[z];exact V8 b u e
   .exact V8 c _ z
structure Rows(K:aag)(H:Hp)(vs:Aag)(nm:A3):Prop where
 len:vs.length=nm.length
 row:∀(i:Nat) (v:V) (x:Str),vs[i]?=some v->nm[i]?=some x->∃a r,v=.ref a/\Cf K H a (.str x::r)
 nd:nm.Nodup
def MW(K:aag):Aag->Hp->VK->Prop:=λxs H Q=>∃p vs nm,xs=[.ref p]/\Cr K H p vs/\vs.length<64/\Rows K H vs nm /\
 ∀l (ix:Aan),H l=none->ix.length=vs.length->ix.Nodup->(∀i∈ix,i<vs.length)->(ix.map λi=>nm.getD i #[#v[]]).Pairwise Bv->Q (.ref l) (upd H l (.lst (ix.map λi=>vs.getD i .AZ)))
variable{us:Aad}
def oF.pick(r:oF xs us):∀(ix:Aan),(∀i∈ix,i<xs.length)->oF (ix.map λi=>xs.getD i .AZ) (ix.map λi=>us.getD i abP)
 |[],_=>.nil
 |i::ix,h=>by
  refine .cons ?_ (oF.pick r ix λj hj=>h j (aaq _ hj));have hi:=h i aaz;have e:xs[i]?=some (xs[i]):=by simp
  obtain⟨u,hu,ru⟩:=r.get e;have e1:xs.getD i .AZ=xs[i]:=by simp_all
  have e2:us.getD i abP=u:=by simp_all
  show RelV (xs.getD i .AZ) (us.getD i abP);rw[e1,e2];exact ru
variable{eQ:Aad}
theorem tS{vs:Aag}{nm:A3}{Q:VK}(I:Inv X pins U H s)(rv:oF vs eQ)(hz:eQ.length<=sizeLine)(Gg:vs.length<64)(R:Rows X.K H vs nm)
  (k:∀l (ix:Aan),H l=none->ix.length=vs.length->ix.Nodup->(∀i∈ix,i<vs.length)->(ix.map λi=>nm.getD i #[#v[]]).Pairwise Bv->Q (.ref l) (upd H l (.lst (ix.map λi=>vs.getD i .AZ)))) :
  wpAny #[6] A (cZ eQ) (λfin s'=>∃v,fin=.done (.ret v)/\∃x H',Inv X pins U H' s'/\RelV x v/\Q x H') E s:=by
 have hl:=rv.length;by_cases h2:eQ.length<2
 .refine qb h2 λh' e kk he=>?_;have hn:H s.heap.objs.size=none:=I.Bc.fresh (aai _);have ei:(aa3 vs.length).map (λi=>vs.getD i V.AZ)=vs:=by
   apply abR;intro i;rw[aaj];by_cases hi:i<vs.length
   .rw[acq hi];simp[hi]
   .rw[aam (by simpa using hi),aam #[]];rfl
  have q:=k s.heap.objs.size (aa3 vs.length) hn #[0] ad7 (λi hi=>List.mem_range.mp hi) (by
   match hv:vs.length,hl with
   |0,_=>simp
   |1,_=>simp[aei]
   |n+2,hl=>omega)
  rw[ei]at q;exact#[.ref s.heap.objs.size,_,I.laid (t':=s.toks) (a:=s.heap.objs.size) (o:=.lst vs) kk (aai _) #[by rw[hl];exact hz,eQ,e,rv,he],rfl,q]
 .obtain⟨m,F⟩:=I.fr;unfold cZ;refine aaa (acV ?_ hz);have I0:(s.heap.push (seqObj "list" eQ.toArray 0)).get? s.heap.objs.size=some (seqObj "list" eQ.toArray 0):=aaf _ rfl;have hL:X.env.locals<s.heap.objs.size:=F.ns.lt;refine aaa (aaX (aaT adG #[_,I0,rfl] adq ?body (adI _)));refine PySem.W.kat_list_sort (s:={s with heap:=s.heap.push (seqObj "list" eQ.toArray 0)}) (F.kept λb o e=>aac _ e) ((i5 (g:=X.base) (h:=s.heap) (L:=X.env.locals)).grown λb o e=>aac _ e) I0 (abF hL)
   (Heap.get?_none_of_le (aaK F.above (ae6 hL))) (λp hp=>aap (aah ((i5 (g:=X.base) (h:=s.heap) (L:=X.env.locals)) p hp).1)) #[] #[] λe1 h' F' N'=>?_
  have hD:∀q∈ib X.base s.heap X.env.locals,q.1<s.heap.objs.size:=λq hq=>aah ((i5 (g:=X.base) (h:=s.heap) (L:=X.env.locals)) q hq).1;generalize hDe:s.heap.objs.size=D at hD N' ⊢;have Qw:∀b o,b≠X.env.locals->s.heap.get? b=some o->h'.get? b=some o:=λb o hb e=>by
   cases q:X.base.get? b with
   |some ob=>have:=I.bk b ob q;rw[e]at this;cases this;exact F'.keep b _ q
   |none=>exact(N' (b,o) (aaq _ (dX hb q e))).1
  have Zd:∀b o,b≠X.env.locals->X.base.get? b=none->s.heap.get? b=some o->b<D:=λb o hb hn e=>hD (b,o) (dX hb hn e);have rowAt:∀i,i<eQ.length->∃a ob vv x t n,eQ.getD i abP=.ref a/\h'.get? a=some ob/\ob.cls=.type "tuple" /\ ob.data=.seq vv n/\vv[0]?=some (.str x t)/\nm[i]?=some x/\s.heap.get? a=some ob:=λi hi=>by
   have Fk:i<vs.length:=by omega
   have e:vs[i]?=some vs[i]:=by simp[Fk]
   obtain⟨u,hu,ru⟩:=rv.get e;have GD:i<nm.length:=by rw[<- R.len];exact Fk
   have en:nm[i]?=some nm[i]:=by simp[GD]
   obtain⟨a,rr,ev,ha⟩:=R.row i _ _ e en;rw[ev]at ru;cases ru;obtain⟨Xo,tv,⟨ob,Le,hc,n,hd⟩,z1⟩:=I.tuple ha;cases tv with
   |cons t1 t2=>obtain⟨t,rfl⟩:=t1;refine#[a,ob,_,nm[i],t,n,by rw[aau,hu];rfl,Qw a ob ?_ Le,hc,hd,#[0],en,Le];rintro rfl;obtain⟨m,⟨o2,es,ep,g1,g2,_⟩,_⟩:=I.loc;rw[Le]at g1;cases g1;rw[hd]at g2;cases g2
  have FF:PySem.W.KatTups h' eQ ((aa3 eQ.length).map λi=>match eQ.getD i abP with|.ref a=>(match h'.get? a with|some ob=>(match ob.data with|.seq vv _=>(vv[0]?).getD .none|_=>.none)|none=>.none)|_=>.none):=by
   have go:∀(us:Aad) (f:Nat->Value) (k0:Nat),(∀i,i<us.length->∃a ob vv n,us.getD i abP=.ref a/\h'.get? a=some ob/\ob.cls=.type "tuple" /\ ob.data=.seq vv n/\vv[0]?=some (f (k0+i))) ->
     PySem.W.KatTups h' us ((aa3 us.length).map λi=>f (k0+i)):=by
    intro us;induction us with
    |nil=>intro f k0 _;exact trivial
    |cons u us ih=>
     intro f k0 hh;obtain⟨a,ob,vv,n,e1,e2,e3,e4,e5⟩:=hh 0 #[0];have Rt:u=.ref a:=by simpa using e1
     subst Rt;rw[aay,List.range_succ_eq_map,aaw,aax];refine#[#[a,ob,vv,n,rfl,e2,e3,e4,e5],?_];have:=ih f (k0+1) λi hi=>by obtain⟨a,ob,vv,n,e1,e2,e3,e4,e5⟩:=hh (i+1) (by simpa using hi);exact#[a,ob,vv,n,by simpa using e1,e2,e3,e4,by rw[show k0+1+i=k0+(i+1)by omega];exact e5]
     have ef:(λi=>f (k0+i)) ∘ Nat.succ=λi=>f (k0+1+i):=by funext i;show f (k0+(i+1))=f (k0+1+i);rw[show k0+(i+1)=k0+1+i by omega]
     rw[ef];exact this
   have:=go eQ (λi=>match eQ.getD i abP with|.ref a=>(match h'.get? a with|some ob=>(match ob.data with|.seq vv _=>(vv[0]?).getD .none|_=>.none)|none=>.none)|_=>.none) 0 λi hi=>by obtain⟨a,ob,vv,x,t,n,e1,e2,e3,e4,e5,_⟩:=rowAt i hi;refine#[a,ob,vv,n,e1,e2,e3,e4,?_];rw[aaG,e1,e5];simp only[e2,e4,e5];rfl
   simpa using this
  refine PySem.W.kat_kind (T:=.type "str") FF (by rw[aad,ack];omega) (λv hv=>?_) rfl ?_
  .obtain⟨i,hi,rfl⟩:=List.mem_map.mp hv;obtain⟨a,ob,vv,x,t,n,e1,e2,e3,e4,e5,_⟩:=rowAt i (List.mem_range.mp hi);rw[e1];simp only[e2,e4,e5];exact PySem.W.Looks.of_pure rfl
  .-- the questions
   have hT:((abM "str") != (abM "tuple"))=true:=by decide
   rw[hT];let lt:Nat->Nat->Bool:=λi j=>decide (Bv (nm.getD i #[#v[]]) (nm.getD j #[#v[]]));have Rx:∀i j,i<eQ.length->j<eQ.length->(nm.getD i #[#v[]]).cps.toList=(nm.getD j #[#v[]]).cps.toList->i=j:=λi j hi hj e=>by
    have Fk:i<nm.length:=by rw[<- R.len];omega
    have E2:j<nm.length:=by rw[<- R.len];omega
    have e':nm.getD i #[#v[]]=nm.getD j #[#v[]]:=by generalize nm.getD i #[#v[]]=x at e ⊢;generalize nm.getD j #[#v[]]=y at e ⊢;obtain⟨x⟩:=x;obtain⟨y⟩:=y;exact congrArg Str.mk (Array.toList_inj.mp e)
    rw[aau,aau,aab Fk,aab E2]at e';exact(abk R.nd).mp e'
   have o:Srt.Ord lt eQ.length:=by
    refine#[λi _=>?_,λi j k _ _ _ a b=>?_,λi j hi hj ne e=>?_]
    .show decide _=false;simp[Bv,adJ]
    .have a':=of_decide_eq_true a;have b':=of_decide_eq_true b;exact decide_eq_true (List.lt_trans (show _<_ from a') b')
    .have e':=of_decide_eq_false e;refine decide_eq_true ?_;unfold Bv at e' ⊢;rcases aaS 0 0 with z|_
     .omega
     .have le:=List.not_lt.mp e';rcases List.le_iff_lt_or_eq.mp le with z|z
      .exact z
      .exact absurd (Rx j i hj hi z).symm ne
   refine Srt.pw_wp (lt:=lt) (n:=eQ.length) (Q:=λp=>Srt.Pm p eQ.length/\Srt.Jv lt p eQ.length) (J:=λs'=>s'={s with heap:=h'}) ?_ ?_ (PySem.W.kas_sort eQ.length) _ rfl (Srt.oQ o #[] λp a b=>#[a,b])
   .rintro i j C s' hi hj ne rfl hC;obtain⟨a,ob,vv,x,t,n,e1,e2,e3,e4,e5,e6,_⟩:=rowAt i hi;obtain⟨a',ob',Mx,x',t',n',f1,f2,f3,f4,f5,f6,_⟩:=rowAt j hj;show wpAny _ _ (keyLt' (afn true) (eQ.getD i abP) (eQ.getD j abP)) _ _ _;rw[e1,f1];refine PySem.W.kat_lt e2 e4 f2 f4 ?_;have g1:vv.toList=.str x t::vv.toList.tail:=by
     cases h:vv.toList with
     |nil=>
          have:vv[0]?=vv.toList[0]?:=by simp
          rw[this,h]at e5;cases e5
     |cons y r=>
            have:vv[0]?=vv.toList[0]?:=by simp
            rw[this,h]at e5;have:y=.str x t:=by simpa using e5
            rw[this];rfl
    have g2:Mx.toList=.str x' t'::Mx.toList.tail:=by
     cases h:Mx.toList with
     |nil=>
          have:Mx[0]?=Mx.toList[0]?:=by simp
          rw[this,h]at f5;cases f5
     |cons y r=>
            have:Mx[0]?=Mx.toList[0]?:=by simp
            rw[this,h]at f5;have:y=.str x' t':=by simpa using f5
            rw[this];rfl
    rw[g1,g2,abb];have d1:nm.getD i #[#v[]]=x:=by rw[aau,e6];rfl
    have d2:nm.getD j #[#v[]]=x':=by rw[aau,f6];rfl
    have C5:x≠x':=λz=>ne (Rx i j hi hj (by rw[d1,d2,z]));refine PySem.W.kat_cons (ae9 ?_);rw[decide_eq_false C5];refine PySem.W.kat_no ?_;show wpAny _ _ (oneLt' true (.str x t) (.str x' t')) _ _ _;refine oneLt_str ?_;have:=hC _ rfl;have el:lt i j=decide (x.cps.toList<x'.cps.toList):=by show decide (Bv _ _)=_;rw[d1,d2];rfl
    rw[el]at this;exact this
   .rintro pa s' rfl ⟨P,As⟩;refine PySem.W.KasFin.intro F' N' (.head λq hq=>?_) λKz c F2 N2=>?_
    .exact aap (hD q hq)
    .have Qv:∀b o,b≠X.env.locals->s.heap.get? b=some o->Kz.get? b=some o:=λb o hb e=>by
      cases q:X.base.get? b with
      |some ob=>have:=I.bk b ob q;rw[e]at this;cases this;exact F2.keep b _ q
      |none=>exact(N2 (b,o) (aaq _ (dX hb q e))).1
     have UO:=(N2 _ aaz)
     have Rh:s.heap.get? D=none:=by
      cases q:s.heap.get? D with
      |none=>rfl
      |some od=>exact absurd (Zd D od UO.2.1 UO.2.2 q) (abY _)
     have QX:∀i∈pa.toList,i<vs.length:=λi hi=>by obtain⟨j,hj,rfl⟩:=Array.mem_iff_getElem.mp (Array.mem_toList_iff.mp hi);have:=P.lt j (by rw[<- P.sz];exact hj);rw[Srt.aL]at this;simp only[abW hj,ad5]at this;omega
     have q:=k D pa.toList (I.Bc.dead Rh) (by rw[aaE,P.sz];omega) ?_ QX ?_
     .refine#[_,rfl,aae #[_,rfl,.ref D,_,I.Qt (xs:=pa.toList.map λi=>vs.getD i .AZ) F.ns F2.ns Qv Rh #[?_,pa.toList.map λi=>eQ.getD i abP,c,rv.pick _ QX,UO.1],rfl,q]];rw[aad,aaE,P.sz];exact hz
     .rw[ab7,acf];intro i j hi hj EI e;have Fk:i<pa.size:=by simpa using hi
      have E2:j<pa.size:=by simpa using hj
      have:=P.nd i j (by rw[<- P.sz];exact Fk) (by rw[<- P.sz];exact E2) (by rw[Srt.aL,Srt.aL];simpa[Fk,E2]using e);omega
     .rw[aeY,acf];intro i j hi hj EI;have Fk:i<pa.size:=by simpa using hi
      have E2:j<pa.size:=by simpa using hj
      have:=As i j EI (by rw[<- P.sz];exact E2);rw[Srt.aL,Srt.aL]at this;have:=of_decide_eq_true this;simpa[Fk,E2]using this
def qE:Bd X (.builtin "sorted") (MW X.K):=by intro pins s U H xs us Q I r h;obtain⟨p,vs,nm,rfl,hq,Gg,R,k⟩:=h;obtain⟨u,rfl,ru⟩:=r.one;cases ru;obtain⟨eQ,rv,pl,hz⟩:=I.list hq;refine rg (λR' g=>collect_list pl.isList (g _ s.toks λb o e=>?_) (by rw[<- rv.length];exact hz)) λh1 tk kk=>tS (I.kept kk) rv (by rw[<- rv.length];exact hz) Gg R k;have hb  := aah e;rw[acO _ _ _ _ (aap hb)];exact aac _ e
section
open PySem.SeqAt
open PySem.AutoSeq1 (wpAny_loadPart')
open PySem.MeetsSeq PySem.MeetsSeq2 PySem.MeetsSeq3
end
def HJ(K:aag):R2:=λx y H Q=>∃a b xs,x=.ref a/\y=.ref b/\Cr K H a xs/\Cr K H b []/\Q (.bl (!xs.isEmpty)) H
def na(hu:X.A.units<cLine):BX X (aa1 .NotEq) (HJ X.K):=by
 intro pins s U H x y v u Q I rx ry h;obtain⟨a,b,xs,rfl,rfl,ha,hb,q⟩:=h;cases rx;cases ry;obtain⟨eQ,r1,p1,_⟩:=I.list ha;obtain⟨BO,r2,p2,_⟩:=I.list hb;cases r2;have fin:∀k,k=(!xs.isEmpty)->EP X pins U Q (.bool k) s:=λk e=>by subst e;exact#[.bl _,H,I,rfl,q]
 cases r1 with
 |nil=>exact SeqAt.RcNeAt.lists (e:=λ_=>true) p1.isList p2.isList rfl hu (λj h1 h2=>absurd h1 #[0]) X.prog X.w X.xe _ (fin _ rfl)
 |cons _ _=>exact afH p1.isList p2.isList #[0] hu X.prog X.w X.xe _ (fin _ rfl)
noncomputable def Gx(x:Str)(n:Nat):Str:=#[(aaR n x.cps.toList).flatten.toArray]
def LK:R2:=λx y H Q=>∃(z:Str) (i:Int),x=.str z/\y=.int i/\0<=i/\i<=1000/\z.length<=1000/\Q (.str (Gx z i.toNat)) H
def lN(x:Array Nat):∀(n:Nat) (acc:Array Nat),((aaR n x).foldl (·++·) acc)=acc++(aaR n x.toList).flatten.toArray
 |0,acc=>by simp
 |n+1,acc=>by rw[ads,ac2,lN x n,ads];apply Array.toList_inj.mp;simp
theorem vR(x:Str)(i:Int)(h:0<=i):Txt.mul x i=Gx x i.toNat:=by
 unfold Txt.mul Gx;by_cases h1:i<1
 .have:i=0:=by omega
  subst this;rfl
 .rw[if_neg h1];by_cases h2:(i==1 || x.length==0)=true
  .rw[if_pos h2];rw[ael]at h2;obtain⟨x⟩:=x;rcases h2 with z|z
   .have  :=by simpa using z
    subst this;simp
   .have hz:x.size=0:=by simpa[Str.length]using z
    have  := Array.eq_empty_of_size_eq_zero hz;subst this;simp
  .rw[if_neg h2,lN];simp
theorem wP:BX X (acg .Mult) LK:=by
 intro pins s U H x y v u Q I rx ry h;obtain⟨z,i,rfl,rfl,h0,h1,h2,q⟩:=h;obtain⟨t,rfl⟩:=rx;obtain⟨t',rfl⟩:=ry;refine SB.mul #[?_,λ_ _ hh=>?_,λ_ _=>?_] λt2 k=>?_
 .rw[decide_eq_false #[],decide_eq_false #[]];rfl
 .have:(2 ^ 63 - 1) / i ≥ 2 ^ 50:=by apply (Int.le_ediv_iff_mul_le #[]).mpr;omega
  omega
 .have:z.length*i.toNat<=1000*1000:=Nat.mul_le_mul h2 #[];refine decide_eq_false ?_;rw[aaJ];omega
 .rw[vR z i h0];exact#[.str _,H,I.tok k,#[_,rfl],q]
def Qa(K:aag):Aag->Hp->VK->Prop:=λxs H Q=>∃x t c b,xs=[x,.ty c]/\EE K H x t/\aeq K t (.type c)=some b/\Q (.bl b) H
def vn:Bd X (.builtin "isinstance") (Qa X.K):=by
 intro pins s U H xs us Q I r h;obtain⟨x,t,c,b,rfl,ty,e,q⟩:=h;cases r with
 |cons r1 r2=>
  cases r2 with
  |cons r2 r3=>cases r3;cases r2;exact sD I r1 ty e λtk=>#[.bl b,H,I.tok tk,rfl,q]
def SW(wi:TI)(g:TG)(tc:TT)(tk te:TE)(js:Aae):TE:=λU H Q=>wi U H λJ H1=>∀l,H1 l=none ->
 ∃W:Nat->Nat->List (Key×V)->Hp->Prop,(∃m,W 0 m [] (upd H1 l (.dK [])))/\∀i m ys H2,W i m ys H2 ->
  (J.stop i H2/\Q (.ref l) H2)\/(J.go i H2/\∀x H3,J.yld i H2 x H3->g x (BR js U) H3 λsb H4=>tc sb H4 λb H5=>if b=true then tk sb H5 λkk H6=>te sb H6 λy H7=>∃key,kk=kV key/\H7 l=some (.dK ys)/\ys.length<sizeLine/\∃m',m'<m/\W (i+1) m' (putK ys key y) (upd H7 l (.dK (putK ys key y)))else ∃m',m'<m/\W (i+1) m' ys H5)
variable{tg kx vx iter:Expr}{ifs:Aai}{scope:Scope}{pos:Pos}{wi:TI}{g:TG}{tc:TT}{tk te:TE}{N:A3}{js:Aae}
variable{use:Option (Value->Sem Unit)}{QQ:Aaa}{pos':Pos}
theorem pK{Q:VK}(hc:X.calm=true)(hx:X.xe=λ_ _=>False)(hi:PI X tg iter wi)
  (hg:∀C s0 H0 ex pn,PG #[5] tg g) (ht:∀C s0 H0 ex pn,PF #[5] ifs tc) (hk:∀C s0 H0 ex pn,PE #[5] kx tk) (he:∀C s0 H0 ex pn,PE #[5] vx te) (Hi:C2 js g)
  (C3:Dm X.env scope=true) (Bq:Ce X.N scope N js=true) (Bg:scope.kind=.function) (hs:∀x,aaB iter X.env x=pure x)
  (I:Inv X pins U H s) (h:SW wi g tc tk te js U H Q)
  (fin:∀(l C:Addr) (H':Hp) (s':Shared),Inv X pins U H' s'->Q (.ref l) H'->H' C=none->C≠X.env.locals->X.s0.heap.objs.size<=C->(∀x c,X.env.cells.lookup x=some c->c≠C)->(∀p∈X.pn++pins,p.1≠C)->(∃m,s'.heap.Ns C m)->afh #[6] X.A E use QQ (.ref l) C (.ok .next) s') :
  wpAny #[6] X.A (aeF (.DictComp kx vx [#[tg,iter,ifs,0]] scope pos) scope X.env pos' newDict false (eval iter X.env) use) QQ E s:=by
 refine jd (γ:=List (Key×V)) (z0:=[]) (u0:=.dK []) (o0:={cls:=.type "dict",data:=.dict #v[]}) (em:=QG ifs λacc env=>eval kx env >>= λkv=>adp [kv] (eval vx env) >>= λvv=>aec {line:=kx.pos.line,col:=kx.pos.col,endLine:=vx.pos.endLine,endCol:=vx.pos.endCol} >>= λ_=>adp [kv,vv] (dictSet acc kv vv)) (ev:=U3 tc λl ys U H k=>tk U H λkk H6=>te U H6 λy H7=>∃key,kk=kV key/\H7 l=some (.dK ys)/\ys.length<sizeLine/\k (putK ys key y) (upd H7 l (.dK (putK ys key y)))) rfl
  (λq=>aaa (wpAny_alloc (aae q))) (λ_ _ _ s I=>jc s.heap I.RA) (λ_ _ _ _ _=>rfl) (λ_ _ _ _=>rfl) (λ_ _ _=>by rw[compTurn_dict];simp only[<- lK];rfl) codeAny_compStart_dict hc hx hi hg (λC s0 H0 ex pn=>tu (ht _ _ _ _ _) λpins s U H l ys k I q=>?_) Hi C3 Bq Bg hs I h fin
 refine aaa (Bt (hk C s0 H0 ex pn _ s U H _ I q) λkv Og #[kk,N7,N6,Te,XF]=>?_);refine aaa (aaX (Bt (he C s0 H0 ex pn _ Og U N7 _ N6 XF) λvv V0 #[yv,OK,N5,XD,key,ek,Sw,z11,SH]=>?_));subst ek;refine aaa (aco (aaX ?_));obtain⟨zz,hd,vs,rel,dd⟩:=mJ N5.Bc Sw;have hz:vs.length<=sizeLine:=by rw[<- rel.length];exact zz
 have hl:(putK ys key yv).length<=sizeLine:=by have:=ci ys key yv;omega
 refine aet (hsz:=hz) (fM Te) dd λh' KC hs=>?_;have he:∃q,h'.get? l=some q:=let #[q,_,_,hq,_]:=KC;#[q,hq]
 exact#[_,_,ia (t':=V0.toks+1) N5 (by rw[Sw];exact acv) hs he (nQ hl hd (rel.put key XD) KC),SH]
def Ax(hi:PI X tg iter wi)(hg:∀C s0 H0 ex pn,PG #[5] tg g)(ht:∀C s0 H0 ex pn,PF #[5] ifs tc)(hk:∀C s0 H0 ex pn,PE #[5] kx tk)(he:∀C s0 H0 ex pn,PE #[5] vx te)(Hi:C2 js g)
  (hc:autoParam (X.calm=true) At) (hx:autoParam (X.xe=(λ_ _=>False)) At) (C3:autoParam (Dm X.env scope=true) At) (Bq:autoParam (Ce X.N scope N js=true) At) (Bg:autoParam (scope.kind=.function) At) (hs:autoParam (∀x,aaB iter X.env x=pure x) AT) :
  PE X (.DictComp kx vx [#[tg,iter,ifs,0]] scope pos) (SW wi g tc tk te js):=by
 intro pins s U H Q I h;refine pK hc hx hi hg ht hk he Hi C3 Bq Bg hs I h λl C H' s' I' q f0 f1 f2 f3 f4 #[m,hm]=>?_;refine#[m,hm,λh' sb=>#[.ref l,H',?_,rfl,q]];exact I'.turned (λb o hb e=>sb.extBut b o hb e) f0 f1 (.inr f2) f3 f4
variable{i:Nat}{y:Str}{py:Pos}
def Au{BM:Pos}(hN:X.N.Nodup)(hy:X.N[i]?=some y)(hl:X.env.scope.names.lookup y=some .local)(hi:PI X tg iter wi)(hg:∀C s0 H0 ex pn,PG #[5] tg g)(ht:∀C s0 H0 ex pn,PF #[5] ifs tc)(hk:∀C s0 H0 ex pn,PE #[5] kx tk)(he:∀C s0 H0 ex pn,PE #[5] vx te)(Hi:C2 js g)
  (JZ:autoParam (ab3 (.DictComp kx vx [#[tg,iter,ifs,0]] scope pos) (some (.Name y py)) BM.line X.env=pure true) At)
  (hc:autoParam (X.calm=true) At) (hx:autoParam (X.xe=(λ_ _=>False)) At) (C3:autoParam (Dm X.env scope=true) At) (Bq:autoParam (Ce X.N scope N js=true) At) (Bg:autoParam (scope.kind=.function) At) (hs:autoParam (∀x,aaB iter X.env x=pure x) AT) :
  PS X (.Assign [.Name y py] (.DictComp kx vx [#[tg,iter,ifs,0]] scope pos) BM) (FG (SW wi g tc tk te js) (By i)):=by
 intro pins s U H D I h;rw[exec_Assign_Name_used _ _ _ _ JZ];refine aaa (aco (aaa ?_));refine aaa (aa5 (pK hc hx hi hg ht hk he Hi C3 Bq Bg hs I h λl C H' s' I' q f0 f1 f2 f3 f4 #[m,hm]=>?_) (λ_ s' hq=>aae (aae hq)) λ_ _ e=>e);refine aeR (gh I' hN hy (.inl hl) (v:=.ref l) rfl (λPN Vt #[a,sb,ha]=>?_) (.inr hl));have UI:C≠a:=by
  rcases ha with rfl|ha
  .exact f1
  .exact λz=>f3 _ _ ha z.symm
 refine#[m,hm.sameBut sb UI,λh' S4=>#[_,H',?_,q]];exact Vt.turned (λb o hb e=>S4.extBut b o hb e) f0 f1 (.inr f2) f3 f4
def ed:∀{bs:List Bool} {us:Aad},oF (bs.map V.bl) us->LSm.BoolsAre us bs
 |[],_,r=>by cases r;exact .nil
 |b::bs,_,r=>by
  cases r with
  |cons r1 r2=>cases r1;exact .cons b (ed r2)
def vq(hc:X.calm=true):Bd X (.builtin "all") (λxs H Q=>∃(p:Addr) (bs:List Bool),xs=[.ref p]/\Cr X.K H p (bs.map V.bl)/\Q (.bl (bs.all id)) H):=by
 intro pins s U H xs us Q I r h;obtain⟨p,bs,rfl,hq,q⟩:=h;obtain⟨u,rfl,ru⟩:=r.one;cases ru;obtain⟨eQ,rv,pl,hz⟩:=I.list hq;have hb:=ed rv;have hl:=pl.isList;have BU:p<s.heap.objs.size:=by obtain⟨_,e,_⟩:=hl;exact aah e
 refine call_all_walk (ach hl #[s.heap.objs.size,_,_,eQ.toArray.size,_,_,λi=>(bs[i]?).getD true,rfl,
  Walks.list (A:=X.A.in1) (I.ok.hd hc) _ p (aap BU) eQ.toArray,#[#[_,aaf _ rfl,rfl,rfl],hl.push _],λi v s' Q' E' hP hQ=>?_,λh' tk hk=>?_])
 .obtain⟨b,eb,rfl⟩:=hb.get i v #[1];simp only[eb]at hQ;exact ab2 hQ
 .have eb:((aa3 eQ.toArray.size).all λi=>(bs[i]?).getD true)=bs.all id:=by rw[aak,hb.length,LSm.range_all bs]
  rw[eb];exact#[.bl _,H,I.kept (LSm.kept_iter hk),rfl,q]
variable{j t:Addr}{n:Nat}
def ph{eQ:Aak}(gj:s.heap.IsTupleIter j t n)(gt:s.heap.IsTuple t eQ)(gx:eQ[n]?=some x)
  (k:∀h',h'.IsTupleIter j t (n+1)->ab1 j s.heap h'->Q x {s with heap:=h'}):wpAny #[9] A (aaU (.ref j)) Q E s:=by
 obtain⟨oj,j1,j2,j3⟩:=id gj;obtain⟨ot,t1,_,m,t3⟩:=gt;refine aaa (aa4 gj.typeIs acJ (aaT acJ gj.typeIs afE ?_ (afj _)));show wpAny _ _ (field _ 0 >>= _) _ _ s;refine aaa (abf j1 j3 rfl ?_);refine aaa (abf j1 j3 rfl ?_);refine aaa (abw t1 t3 ?_);simp only[acI,gx];refine aaa (ab0 j1 j3 #[0] (aae #[x,rfl,aae (k _ #[_,abn _ j1 (acd (aa6 j3 _)),(adb ..).trans j2,?_] (abi ..))]));rw[aa6 j3];simp[rawInt]
def Ia{eQ:Aak}(hh:A.handled=none)(gj:s.heap.IsTupleIter j t n)(gt:s.heap.IsTuple t eQ)(gx:eQ[n]?=none)
  (k:∀h' e,ad1 j s.heap h'->(∃o,h'.get? e=some o/\o.cls=.type "StopIteration")->E (.ref e) {s with heap:=h'}):wpAny #[9] A (aaU (.ref j)) Q E s:=by
 obtain⟨oj,j1,j2,j3⟩:=id gj;obtain⟨ot,t1,_,m,t3⟩:=gt;unfold aaU;refine aaa (aa4 gj.typeIs acJ (aaT acJ gj.typeIs afE ?_ (afj _)));show wpAny _ _ (field (.ref j) 0 >>= _) _ _ s;refine aaa (abf j1 j3 (x:=.ref t) rfl ?_);refine aaa (abf j1 j3 rfl ?_);refine aaa (abw t1 t3 ?_);simp only[acI,gx];refine aaa (act (aaa (ab0 j1 j3 #[0] ?_)));refine aaa ?_;refine aaa (aaZ (aaa (m:=firstArgMember _ _) (afl (a:=abP) (rfl) (aaZ ?_ (by size_fits)))) (by size_fits));refine aaa (wpAny_handled ?_)
 first|rw[hh]|rw[hh]
 exact aaa (aae (wpAny_throw (k _ _ (((abi ..).extBut.push _).push _) #[_,aaf _ rfl,rfl])))
structure Z6(h:Heap)(z u o i1 i2 t1 t2:Addr)(n:Nat):Prop where
 zz:IsZip h z u o .none
 uu:IsPair h u (.ref i1) (.ref i2)
 oo:∃a b,IsPair h o a b
 a1:h.IsTupleIter i1 t1 n
 a2:h.IsTupleIter i2 t2 n
structure Lv(z u o i1 i2:Addr):Prop where
 uz:u≠z
 oz:o≠z
 x1z:i1≠z
 x2z:i2≠z
 uo:u≠o
 u1:u≠i1
 u2:u≠i2
 o1:o≠i1
 o2:o≠i2
 xx:i1≠i2
def Pg{eQ:Aak}(x:h.IsTuple a eQ)(k:∀o,h.get? a=some o->h'.get? a=some o):h'.IsTuple a eQ:=by obtain⟨o,e,r⟩:=x;exact#[o,k o e,r]
variable{z u:Addr}{v:Value}
def p0{o:Addr}{eQ:Aak}(x:h.IsTuple t eQ)(y:IsZip h z u o v):t≠z:=by rintro rfl;obtain⟨q,e,c,_⟩:=x;rw[y]at e;cases e;simp at c
variable{t':Nat}{fp:Aaj}
def Inv.CI(I:Inv X pins U H s)(k:∀b o,b∉fp->s.heap.get? b=some o->h'.get? b=some o)(hf:∀b∈fp,DL X pins H b):Inv X pins U H {s with heap:=h',toks:=t'}:=by
 have Qm:∀b u,H b=some u->b∉fp:=λb u e z=>by rw[(hf b z).1]at e;cases e
 refine I.step (λb hb=>?_) (λb o _ _ hc e _=>k b o hc e) (λb o _ _ hc e _=>#[o.slots,k b o hc e]) (λ_ _ _ _ n=>n)
  (λb o hc e=>#[o,k b o hc e]) (λ_ _ e=>e) (λ_ _ _ e=>e) (λb ps e=>#[#v[],#[1]]) (λm hm=>?_) (λb u e=>?_) I.bare
 .obtain⟨f0,f1,f2,f3,f4,f5⟩:=hf b hb;exact#[f3,f1,f4,f5]
 .obtain⟨o,es,ep,ho,r⟩:=hm;exact#[o,es,ep,k _ o (λz=>(hf _ z).2.1 rfl) ho,r]
 .refine(I.Bc b u e).G7 (λc v hc q=>k c v ?_ q) (λ_ q=>q) λ_ _ q=>q;rcases hc with z|z
  .rw[z];exact Qm b u e
  .exact Qm c _ z
theorem U2(n:Nat):Lv (n+4) (n+2) (n+3) n (n+1) :=
 #[show ¬ (n+2=n+4)by omega,show ¬ (n+3=n+4)by omega,show ¬ (n=n+4)by omega,show ¬ (n+1=n+4)by omega,show ¬ (n+2=n+3)by omega,show ¬ (n+2=n)by omega,show ¬ (n+2=n+1)by omega,show ¬ (n+3=n)by omega,show ¬ (n+3=n+1)by omega,show ¬ (n=n+1)by omega]
def ik{sl:Addr}{eQ:Aak}{vl vu:Value}{lo hi:Option Int}(g:IsTup s.heap t eQ)(hs:s.heap.IsSliceOf sl vl vu .none)(pl:IsPart vl lo)(pu:IsPart vu hi)
  (hw:HT.Ca eQ.size 0 lo=0/\HT.Ca eQ.size eQ.size hi=eQ.size) (k:Q (.ref t) s):wpAny #[9] A (adH (.ref t) (.ref sl)) Q E s:=by
 obtain⟨q,q1,q2,q3⟩:=id hs;have ty:s.TypeIs (.ref sl) "slice" := #[q,q1,q2]
 unfold adH;try with_reducible refine aaX ?_
 first|refine aaa (aae ?_)|skip
 refine aaa (aeQ g.typeIs #[2] (aaa (aa4 (name:=aao "__getitem__") g.typeIs aby (aaT aby g.typeIs aev ?_ (aeH _ _)))));refine aaa (m:=adz (.ref t)) (tupleItemsOf_ g (aaa (acn ty ?_)));rw[if_pos #[2]];refine aaa (HT.CV hs pl pu ?_);show wpAny _ _ (if (((HT.Ca eQ.size 0 lo:Nat):Int)==0 && (1:Int)==1 && (HT.Ca eQ.size eQ.size hi - HT.Ca eQ.size 0 lo)==eQ.size)=true then _ else _) _ _ s;rw[if_pos (by rw[hw.1,hw.2];simp)];refine aaa ?_;unfold Builtin.Tuple.tupleIsExact;refine aaa (acn g.typeIs (aae ?_));rw[if_pos #[2]];exact aaa (act (aae #[_,rfl,aae k]))
def S8(K:aag):V->Option Int->Option Int->Hp->VK->Prop:=λx lo hi H Q=>∃a xs,x=.ref a/\Cf K H a xs /\
 (HT.Ca xs.length 0 lo=0/\HT.Ca xs.length xs.length hi=xs.length->Q (.ref a) H)/\∀p,H p=none->Q (.ref p) (upd H p (.tup (Fu xs lo hi)))
def wc:KH X (S8 X.K):=by
 intro pins s U H x v vl vu lo hi sl Q I rx hs pl pu h;obtain⟨a,xs,rfl,hx,hq,q⟩:=h;by_cases hw:HT.Ca xs.length 0 lo=0/\HT.Ca xs.length xs.length hi=xs.length
 .cases rx;obtain⟨eQ,r,ht,hz⟩:=I.tuple hx;have hn:eQ.toArray.size=xs.length:=by exact r.length.symm
  refine#[_,_,PyProof.Rows.slot_tuple_getitem.lookup,ht.typeIs,ik ht hs pl pu #[1] #[.ref a,H,I,rfl,hq hw]]
 .exact yg pins s U H _ v vl vu lo hi sl Q I rx hs pl pu #[a,xs,rfl,hx,hw,q]
theorem p9(hc:wpAny #[9] A.in1 (collect x) (λvs s1=>∃(ss:A3) (h1:Heap) (tk:Nat),s1={s with heap:=h1,toks:=tk}/\acp vs ss/\vs.length<64 /\
   (∀(h2:Heap) (out:Aad) (EL:A3) (n:Nat),(∀b o,h1.get? b=some o->h2.get? b=some o)->h2.get? h1.objs.size=some (seqObj "list" out.toArray n)->acp out EL->EL.Perm ss->sortedS EL=true->Q (.ref h1.objs.size) {s with heap:=h2,toks:=tk})) E s) :
  wpAny #[9] A (call (.builtin "sorted") [x]) Q E s:=by
 refine acM afr ae3 ae4 (ae5 _) ?_;unfold acP.«sorted»;refine aaa (m:=checkCount "sorted" 1 1 _) (aae (aaa (aa5 hc (λvs s1 hv=>?_) λ_ _ e=>e)));obtain⟨ss,h1,tk,rfl,hS,Gg,k⟩:=hv;refine aaa (acV ?_ (by rw[aaJ];omega));have NV:(h1.push (seqObj "list" vs.toArray 0)).get? h1.objs.size=some (seqObj "list" vs.toArray 0):=aaf _ rfl;refine aaa (aaX (aaT adG #[_,NV,rfl] adq (list_sort_treeK strKind_oneLt NV hS.keysOf (λv1 v2 rest e=>keyKind_strs (by rw[<- e];exact hS)) Gg λst p q=>#[_,rfl,?_]) (adI _)));obtain⟨EL,b1,b2,b3⟩:=sorted_out_str hS p q;obtain⟨n,at2⟩:=sortedHeap_at (out:=(arrOf st).map (·.2)) NV;refine aae #[_,rfl,k _ ((arrOf st).map (·.2)).toList EL n (λb o e=>?_) (by rw[Array.toArray_toList];exact at2) b1 b2 b3];have lt:=aah e;rw[sortedHeap_old (aap lt) (by rw[size_push'];exact abG lt)];exact aac _ e
def nG:∀{gE:List (Key×Value)} {ss:A3} {vs:Aad},gE.map (·.1)=ss.map aav->vs.length=gE.length->(∀(j:Nat) (v:Value),vs[j]?=some v->∃k x,gE[j]?=some (k,x)/\(ay P w).is k v=true)->acp vs ss
 |[],ss,vs,e,hl,_=>by
  have:ss=[]:=by simp_all
  subst this;have  := List.length_eq_zero_iff.mp hl;subst this;exact .nil
 |(k,x)::r,ss,vs,e,hl,h=>by
  cases ss with
  |nil=>cases e
  |cons y ys=>
   cases vs with
   |nil=>cases hl
   |cons v us=>injection e with e1 e2;obtain⟨k',x',e3,e4⟩:=h 0 v rfl;have Zw  := aar e3;cases Zw;have Rt  := e1;subst Rt;obtain⟨t,rfl⟩:=aex e4;exact .cons y t (nG e2 #[1] λj u hj=>h (j+1) u hj)
def MY:Aag->Hp->VK->Prop:=λxs H Q=>∃(d:Addr) (gE:List (Key×V)) (ss:A3),xs=[.ref d]/\H d=some (.dK gE)/\gE.map (·.1)=ss.map aav/\ss.length<64 /\
 ∀(l:Addr) (EL:A3),H l=none->EL.Perm ss->EL.Pairwise (λa b=>¬ Bv b a)->Q (.ref l) (upd H l (.lst (EL.map V.str)))
theorem qG(hc:X.calm=true):Bd X (.builtin "sorted") MY:=by
 intro pins s U H xs us Q I r h;obtain⟨d,gE,ss,rfl,hd,hk,Gg,k⟩:=h;obtain⟨u,rfl,ru⟩:=r.one;cases ru;obtain⟨hz,lo,vs,Yz,hD⟩:=I.Bc d _ hd;obtain⟨ep,YY⟩:=hD.dictAt;have Ma:vs.map (·.1)=ss.map aav:=by rw[<- hk];exact Yz.keys.symm
 have hlen  :=by have:=congrArg acD Ma;simpa using this
 refine p9 (PySem.W.kdu_collect (PySem.W.kdl_dict lo) (I.ok.hd hc) YY (by rw[aaJ];omega) λh1 tk acc kk hit=>?_);have hl:acc.toList.length=vs.length:=by exact hit.1
 have hS  := nG Ma hl λj v e=>hit.2 j v #[1];refine#[ss,h1,tk,rfl,hS,#[1],λh2 out EL n k2 e2 o1 o2 o3=>?_];have I1:Inv X pins U H {s with heap:=h1,toks:=tk}:=I.kept kk;refine#[.ref h1.objs.size,_,I1.laid (λb o q=>k2 b o q) (aai _) ?_,rfl,k _ EL (I1.Bc.fresh (aai _)) o2 (dQ o3)];exact#[by rw[aad,o2.length_eq,aaJ];omega,out,n,dA o1,e2]
noncomputable def FI(P:aaC)(w:World)(a:Addr)(S:Str->Bool)(n:Nat):HO:=.ext λh=>h.SetOf (aeI P w) a S n
def tX{S:Str->Bool}(x:h.SetOf (aeI P w) a S n)(k:∀o,h.get? a=some o->h'.get? a=some o):h'.SetOf (aeI P w) a S n:=by obtain⟨o,es,ep,t,e,r⟩:=x;exact#[o,es,ep,t,k o e,r]
def setOk{S:Str->Bool}(x:h.SetOf (aeI P w) a S n):Bm P w H h a (FI P w a S n) :=
 #[x,(by obtain⟨o,_,_,_,e,_⟩:=x;exact#[o,e]),λh1 h2 y k=>tX y k]
def tF:Bd X (.type "set") (λxs H Q=>xs=[]/\∀p,H p=none->Q (.ref p) (upd H p (FI X.prog X.w p (λ_=>false) 0))):=by
 intro pins s U H xs us Q I r h;obtain⟨rfl,q⟩:=h;cases r;refine call_set_0 λled=>#[.ref s.heap.objs.size,_,I.laid (λb o e=>aac _ e) (aai _) (setOk ?_),rfl,q _ (I.Bc.fresh (aai _))]
 exact#[_,#v[],0,_,aaf _ rfl,#[rfl,rfl,rfl],rfl,λe he=>#[1],λk=>#[0],#[2],#[4],rfl]
def rT:BX X (aa1 .NotIn) (λx y H Q=>∃z a S n,x=.str z/\y=.ref a/\H a=some (FI X.prog X.w a S n)/\Q (.bl (!S z)) H):=by intro pins s U H x y v u Q I rx ry h;obtain⟨z,a,S,n,rfl,rfl,ha,q⟩:=h;obtain⟨t,rfl⟩:=rx;cases ry;obtain⟨x,_,_⟩:=I.Bc a _ ha;exact wpAny_notInSet_of (aem _ _ _ _) rfl x #[.bl _,H,I.tok _,rfl,q]
def vW(P:aaC)(w:World)(to:TE)(t:TA):TE:=λU H Q=>to U H λx H1=>∃a S n,x=.ref a/\H1 a=some (FI P w a S n)/\t U H1 λys H2=>∃k S2 n2,ys=[.str k]/\H2 a=some (FI P w a S2 n2)/\n2+1<scanBound /\
 Q .AZ (upd H2 a (FI P w a (λk'=>S2 k' || decide (k'=k)) (if S2 k then n2 else n2+1)))
variable{e:Expr}{to:TE}
def rJ{o:Expr}{t:TA}{apos Bs:Pos}(ho:PE X o to)(ha:PA X [e] t)
  (BI:autoParam (abT o "add" X.env (eval o X.env)=eval o X.env) At)
  (Fl:autoParam (((backTo Bs (aal [e] X.env)).all (λx=>!x.1) && (afi Bs (adX [] X.env)).all (λx=>x.1.isSome)
   && decide ([e].length+([]:List adv).length+(if ([]:List adv).isEmpty then 0 else 1)<30))=true) At)
  (BH:autoParam ((apos.endLine==Bs.line)=true) At) (hs:autoParam (aal [e] X.env=(false,eval e X.env)::aal [] X.env) At) (C4:autoParam ((backTo Bs (aal [] X.env)).any (·.1)=false) At) :
  PE X (.Call (.Attribute o "add" apos) [e] [] Bs) (vW X.prog X.w to t):=by
 refine λpins s U H Q I h=>wpAny_Call_method_late BI Fl BH rfl (Bt (ho pins s U H _ I h) λv s1 #[x,H1,I1,r1,a,S,n,e1,hS,q1]=>?_);subst e1;cases r1;obtain⟨xs,_,_⟩:=I1.Bc a _ hS;refine#[_,_,PySem.F.plainAttrs_set,PySem.F.slot_set_add,PySem.F.type_set_add,xs.typeIs,λc e=>xs.noDict c e,?_];have hA:=ha Bs pins s1 U H1 _ I1 q1;rw[hs]at hA ⊢;refine ac9 (rfl) (Calls.evalArgs_plain (Bt hA λus s2 #[vs,H2,I2,r2,k,S2,n2,e2,Sq,hn,q2]=>?_));subst e2;obtain⟨u,rfl,t,rfl⟩:=r2.one;obtain⟨ys,_,_⟩:=I2.Bc a _ Sq;refine call_set_add (aem _ _ _ _) rfl ys hn λh' sb La=>#[.AZ,_,I2.write (by rw[Sq];trivial) (.inl rfl) (λb o hb e=>sb.extBut _ _ hb e) ?_ (setOk La),rfl,q2]
 obtain⟨o,_,_,_,e,_⟩:=La;exact#[o,e]
noncomputable def Ff(x y:Str):Str:=if Bv y x then y else x
noncomputable def SA(x:Str):It:=#[λi _=>i<x.cps.size,λi H v H'=>H'=H/\∃c,x.cps[i]?=some c/\v=.str #[#v[c]],λi _=>x.cps.size<=i]
def fy(x:Str):adV x = "str_ascii_iterator" \/ adV x = "str_iterator" :=by
 unfold adV;split
 .exact .inl rfl
 .exact .inr rfl
variable{K:aag}
def tP(x:Str)(t:Tok)(it:Addr):Turn P w K tg (SA x) [it] it (λi h=>h.IsStrIter it (adV x) x t i) where
 mem:=by simp
 obj:=λi h st b hb=>by
  have e:b=it:=by simpa using hb
  subst e;obtain⟨o,e,c,d⟩:=st;exact#[o,e,λv z=>by rw[d]at z;cases z]
 keep:=λi h h' st k=>by obtain⟨o,e,r⟩:=st;exact#[o,k it #[0] o e,r]
 item:=by
  intro X hP hw hK hc i pins s U H E I hf st hg;subst hP hw hK;have Kv:i<x.cps.size:=hg;have hx:x.cps[i]?=some x.cps[i]:=by simp[Kv]
  obtain⟨f0,f1,f2,f3,f4,f5⟩:=hf it #[0];have fin:∀h',h'.IsStrIter it (adV x) x t (i+1)->ab1 it s.heap h'->∃u,some (aee #[#v[x.cps[i]]] s.toks)=some u /\
    wpAny #[6] X.A (acW tg (.ref it) u) (λ_ s2=>∃y H',Inv X pins U H' s2/\RelV y u/\(SA x).yld i H y H'/\s2.heap.IsStrIter it (adV x) x t (i+1)/\∀b∈[it],H' b=none) E _:=λh' FH sb=>by
   have I1:Inv X pins U H {s with heap:=h',toks:=s.toks+1}:=I.turned (λb o hb e=>(sb.2 b hb).trans e) f0 f1 f3 f4 f5;obtain⟨o,e,c,d⟩:=id FH;refine#[_,rfl,mI e c d (by rcases fy x with z|z<;>rw[z]<;>decide) #[.str #[#v[x.cps[i]]],H,I1,#[_,rfl],#[rfl,_,hx,rfl],FH,λb hb=>(hf b hb).1]]
  rcases fy x with z|z
  .rw[z]at st fin;exact wpAny_pyNext_ascii_item st hx λh' FH sb=>by simp_all
  .rw[z]at st fin;exact wpAny_pyNext_wide_item st hx λh' FH sb=>by simp_all
 done:=by
  intro X hP hw hK hc i pins s U H E I hf st hg;subst hP hw hK;have Kv:x.cps.size<=i:=hg;have hx:x.cps[i]?=none:=by simp[Kv]
  obtain⟨f0,f1,f2,f3,f4,f5⟩:=hf it #[0];rcases fy x with z|z
  .rw[z]at st;exact wpAny_pyNext_ascii_end (I.ok.hd hc) st hx λh' eb=>#[rfl,I.turned (t':=s.toks) (λb o hb e=>eb b o hb e) f0 f1 f3 f4 f5]
  .rw[z]at st;exact wpAny_pyNext_wide_end (I.ok.hd hc) st hx λh' eb=>#[rfl,I.turned (t':=s.toks) (λb o hb e=>eb b o hb e) f0 f1 f3 f4 f5]
 self:=λA i s Q E st h=>by
  obtain⟨o,e,c,d⟩:=st;rcases fy x with z|z
  .rw[z]at c;exact adL (T := "str_ascii_iterator") #[o,e,c] ae8 (aaT ae8 #[o,e,c] F.entry_str_ascii_iterator_iter (aae #[_,rfl, "str_ascii_iterator",_,#[o,e,c],F.slot_str_ascii_iterator_next.lookup,h]) (F.args_str_ascii_iterator_iter_1 _))
  .rw[z]at c;exact adL (T := "str_iterator") #[o,e,c] F.slot_str_iterator_iter (aaT F.slot_str_iterator_iter #[o,e,c] F.entry_str_iterator_iter (aae #[_,rfl, "str_iterator",_,#[o,e,c],F.slot_str_iterator_next.lookup,h]) (F.args_str_iterator_iter_1 _))
def TJ(tl:TE):TI:=λU H R=>tl U H λx H1=>∃z,x=.str z/\R (SA z) H1
def yn{l:Expr}{tl:TE}(hl:PE X l tl):PI X tg l (TJ tl):=by
 refine λpins s U H R I h=>Bt (hl pins s U H _ I h) λv s1 #[x,H1,I1,r1,q1]=>?_;obtain⟨z,rfl,q⟩:=q1;obtain⟨t,rfl⟩:=r1;refine wpAny_pyIter_strU #[s1.heap.objs.size,_,_,_,H1,rfl,I1.kept λb o e=>aac _ e,tP z t _,#[_,aaf _ rfl,rfl,rfl],λb hb=>?_,q];have e:b=s1.heap.objs.size:=by simp_all
 subst e;exact I1.GH (aai _) (I1.Bc.fresh (aai _))
def rX:BX X (aa1 .LtE) (λx y H Q=>∃i j,x=.str i/\y=.str j/\Q (.bl (!decide (j.cps.toList<i.cps.toList))) H):=by intro pins s U H x y v u Q I rx ry h;obtain⟨i,j,rfl,rfl,q⟩:=h;obtain⟨t,rfl⟩:=rx;obtain⟨t',rfl⟩:=ry;exact PySem.P.le_str #[.bl _,H,I,rfl,q]
def LO(K:aag):R2:=λx y H Q=>∃a b xs ys,x=.ref a/\y=.ref b/\Cf K H a xs/\Cf K H b ys/\xs.length+ys.length<=sizeLine /\
 (xs=[]->Q (.ref b) H)/\(ys=[]->Q (.ref a) H)/\∀p,H p=none->Q (.ref p) (upd H p (.tup (xs++ys)))
def wQ:BX X (acg .Add) (LO X.K):=by
 intro pins s U H x y v u Q I rx ry h;obtain⟨a,b,xs,ys,rfl,rfl,ha,hb,hz,q0,q1,q2⟩:=h;by_cases hx:xs=[]
 .cases rx;cases ry;obtain⟨eQ,r1,p1,_⟩:=I.tuple ha;obtain⟨BO,r2,p2,_⟩:=I.tuple hb;subst hx;cases r1;obtain⟨⟨c1,d1,e1,l1⟩,g1,g2,n,g3⟩:=id p1;obtain⟨⟨c2,d2,e2,l2⟩,k1,k2,n2,k3⟩:=id p2;subst g2 g3 k2 k3;exact concat_meets #[_,g1,rfl] #[_,k1,rfl] afa seq_tuple_add ad9 adZ (adP _ _)
   (tuple_addW0 a b _ _ n n2 d1 d2 l1 l2 #[0]) #[g1,k1,#[.ref b,H,I,rfl,q0 rfl]]
 .exact wR pins s U H _ _ v u Q I rx ry #[a,b,xs,ys,rfl,rfl,ha,hb,hx,hz,q1,λ_=>q2]
def vp(hc:X.calm=true):Bd X (.builtin "any") (λxs H Q=>∃(p:Addr) (bs:List Bool),xs=[.ref p]/\Cr X.K H p (bs.map V.bl)/\Q (.bl (bs.any id)) H):=by
 intro pins s U H xs us Q I r h;obtain⟨p,bs,rfl,hq,q⟩:=h;obtain⟨u,rfl,ru⟩:=r.one;cases ru;obtain⟨eQ,rv,pl,hz⟩:=I.list hq;have hb:=ed rv;have hl:=pl.isList;have BU:p<s.heap.objs.size:=by obtain⟨_,e,_⟩:=hl;exact aah e
 refine call_any_walk (ach hl #[s.heap.objs.size,_,_,eQ.toArray.size,_,_,λi=>(bs[i]?).getD false,rfl,
  Walks.list (A:=X.A.in1) (I.ok.hd hc) _ p (aap BU) eQ.toArray,#[#[_,aaf _ rfl,rfl,rfl],hl.push _],λi v s' Q' E' hP hQ=>?_,λh' tk hk=>?_])
 .obtain⟨b,eb,rfl⟩:=hb.get i v #[1];simp only[eb]at hQ;exact ab2 hQ
 .have eb:((aa3 eQ.toArray.size).any λi=>(bs[i]?).getD false)=bs.any id:=by rw[aak,hb.length,LSm.range_any bs]
  rw[eb];exact#[.bl _,H,I.kept (LSm.kept_iter hk),rfl,q]
variable{O:Type}
theorem rq:∀(xs:List O),(aa3 xs.length).filterMap (λ(k:Nat)=>xs[(((xs.length:Int) - 1)+(k:Int) * -1).toNat]?)=xs.reverse:=by
 intro xs;have key:∀n,n<=xs.length->(aa3 n).filterMap (λ(k:Nat)=>xs[((xs.length - 1)+(k:Int) * -1).toNat]?)=(xs.drop (xs.length - n)).reverse:=λn=>by
  induction n with
  |zero=>simp
  |succ n ih=>
   intro hn;rw[aei,List.filterMap_append,ih #[]];have e:((xs.length - 1)+(n:Int) * -1).toNat=xs.length - (n+1):=by omega
   have BU:xs.length - (n+1)<xs.length:=by omega
   simp only[acr,List.filterMap_nil,e,aab BU];have d:xs.drop (xs.length - (n+1))=xs[xs.length - (n+1)]::xs.drop (xs.length - n):=by rw[abU BU];congr 2;omega
   rw[d,acj]
 have:=key xs.length (aai _);rw[this,Nat.sub_self,afR]
theorem qf(n:Nat):abV ((n:Int) - 1) (-1) (-1)=n:=by
 unfold abV;have h1:¬ (-1 > 0):=by omega
 by_cases h:((n:Int) - 1) > -1
 .have:(n - 1 - -1 - 1) / (- -1)+1=(n:Int):=by simp_all
  omega
 .omega
def ii{sl:Addr}{tk:Tok}(g:IsTup s.heap t eQ.toArray)(hs:s.heap.IsSliceOf sl .none .none (.int (-1) tk))
  (k:Q (.ref s.heap.objs.size) {s with heap:=s.heap.push {cls:=.type "tuple",data:=.seq eQ.reverse.toArray}}) (hsz:eQ.length<=sizeLine):wpAny #[9] A (adH (.ref t) (.ref sl)) Q E s:=by
 obtain⟨q,q1,q2,q3⟩:=id hs;have ty:s.TypeIs (.ref sl) "slice" := #[q,q1,q2]
 unfold adH;try with_reducible refine aaX ?_
 refine aaa (aeQ g.typeIs #[2] (aaa (aa4 g.typeIs aby (aaT aby g.typeIs aev ?_ (aeH _ _)))));refine aaa (m:=adz (.ref t)) (tupleItemsOf_ g (aaa (acn ty ?_)));refine aaa ?_;refine aaa (aaa (abf q1 q3 (x:=.none) rfl (aaa (abf q1 q3 (x:=.none) rfl (aaa (abf q1 q3 rfl (aae ?_)))))));refine aaa (HT.DV (.int (-1) tk) ?_);show wpAny _ _ (pure (((eQ.toArray.size:Int) - 1),(-1:Int),abV ((eQ.toArray.size:Int) - 1) (-1) (-1))) _ _ s;rw[qf];refine aae ?_;show wpAny _ _ (if (((eQ.toArray.size:Int) - 1)==0 && (-1:Int)==1 && eQ.toArray.size==eQ.toArray.size)=true then _ else _) _ _ s;rw[if_neg #[0]];have e:(aa3 eQ.toArray.size).filterMap (λ(k:Nat)=>eQ.toArray[(((eQ.toArray.size:Int) - 1)+(k:Int) * -1).toNat]?)=eQ.reverse:=by have:=rq eQ;simpa using this
 rw[e];exact aaa (m:=acm _) (aaZ (aae #[_,rfl,aae k]) (by show eQ.reverse.toArray.size<=sizeLine;simpa using hsz))
variable{st:Expr}{Pj:TE}{p2:Pos}
def SR(K:aag)(te Pj:TE):TE:=λU H Q=>te U H λx H1=>Pj U H1 λy H2=>y=.int (-1)/\∃a xs,x=.ref a/\Cf K H2 a xs/\∀p,H2 p=none->Q (.ref p) (upd H2 p (.tup xs.reverse))
def yt(he:PE X e te)(EZ:PE X st Pj):PE X (.Subscript e (.Slice none none (some st) p2) pos) (SR X.K te Pj):=by refine λpins s U H Q I h=>Subscript_ (Bt (he pins s U H _ I h) λv s1 #[x,H1,I1,r1,q1]=>?_);refine wpAny_Slice ?_;refine aae (aae (Bt (EZ pins s1 U H1 _ I1 q1) λvs s2 #[y,H2,I2,r2,q2]=>?_));obtain⟨rfl,a,xs,rfl,hx,q⟩:=q2;obtain⟨tk,rfl⟩:=r2;cases r1;have I3:Inv X pins U H2 {s2 with heap:=s2.heap.push {cls:=.type "slice",data:=.fields #v[.none,.none,.int (-1) tk]}}:=I2.kept λb ob q=>aac _ q;obtain⟨eQ,r,ht,hz⟩:=I3.tuple hx;refine tail_any ht.typeIs PyProof.Rows.slot_tuple_getitem.lookup (ii ht (Heap.IsSliceOf.new ..) ?_ (by rw[<- r.length];exact hz)) (rfl);refine#[.ref _,_,I3.laid (λb ob q=>aac _ q) (aai _) ?_,rfl,q _ (I3.Bc.fresh (aai _))];refine#[#[1],eQ.reverse,?_,afC _ _,_,aaf _ rfl,rfl];exact r.reverse
end L2
namespace PySem
open Sem (wp)
def nA:aeS (.type "list") "keys" = pure none:=rfl
variable{sl:Array (Option Value)}
def kE{prog:aaC}{w:World}{A:Around}{E:Aaa}{s:Shared}{a:Addr}{xs:Aak}{k:Nat}{Q:Aam}
  (hx:s.heap.get? a=some {cls:=.type "list",dict:=none,data:=.seq xs k,slots:=sl}) (hA:A.handled=none)
  (h:∀h' tk e,Heap.NewExcOf s.heap h' e "AttributeError" -> Q none {s with heap:=h',toks:=tk}) :
  wpAny #[9] A (afg (.ref a) "keys") Q E s:=by
 obtain⟨hp,g,d,tk,os⟩:=s;have hT:∀IL,(#[hp,g,d,IL,os]:Shared).TypeIs (.ref a) "list" := λ_=>#[_,hx,rfl]
 have f1:=sub_AttributeError;have f3:=F.slot_list_getattribute.lookup;have f4:=F.slot_list_getattribute.bind (.ref a);have f5:=am_list_getattr_none;unfold afg getAttrBy? getAttrBy
 repeat (any_goals (first|assumption|exact hT _|((with_reducible show wpAny _ _ (call (Value.builtin "list.__getattribute__") _ _) _ _ _);refine adN F.slot_list_getattribute (hT _) am_entry_list_getattribute (F.args_list_getattribute_2 _ _) (meets_getattribute_miss_list a xs k sl "keys" _ nA (by decide +kernel) (by size_fits)) #[hx,hA,λh' IL e KW=>?_])|wp_step))
 obtain⟨t',u',he⟩:=KW.there;show wpAny _ _ (adC _ _ _ _ _ _ _) _ _ _;unfold adC
 repeat (any_goals (first|assumption|exact hTe _|wp_step))
 exact h _ _ _ KW.of
open PySem.Spec PyProof.Rows
def F.B2:entryFor table "dict.update.loop" = some acP.«dict.update.loop»:=entryFor_of_tree (by kernel_rfl)
def F.B0:plainId "dict.update.loop" = true:=by decide +kernel
section
variable{prog:aaC}{w:World}{K:Type}[DecidableEq K]{knd:KeyKind prog w K}{A:Around}{R:Result->Shared->Prop}
def bj{h h':Heap}{d:Addr}{gE:List (K×Value)}(x:h.DictOf knd d gE)(k:∀o,h.get? d=some o->h'.get? d=some o):h'.DictOf knd d gE:=by obtain⟨o,es,ep,ho,r⟩:=x;exact#[o,es,ep,k _ ho,r]
theorem kU{d it l:Addr}{items:Aak}(ks:Nat->K)(vs:Nat->Value)(hsz:items.size<=1000)(NA:d≠it)(UB:d≠l)(Q0:l≠it)(hA:A.in1.handled=none):
  ∀(k i:Nat) (s:Shared) (gE:List (K×Value)),items.size - i=k->i<=items.size->gE.length<=i->s.heap.DictOf knd d gE->s.heap.IsListIter it l i->s.heap.IsList l items ->
  (∀j,j<items.size->∃p key,items[j]?=some (.ref p)/\p≠d/\p≠it/\s.heap.IsTuple p #v[key,vs j]/\knd.is (ks j) key=true) ->
  (∀h' tk,h'.DictOf knd d ((aey i k).foldl (λgE j=>stored gE (ks j) (vs j)) gE)->(∀b o,b≠d->b≠it->s.heap.get? b=some o->h'.get? b=some o)->R (.ok (.ret .none)) {s with heap:=h',toks:=tk}) ->
  acK #[9] A (.builtin "dict.update.loop" #[[.ref d,.ref it,rawInt i,.none],[]]) R s:=by
 intro k;induction k with
 |zero=>intro i s gE hk hi hlen hD hI hL hP hR;refine abK F.B2 ?_;refine aaa (wpAny_pyNext_list_end hA hI hL (by rw[ada];omega) λh' kk=>?_);refine aaa (aae (aae (hR h' s.toks (bj hD λo e=>kk _ _ NA e) λb o h1 h2 e=>kk _ _ h2 e)))
 |succ k ih=>
  intro i s gE hk hi hlen hD hI hL hP hR;have BU:i<items.size:=by omega
  obtain⟨p,key,ep,pd,pt,hp,ET⟩:=hP i BU;refine abK F.B2 ?_;refine aaa (wpAny_pyNext_list_item hI hL ep λh1 I1 k1=>?_);have e1:∀b o,b≠it->s.heap.get? b=some o->h1.get? b=some o:=λb o h e=>k1.extBut _ _ h e;have Ud:h1.IsTuple p #v[key,vs i]:=by obtain⟨o,e,r⟩:=hp;exact#[o,e1 _ _ pt e,r]
  refine aaa (aaX ?_);refine aaa (wpAny_tryCatch ?_);obtain⟨op,Qh,Tg,XM,Tf⟩:=id Ud;refine aaa (acn #[op,Qh,Tg] ?_);refine aaa (abw Qh Tf (aae ?_));have UP  := bj hD λo e=>e1 _ _ NA e;refine aaX (aet ET UP (λh2 D2 k2=>?_) (by rw[aaJ];omega));have e2:∀b o,b≠d->b≠it->s.heap.get? b=some o->h2.get? b=some o:=λb o h h' e=>k2.extBut _ _ h (e1 _ _ h' e);refine aae #[acH F.B0 _,ih (i+1) _ _ #[] BU ?_ D2 ?_ ?_ ?_ ?_]
  .exact aaK (stored_length_le gE (ks i) (vs i)) #[]
  .obtain⟨o,e,r⟩:=I1;exact#[o,k2.extBut _ _ NA.symm e,r]
  .obtain⟨o,e,r⟩:=hL;exact#[o,e2 _ _ UB.symm Q0 e,r]
  .intro j hj;obtain⟨p',Ng,q1,q2,q3,⟨o,e,r⟩,q5⟩:=hP j hj;exact#[p',Ng,q1,q2,q3,#[o,e2 _ _ q2 q3 e,r],q5]
  .intro h' tk D' kk;refine hR h' tk ?_ λb o h h3 e=>kk _ _ h h3 (e2 _ _ h h3 e);exact D'
end
section
variable{prog:aaC}{w:World}{K:Type}[DecidableEq K]{knd:KeyKind prog w K}{A:Around}{E:Aaa}{s:Shared}
theorem jK{l:Addr}{items:Aak}{n:Nat}{sl:Array (Option Value)}{Q:Aaa}(ks:Nat->K)(vs:Nat->Value)(hsz:items.size<=1000)(hA:A.handled=none)
  (hx:s.heap.get? l=some {cls:=.type "list",dict:=none,data:=.seq items n,slots:=sl})
  (hP:∀j,j<items.size->∃p key,items[j]?=some (.ref p)/\s.heap.IsTuple p #v[key,vs j]/\knd.is (ks j) key=true)
  (hQ:∀h' tk,h'.DictOf knd s.heap.objs.size ((aey 0 items.size).foldl (λgE j=>stored gE (ks j) (vs j)) [])->(∀b o,s.heap.get? b=some o->h'.get? b=some o)->Q (.ref s.heap.objs.size) {s with heap:=h',toks:=tk}) :
  wpAny #[9] A (call (.type "dict") [.ref l]) Q E s:=by
 refine callType_codes (Q₁:=λobj sc=>obj=.ref s.heap.objs.size/\sc={s with heap:=s.heap.push {cls:=.type "dict",data:=.dict #v[]}}) F.kt_called_dict (F.kt_typeCall_dict_1 _) F.entry_dict_init (kt_code_dict_new _ #[rfl,rfl]) ?_;rintro obj sc ⟨rfl,rfl⟩;have Du:(s.heap.push {cls:=.type "dict",data:=.dict #v[]}).DictOf knd s.heap.objs.size []:=afD s.heap;have QM:(s.heap.push {cls:=.type "dict",data:=.dict #v[]}).get? l=some {cls:=.type "list",dict:=none,data:=.seq items n,slots:=sl}:=aac _ hx;refine#[Du.typeIs,F.args_dict_init_2 _ _,?_];unfold acP.«dict.__init__»;refine aaa ?_;unfold Builtin.Dict.selfAndRest;refine aaa (wpAny_notOrdered_dict Du.typeIs ?_);show wpAny _ _ (pure (s.heap.objs.size,[aba l])) _ _ _;refine aae ?_;show wpAny _ _ (ac6 "dict.__init__" s.heap.objs.size (.ref l) [] .none) _ _ _;unfold ac6;refine aaa (acn (T := "list") #[_,QM,rfl] ?_);rw[if_pos #[2]];refine aaa (m:=afg (.ref l) "keys") (kE QM hA λh2 tk e ne=>?_);rw[if_pos #[4]];have up:∀b o,s.heap.get? b=some o->h2.get? b=some o:=λb o q=>ne.keeps _ _ (aac _ q);have HP:=up _ _ hx;have Ri:h2.DictOf knd s.heap.objs.size []:=bj Du λo q=>ne.keeps _ _ q;have Gf:h2.IsList l items:=#[_,HP,rfl,n,rfl]
 have Vc:s.heap.objs.size≠l:=abF (aah hx);have Vd:s.heap.objs.size≠h2.objs.size:=by obtain⟨_,_,_,ho,_⟩:=Ri;exact aap (aah ho)
 have Vb:l≠h2.objs.size:=aap (aah HP);refine aaa (act (aaa (ach (s:={s with heap:=h2,toks:=tk}) Gf ?_)));refine aae #[acH F.B0 _,?_];refine kU (A:=A.in1) (knd:=knd) (it:=h2.objs.size) ks vs hsz Vd Vc Vb hA items.size 0 _ [] #[] (abg _) (aai _) (bj Ri λo q=>aac _ q) #[_,aaf _ rfl,rfl,rfl] #[_,aac _ HP,rfl,n,rfl] ?_ ?_
 .intro j hj;obtain⟨p,key,q1,⟨o,q2,r⟩,q3⟩:=hP j hj;exact#[p,key,q1,aap (aah q2),aap (aah (up _ _ q2)),#[o,aac _ (up _ _ q2),r],q3]
 .intro h' IL D kk;exact#[rfl,hQ h' IL D λb o q=>kk b o (aap (aah q)) (aap (aah (up _ _ q))) (aac _ (up _ _ q))]
end
end PySem
namespace L2
open PySem PySem.Spec PyProof.Rows
theorem kD(BL:List (Str×V))(vf:Nat->Value)(h:∀j (hj:j<BL.length),RelV BL[j].2 (vf j)):∀n,n<=BL.length ->
  KV ((BL.take n).foldl (λgE kv=>putK gE (aav kv.1:Key) kv.2) []) ((aey 0 n).foldl (λgE j=>stored gE (aav ((BL[j]?.getD (Str.empty,V.AZ)).1):Key) (vf j)) [])
 |0,_=>.nil
 |n+1,hn=>by
  have ih:=kD BL vf h n #[];have BU:n<BL.length:=by omega
  rw[List.range'_1_concat,aeZ,abC,aeZ];simp only[ac2,aaG];rw[aab BU];exact ih.put _ (h n BU)
theorem nM(BL:List (Str×V)):∀(gE:List (Key×V)),(BL.foldl (λgE kv=>putK gE (aav kv.1:Key) kv.2) gE).length<=gE.length+BL.length:=by
 induction BL with
 |nil=>simp
 |cons x r ih=>
  intro gE;rw[ac2,aay];have:=ih (putK gE (aav x.1) x.2);have h2:(putK gE (aav x.1) x.2).length<=gE.length+1:=by
   unfold putK;split
   .rw[aad];omega
   .simp
  omega
variable{X:Cx}
end L2
namespace Q
open PySem L2
inductive PV where
 |AZ|bl (b:Bool)|int (i:Int)|str (x:Str)|tup (xs:List PV)|lst (xs:List PV)|Bp (gE:List (Key×PV))|set (xs:A3)|Cq (ns:Aar)
abbrev _root_.Aat:=Option PV
abbrev _root_.Aap:=PV->PV->Prop
abbrev _root_.Aao:=PV->Prop
abbrev _root_.Aab:=List PV
def Hr(K:aag)(F:Hp)(a:Addr)(ns:Aar):Prop:=(∃o,F a=some (.Dg o (.lst (ns.map V.int)))) \/
 ∃(o:Obj) (eQ:Aak) (n:Nat),K.lookup a=some o/\o.cls=.type "list" /\ o.dict=none/\o.data=.seq eQ n/\eQ.size<=sizeLine/\oF (ns.map V.int) eQ.toList
mutual
inductive Rep (K:aag) (F:Hp):V->PV->Prop where
 |AZ:Rep K F .AZ .AZ
 |bl (b:Bool):Rep K F (.bl b) (.bl b)
 |int (i:Int):Rep K F (.int i) (.int i)
 |str (x:Str):Rep K F (.str x) (.str x)
 |tup {a:Addr} {vs:Aag} {xs:Aab}:Cf K F a vs->nE K F vs xs->Rep K F (.ref a) (.tup xs)
 |lst {a:Addr} {vs:Aag} {xs:Aab}:F a=some (.lst vs)->nE K F vs xs->Rep K F (.ref a) (.lst xs)
 |Bp {a:Addr} {vs:List (Key×V)} {xs:List (Key×PV)}:F a=some (.dK vs)->A0 K F vs xs->Rep K F (.ref a) (.Bp xs)
 |Cq {a:Addr} {ns:Aar}:Hr K F a ns->Rep K F (.ref a) (.Cq ns)
inductive nE (K:aag) (F:Hp):Aag->List PV->Prop where
 |nil:nE K F [] []
 |cons {v:V} {x:PV} {vs:Aag} {xs:Aab}:Rep K F v x->nE K F vs xs->nE K F (v::vs) (x::xs)
inductive A0 (K:aag) (F:Hp):List (Key×V)->List (Key×PV)->Prop where
 |nil:A0 K F [] []
 |cons {k:Key} {v:V} {x:PV} {vs:List (Key×V)} {xs:List (Key×PV)}:Rep K F v x->A0 K F vs xs->A0 K F ((k,v)::vs) ((k,x)::xs)
end
variable{K:aag}{F F' H:Hp}
variable{a:Addr}{xs:Aag}
def ba(s:dO F F')(h:Cr K F a xs):Cr K F' a xs:=by
 rcases h with (h|⟨o,h⟩)|h
 .exact .inl (.inl (s _ _ h))
 .exact .inl (.inr #[o,s _ _ h])
 .exact .inr h
def ap(s:dO F F')(h:Cf K F a xs):Cf K F' a xs:=by
 rcases h with (h|⟨o,h⟩)|h
 .exact .inl (.inl (s _ _ h))
 .exact .inl (.inr #[o,s _ _ h])
 .exact .inr h
variable{ns:Aar}
def iP(s:dO F F')(h:Hr K F a ns):Hr K F' a ns:=by
 rcases h with ⟨o,h⟩|h
 .exact .inl #[o,s _ _ h]
 .exact .inr h
def Hr.sq(h:Hr K F a ns):Cr K F a (ns.map V.int):=by
 rcases h with ⟨o,h⟩|h
 .exact .inl (.inr #[o,h])
 .exact .inr h
variable{v:V}{x:PV}
def Rep.mono(s:dO F F')(h:Rep K F v x):Rep K F' v x :=
 Rep.rec
  .AZ .bl .int .str (λa _ b=>.tup (ap s a) b) (λa _ b=>.lst (s _ _ a) b) (λa _ b=>.Bp (s _ _ a) b) (λa=>.Cq (iP s a)) .nil (λ_ _ a b=>.cons a b) .nil (λ_ _ a b=>.cons a b) h
variable{vs:Aag}
def nE.mono{xs:Aab}(s:dO F F')(h:nE K F vs xs):nE K F' vs xs :=
 nE.rec
  .AZ .bl .int .str (λa _ b=>.tup (ap s a) b) (λa _ b=>.lst (s _ _ a) b) (λa _ b=>.Bp (s _ _ a) b) (λa=>.Cq (iP s a)) .nil (λ_ _ a b=>.cons a b) .nil (λ_ _ a b=>.cons a b) h
def A0.mono{vs:List (Key×V)}{xs:List (Key×PV)}(s:dO F F')(h:A0 K F vs xs):A0 K F' vs xs :=
 A0.rec
  .AZ .bl .int .str (λa _ b=>.tup (ap s a) b) (λa _ b=>.lst (s _ _ a) b) (λa _ b=>.Bp (s _ _ a) b) (λa=>.Cq (iP s a)) .nil (λ_ _ a b=>.cons a b) .nil (λ_ _ a b=>.cons a b) h
def nE.ind{motive:∀vs xs,nE K F vs xs->Prop}{xs:Aab}(h:nE K F vs xs)(nil:motive [] [] .nil)(cons:∀{v x vs xs} (a:Rep K F v x) (r:nE K F vs xs),motive vs xs r->motive (v::vs) (x::xs) (.cons a r)):motive vs xs h :=
 nE.rec (motive_1:=λ_ _ _=>True) (motive_3:=λ_ _ _=>True)
  trivial (λ_=>trivial) (λ_=>trivial) (λ_=>trivial) (λ_ _ _=>trivial) (λ_ _ _=>trivial) (λ_ _ _=>trivial) (λ_=>trivial) nil (λa r _ b=>cons a r b) trivial (λ_ _ _ _=>trivial) h
def A0.ind{motive:∀vs xs,A0 K F vs xs->Prop}{vs:List (Key×V)}{xs:List (Key×PV)}(h:A0 K F vs xs)(nil:motive [] [] .nil)(cons:∀{k v x vs xs} (a:Rep K F v x) (r:A0 K F vs xs),motive vs xs r->motive ((k,v)::vs) ((k,x)::xs) (.cons a r)):motive vs xs h :=
 A0.rec (motive_1:=λ_ _ _=>True) (motive_2:=λ_ _ _=>True)
  trivial (λ_=>trivial) (λ_=>trivial) (λ_=>trivial) (λ_ _ _=>trivial) (λ_ _ _=>trivial) (λ_ _ _=>trivial) (λ_=>trivial) trivial (λ_ _ _ _=>trivial) nil (λa r _ b=>cons a r b) h
def nE.len{xs:Aab}(h:nE K F vs xs):vs.length=xs.length:=by
 induction h using nE.ind with
 |nil=>rfl
 |cons _ _ ih=>exact congrArg _ ih
variable{i:Nat}
def nE.get{xs:Aab}(h:nE K F vs xs)(e:xs[i]?=some x):∃v,vs[i]?=some v/\Rep K F v x:=by
 induction h using nE.ind generalizing i with
 |nil=>cases e
 |cons a _ ih=>cases i with
  |zero=>cases e;exact#[_,rfl,a]
  |succ i=>exact ih e
def nE.J6{xs:Aab}(h:nE K F vs xs)(e:vs[i]?=some v):∃x,xs[i]?=some x/\Rep K F v x:=by
 induction h using nE.ind generalizing i with
 |nil=>cases e
 |cons a _ ih=>cases i with
  |zero=>cases e;exact#[_,rfl,a]
  |succ i=>exact ih e
variable{ws:Aag}{ys:Aab}
def nE.app{xs:Aab}(h:nE K F vs xs)(k:nE K F ws ys):nE K F (vs++ws) (xs++ys):=by
 induction h using nE.ind with
 |nil=>exact k
 |cons a _ ih=>exact .cons a ih
def nE.take{xs:Aab}(n:Nat)(h:nE K F vs xs):nE K F (vs.take n) (xs.take n):=by
 induction h using nE.ind generalizing n with
 |nil=>cases n<;>exact .nil
 |cons a _ ih=>cases n with
  |zero=>exact .nil
  |succ n=>exact .cons a (ih n)
def nE.drop{xs:Aab}(n:Nat)(h:nE K F vs xs):nE K F (vs.drop n) (xs.drop n):=by
 induction h using nE.ind generalizing n with
 |nil=>cases n<;>exact .nil
 |cons a r ih=>cases n with
  |zero=>exact .cons a r
  |succ n=>exact ih n
def nE.S3{xs:Aab}(n:Nat)(k:Rep K F v x)(h:nE K F vs xs):nE K F (vs.set n v) (xs.set n x):=by
 induction h using nE.ind generalizing n with
 |nil=>exact .nil
 |cons a r ih=>cases n with
  |zero=>exact .cons k r
  |succ n=>exact .cons a (ih n)
def nE.erase{xs:Aab}(n:Nat)(h:nE K F vs xs):nE K F (vs.eraseIdx n) (xs.eraseIdx n):=by
 induction h using nE.ind generalizing n with
 |nil=>exact .nil
 |cons a r ih=>cases n with
  |zero=>exact r
  |succ n=>exact .cons a (ih n)
def nE.rev{xs:Aab}(h:nE K F vs xs):nE K F vs.reverse xs.reverse:=by
 induction h using nE.ind with
 |nil=>exact .nil
 |cons a _ ih=>rw[acj,acj];exact ih.app (.cons a .nil)
def A0.len{vs:List (Key×V)}{xs:List (Key×PV)}(h:A0 K F vs xs):vs.length=xs.length:=by
 induction h using A0.ind with
 |nil=>rfl
 |cons _ _ ih=>exact congrArg _ ih
def A0.keys{vs:List (Key×V)}{xs:List (Key×PV)}(h:A0 K F vs xs):vs.map (·.1)=xs.map (·.1):=by
 induction h using A0.ind with
 |nil=>rfl
 |cons _ _ ih=>exact congrArg _ ih
structure Sl where
 k:Nat
 v:PV
abbrev Aaq:=Option Sl
abbrev En:=List (Aaq)
abbrev Aal:=PV->En->Prop
structure B3 where
 P:Hp->Hp->Addr->List Addr->PV->Prop
 mono:∀F F' H H' a l x,P F H a l x->dO F F'->(∀c∈l,H' c=H c)->P F' H' a l x
structure Md where
 P:aaC
 w:World
 K:aag
 ob:B3
structure Zn where
 H0:Hp
 F0:Hp
 S:List Addr
 oa:Nat->Option Addr:=λ_=>none
 sS:∀b∈S,H0 b≠none
def CG(M:Md)(F H:Hp)(a:Addr):PV->Prop
 |.lst xs=>∃vs,H a=some (.lst vs)/\nE M.K F vs xs
 |.Bp xs=>∃vs,H a=some (.dK vs)/\A0 M.K F vs xs
 |.set xs=>H a=some (FI M.P M.w a (λs=>decide (s∈xs)) xs.length)
 |_=>False
variable{M:Md}{H':Hp}
def CG.mono(s:dO F F')(e:H' a=H a)(h:CG M F H a x):CG M F' H' a x:=by
 cases x<;>try exact h.elim
 .obtain⟨vs,h1,h2⟩:=h;exact#[vs,e.trans h1,h2.mono s]
 .obtain⟨vs,h1,h2⟩:=h;exact#[vs,e.trans h1,h2.mono s]
 .exact e.trans h
def EW(M:Md)(Z:Zn)(F H:Hp)(v:V)(s:Sl)(fp:Aaj):Prop :=
 (s.k=0/\fp=[]/\Rep M.K F v s.v)\/(s.k=1/\∃a,v=.ref a/\fp=[a]/\Z.H0 a=none/\CG M F H a s.v) \/
 ((s.k=2\/s.k=4)/\∃a,v=.ref a/\(∀c∈fp,c∈Z.S\/Z.H0 c=none)/\M.ob.P F H a fp s.v) \/
 (s.k=3/\∃a,v=.ref a/\fp=[a]/\a∈Z.S/\CG M F H a s.v)
structure Slots(M:Md)(Z:Zn)(F:Hp)(U:St)(H:Hp)(env:En)(fp:Nat->List Addr):Prop where
 at':∀i s,env[i]?=some (some s)->∃v,U[i]?=some (some v)/\EW M Z F H v s (fp i)
 al:∀i a,a∈fp i->H a≠none/\F a=none
 dj:∀i j a,i≠j->a∈fp i->a∉fp j
 oa:∀i a s,Z.oa i=some a->env[i]?=some (some s)->s.k=2->U[i]?=some (some (.ref a))
structure rW(M:Md)(Z:Zn)(F:Hp)(U:St)(H:Hp)(env:En):Prop where
 sF:dO F H
 sG:∀b o,Z.H0 b=some o->b∉Z.S->H b=some o
 pr:∀b,Z.H0 b≠none->H b≠none
 gr:dO Z.F0 F
 nw:∀a,F a≠none->Z.F0 a≠none\/Z.H0 a=none
 len:env.length=U.length
 sl:∃fp,Slots M Z F U H env fp
variable{Z:Zn}{U:St}{env:En}{s:Sl}{fp:Aaj}
def EW.mono(s1:dO F F')(e:∀c∈fp,H' c=H c)(h:EW M Z F H v s fp):EW M Z F' H' v s fp:=by
 rcases h with ⟨a,b,c⟩|⟨a,p,rfl,rfl,c,d⟩|⟨a,p,rfl,c,d⟩|⟨a,p,rfl,rfl,c,d⟩
 .exact .inl #[a,b,c.mono s1]
 .exact .inr (.inl #[a,p,rfl,rfl,c,d.mono s1 (e p #[0])])
 .exact .inr (.inr (.inl #[a,p,rfl,c,M.ob.mono _ _ _ _ _ _ _ d s1 e]))
 .exact .inr (.inr (.inr #[a,p,rfl,rfl,c,d.mono s1 (e p #[0])]))
def ai:dO H H:=λ_ _ h=>h
def af{A B C:Hp}(x:dO A B)(y:dO B C):dO A C:=λa o h=>y a o (x a o h)
variable{p:Addr}{o:HO}
def ao(h:F p=none):dO F (upd F p o):=λa u e=>by rw[aj (av e h)];exact e
def dO.none_of{A B:Hp}(s:dO A B)(h:B a=none):A a=none:=by
 cases e:A a with
 |none=>rfl
 |some o=>rw[s a o e]at h;cases h
def Slots.move{fp:Nat->List Addr}(L:Slots M Z F U H env fp)(s1:dO F F')(s3:∀i c o,c∈fp i->H c=some o->H' c=some o)(nw:∀a,F' a≠none->F a≠none\/H a=none):Slots M Z F' U H' env fp:=by
 refine#[λi s h=>?_,λi a h=>?_,L.dj,L.oa]
 .obtain⟨v,h1,h2⟩:=L.at' i s h;refine#[v,h1,h2.mono s1 λc hc=>?_];cases e:H c with
  |none=>exact absurd e (L.al i c hc).1
  |some o=>exact s3 i c o hc e
 .obtain⟨h1,h2⟩:=L.al i a h;constructor
  .cases e:H a with
   |none=>exact absurd e h1
   |some o=>rw[s3 i a o h e];simp
  .cases e:F' a with
   |none=>rfl
   |some o=>
    rcases nw a #[1]with z|z
    .exact absurd h2 z
    .exact absurd z h1
variable{l:Aaj}
def Slots.put{fp:Nat->List Addr}(L:Slots M Z F U H env fp)(hk:s.k≠2)(hi:i<U.length)(h:EW M Z F H v s l)(al:∀a∈l,H a≠none/\F a=none)(dj:∀j a,j≠i->a∈l->a∉fp j):
  Slots M Z F (U.set i (some v)) H (env.set i (some s)) (λj=>if j=i then l else fp j):=by
 refine#[λj t e=>?_,λj a e=>?_,λj k a HR e z=>?_,λj a t e1 e2 e3=>?_];case refine_4=>
  by_cases q:j=i
  .subst q;rw[abq]at e2;simp only[if_true]at e2;split at e2
   .cases e2;exact absurd e3 hk
   .cases e2
  .rw[aaD (abz q)]at e2;rw[aaD (abz q)];exact L.oa j a t e1 e2 e3
 .by_cases q:j=i
  .subst q;rw[abq]at e;simp only[if_true]at e;split at e
   .exact#[v,#[1],#[1]]
   .first|(done)|cases e
  .rw[aaD (abz q)]at e;rw[aaD (abz q),if_neg q];exact L.at' j t e
 .by_cases q:j=i
  .rw[if_pos q]at e;exact al a e
  .rw[if_neg q]at e;exact L.al j a e
 .by_cases q:j=i
  .rw[if_pos q]at e;rw[if_neg (λy=>HR (q.trans y.symm))]at z;exact dj k a (λy=>HR (q.trans y.symm)) e z
  .rw[if_neg q]at e;by_cases q2:k=i
   .rw[if_pos q2]at z;exact dj j a q z e
   .rw[if_neg q2]at z;exact L.dj j k a HR e z
theorem Slots.push{fp:Nat->List Addr}(L:Slots M Z F U H env fp)(hk:s.k≠2)(hn:env.length=U.length)(h:EW M Z F H v s l)(al:∀a∈l,H a≠none/\F a=none)(dj:∀j a,a∈l->a∉fp j):
  Slots M Z F (U++[some v]) H (env++[some s]) (λj=>if j=env.length then l else fp j):=by
 refine#[λj t e=>?_,λj a e=>?_,λj k a HR e z=>?_,λj a t e1 e2 e3=>?_];case refine_4=>
  by_cases q:j=env.length
  .subst q;simp at e2;subst e2;exact absurd e3 hk
  .have hj:j<env.length:=by
    have:j<(env++[some s]).length:=by
     rcases aaS j _ with y|y
     .exact y
     .rw[aam y]at e2;cases e2
    simp at this;omega
   rw[aat hj]at e2;rw[aat #[]];exact L.oa j a t e1 e2 e3
 .by_cases q:j=env.length
  .exact#[v,#[1],#[1]]
  .rw[if_neg q];have hj:j<env.length:=by
    have:j<(env++[some s]).length:=by
     rcases aaS j _ with y|y
     .exact y
     .rw[aam y]at e;cases e
    simp at this;omega
   rw[aat hj]at e;rw[aat #[]];exact L.at' j t e
 .by_cases q:j=env.length
  .rw[if_pos q]at e;exact al a e
  .rw[if_neg q]at e;exact L.al j a e
 .by_cases q:j=env.length
  .rw[if_pos q]at e;rw[if_neg (λy=>HR (q.trans y.symm))]at z;exact dj k a e z
  .rw[if_neg q]at e;by_cases q2:k=env.length
   .rw[if_pos q2]at z;exact dj j a z e
   .rw[if_neg q2]at z;exact L.dj j k a HR e z
theorem Slots.drop{fp:Nat->List Addr}(L:Slots M Z F (U++[some v]) H (env++[some s]) fp)(hn:env.length=U.length):Slots M Z F U H env fp:=by
 have lt:∀{j:Nat} {t:Sl},env[j]?=some (some t)->j<env.length:=λ{j t} e=>by
  rcases aaS j env.length with y|y
  .exact y
  .rw[aam y]at e;cases e
 refine#[λj t e=>?_,L.al,L.dj,λj a t e1 e2 e3=>?_]
 .have hj:=lt e;obtain⟨v',h1,h2⟩:=L.at' j t (by rw[aat hj];exact e);rw[aat #[]]at h1;exact#[v',h1,h2]
 .have hj:=lt e2;have:=L.oa j a t e1 (by rw[aat hj];exact e2) e3;rw[aat #[]]at this;exact this
def Slots.last{fp:Nat->List Addr}(L:Slots M Z F (U++[some v]) H (env++[some s]) fp)(hn:env.length=U.length):EW M Z F H v s (fp env.length):=by obtain⟨v',h1,h2⟩:=L.at' env.length s #[0];rw[hn]at h1;simp at h1;subst h1;exact h2
def rW.h0(K:rW M Z F U H env)(h:H a=none):Z.H0 a=none:=by
 cases e:Z.H0 a with
 |none=>rfl
 |some o=>exact absurd h (K.pr a #[1])
def rW.move(K:rW M Z F U H env)(s1:dO F F')(s2:dO F' H')(s3:dO H H')(nw:∀a,F' a≠none->F a≠none\/H a=none):rW M Z F' U H' env:=by
 obtain⟨fp,L⟩:=K.sl;refine#[s2,λb o h1 h2=>s3 b o (K.sG b o h1 h2),λb h=>?_,af K.gr s1,λa h=>?_,K.len,fp,L.move s1 (λ_ c o _ e=>s3 c o e) nw]
 .cases e:H b with
  |none=>exact absurd e (K.pr b h)
  |some o=>rw[s3 b o e];simp
 .rcases nw a h with h1|h1
  .exact K.nw a h1
  .exact .inr (K.h0 h1)
def rW.lay(K:rW M Z F U H env)(h:H p=none):rW M Z (upd F p o) U (upd H p o) env:=by
 have hF  := dO.none_of K.sF h;refine K.move (ao hF) (λa u e=>?_) (ao h) λa e=>?_
 .by_cases q:a=p
  .subst q;rw[ah]at e ⊢;exact e
  .rw[aj q]at e ⊢;exact K.sF a u e
 .by_cases q:a=p
  .subst q;exact .inr h
  .rw[aj q]at e;exact .inl e
def rW.slots{sa:St}{bY:En}{fp:Nat->List Addr}(K:rW M Z F U H env)(hn:bY.length=sa.length)(L:Slots M Z F sa H bY fp):rW M Z F sa H bY:=#[K.sF,K.sG,K.pr,K.gr,K.nw,hn,fp,L]
def rW.own(K:rW M Z F U H env)(h:H p=none)(hx:CG M F (upd H p o) p x):rW M Z F (U++[some (.ref p)]) (upd H p o) (env++[some #[1,x]]):=by
 have hF  := dO.none_of K.sF h;have K1:rW M Z F U (upd H p o) env:=K.move ai (λa u e=>by rw[aj (av e hF)];exact K.sF a u e) (ao h) λa e=>.inl e;obtain⟨fp,L⟩:=K.sl;have L1:Slots M Z F U (upd H p o) env fp:=L.move ai (λ_ c u _ e=>ao h c u e) λa e=>.inl e;refine K1.slots (by simp[K.len]) (L1.push #[0] K.len (.inr (.inl #[rfl,p,rfl,rfl,K.h0 h,hx])) (λa ha=>?_) λj a ha hj=>?_)
 .simp at ha;subst ha;exact#[by rw[ah];simp,hF]
 .simp at ha;subst ha;exact(L.al j a hj).1 h
def rW.drop(K:rW M Z F (U++[some v]) H (env++[some s])):rW M Z F U H env:=by
 have hn  :=by have:=K.len;simpa using this
 obtain⟨fp,L⟩:=K.sl;exact K.slots hn (L.drop hn)
def CG.rep(h:CG M F H a x)(hx:∀xs,x≠.set xs)(hF:F a=none)(ho:H a=some o):Rep M.K (upd F a o) (.ref a) x:=by
 have s1:dO F (upd F a o):=ao hF;cases x<;>try exact h.elim
 .obtain⟨vs,h1,h2⟩:=h;rw[ho]at h1;cases h1;exact .lst ah (h2.mono s1)
 .obtain⟨vs,h1,h2⟩:=h;rw[ho]at h1;cases h1;exact .Bp ah (h2.mono s1)
 .exact absurd rfl (hx _)
def rW.Dg{fp:Nat->List Addr}{sa:St}{bY:En}(K:rW M Z F U H env)(L:Slots M Z F U H env fp)(hf:fp i=[a])(h0:Z.H0 a=none)(ho:H a=some o)
  (hn:bY.length=sa.length) (hs:∀j s,j≠i->bY[j]?=some (some s)->env[j]?=some (some s)/\sa[j]?=U[j]?)
  (hi:∀s,bY[i]?=some (some s)->∃v,sa[i]?=some (some v)/\s.k=0/\Rep M.K (upd F a o) v s.v):rW M Z (upd F a o) sa H bY:=by
 have ha:=L.al i a #[1];have s1:dO F (upd F a o):=ao ha.2;refine#[λb u e=>?_,K.sG,K.pr,af K.gr s1,λb e=>?_,hn,λj=>if j=i then []else fp j,λj s h=>?_,λj b h=>?_,λj k b HR h z=>?_,λj b t e1 e2 e3=>?_]
 .by_cases q:b=a
  .subst q;rw[ah]at e;cases e;exact ho
  .rw[aj q]at e;exact K.sF b u e
 .by_cases q:b=a
  .subst q;exact .inr h0
  .rw[aj q]at e;exact K.nw b e
 .by_cases q:j=i
  .subst q;obtain⟨v,h1,h2,h3⟩:=hi s h;exact#[v,h1,.inl #[h2,if_pos rfl,h3]]
  .obtain⟨e1,e2⟩:=hs j s q h;obtain⟨v,h1,h2⟩:=L.at' j s e1;exact#[v,#[1],by rw[if_neg q];exact h2.mono s1 λ_ _=>rfl]
 .by_cases q:j=i
  .rw[if_pos q]at h;simp at h
  .rw[if_neg q]at h;have hb:=L.al j b h;have:b≠a:=λz=>L.dj j i b q h #[1];exact#[hb.1,by rw[aj this];exact hb.2]
 .by_cases q:j=i
  .rw[if_pos q]at h;simp at h
  .rw[if_neg q]at h;by_cases q2:k=i
   .rw[if_pos q2]at z;simp at z
   .rw[if_neg q2]at z;exact L.dj j k b HR h z
 .by_cases q:j=i
  .subst q;obtain⟨_,_,h2,_⟩:=hi t e2;rw[e3]at h2;cases h2
  .obtain⟨f1,f2⟩:=hs j t q e2;rw[f2];exact L.oa j b t e1 f1 e3
def cz(h:H a≠none):∃o,H a=some o:=by
 cases e:H a with
 |none=>exact absurd e h
 |some o=>exact#[o,rfl]
theorem rW.ID(K:rW M Z F (U++[some v]) H (env++[some #[1,x]]))(hx:∀xs,x≠.set xs):∃F',dO F F'/\rW M Z F' U H env/\Rep M.K F' v x:=by
 have hn  :=by have:=K.len;simpa using this
 obtain⟨fp,L⟩:=K.sl;rcases L.last hn with ⟨e,_⟩|⟨_,a,rfl,hf,h0,hw⟩|⟨e,_⟩|⟨e,_⟩
 .first|(done)|cases e
 .have ha:=L.al env.length a #[1];obtain⟨o,ho⟩:=cz ha.1;refine#[_,ao ha.2,K.Dg L hf h0 ho hn (λj s _ e=>?_) (λs e=>?_),hw.rep hx ha.2 ho]
  .have hj:j<env.length:=by
    rcases aaS j env.length with y|y
    .exact y
    .rw[aam y]at e;cases e
   rw[aat hj,aat #[]];exact#[e,rfl]
  .simp at e
 .first|(revert e;simp)|cases e
 .first|(done)|cases e
def rW.freeze(K:rW M Z F U H env)(hi:env[i]?=some (some #[1,x]))(hx:∀xs,x≠.set xs):∃F' v,U[i]?=some (some v)/\dO F F'/\rW M Z F' U H (env.set i (some #[0,x]))/\Rep M.K F' v x:=by
 obtain⟨fp,L⟩:=K.sl;obtain⟨v,hv,h⟩:=L.at' i _ hi;rcases h with ⟨e,_⟩|⟨_,a,rfl,hf,h0,hw⟩|⟨e,_⟩|⟨e,_⟩
 .first|(done)|cases e
 .have ha:=L.al i a #[1];obtain⟨o,ho⟩:=cz ha.1;refine#[_,_,hv,ao ha.2,K.Dg L hf h0 ho (by simp[K.len]) (λj s q e=>?_) (λs e=>?_),hw.rep hx ha.2 ho]
  .rw[aaD (abz q)]at e;exact#[e,rfl]
  .rw[abq]at e;simp only[if_true]at e;split at e
   .first|(done)|cases e
    exact#[_,hv,rfl,hw.rep hx ha.2 ho]
   .first|(done)|cases e
 .first|(revert e;simp)|cases e
 .first|(done)|cases e
theorem rW.put(K:rW M Z F U H env)(h:Rep M.K F v x):rW M Z F (U.set i (some v)) H (env.set i (some #[0,x])):=by
 obtain⟨fp,L⟩:=K.sl;rcases aaS i env.length with hi|hi;case inr=>rw[abv hi,abv (by have:=K.len;omega)];exact K
 exact K.slots (by simp[K.len]) (L.put #[0] (by have:=K.len;omega) (.inl #[rfl,rfl,h]) (λa h=>#[1]) λj a _ h=>#[1])
theorem rW.take(K:rW M Z F (U++[some v]) H (env++[some s]))(hk:autoParam (s.k≠2) B'):rW M Z F (U.set i (some v)) H (env.set i (some s)):=by
 have hn  :=by have:=K.len;simpa using this
 rcases aaS i env.length with hi|hi;case inr=>rw[abv hi,abv #[]];exact K.drop
 obtain⟨fp,L⟩:=K.sl;have hl:=L.last hn;refine K.slots #[1] (Slots.put (fp:=λj=>if j=env.length then []else fp j) #[λj t e=>?_,λj a e=>?_,λj k a HR e z=>?_,(L.drop hn).oa] hk #[] hl (λa=>L.al _ a) λj a _ h z=>?_)
 .have hj:j<env.length:=by
   rcases aaS j env.length with y|y
   .exact y
   .rw[aam y]at e;cases e
  rw[if_neg #[]];obtain⟨v',h1,h2⟩:=L.at' j t (by rw[aat hj];exact e);rw[aat #[]]at h1;exact#[v',h1,h2]
 .split at e
  .simp at e
  .exact L.al j a e
 .split at e
  .simp at e
  .split at z
   .simp at z
   .exact L.dj j k a HR e z
 .split at z
  .simp at z
  .rename_i q;exact L.dj env.length j a (abz q) h z
variable{k:Nat}{y:PV}
def rW.write(K:rW M Z F U H env)(hk:k=1\/k=3)(hi:env[i]?=some (some #[k,x]))(hv:U[i]?=some (some (.ref a)))(hw:CG M F (upd H a o) a y):rW M Z F U (upd H a o) (env.set i (some #[k,y])):=by
 obtain⟨fp,L⟩:=K.sl;obtain⟨v,JX,h⟩:=L.at' i _ hi;rw[hv]at JX;cases JX;obtain⟨hf,hd,Du⟩:fp i=[a]/\(Z.H0 a=none\/a∈Z.S)/\EW M Z F (upd H a o) (.ref a) ⟨k,y⟩ [a]:=by
  rcases h with ⟨e,_⟩|⟨e,a',ea,hf,h0,hx⟩|⟨e,_⟩|⟨e,a',ea,hf,h0,hx⟩
  .rcases hk with rfl|rfl<;>exact absurd e #[0]
  .cases ea;exact#[hf,.inl h0,.inr (.inl #[e,a,rfl,rfl,h0,hw])]
  .rcases hk with rfl|rfl<;>exact absurd e #[0]
  .cases ea;exact#[hf,.inr h0,.inr (.inr (.inr #[e,a,rfl,rfl,h0,hw]))]
 have ha:=L.al i a (by rw[hf];simp);refine#[λb u e=>?_,λb u h1 h2=>?_,λb h=>?_,K.gr,K.nw,by simp[K.len],fp,λj s e=>?_,λj b h=>?_,L.dj,λj b t e1 e2 e3=>?_]
 .rw[aj (av e ha.2)];exact K.sF b u e
 .have:b≠a:=by
   rcases hd with h0|h0
   .exact av h1 h0
   .exact λz=>h2 (by rw[z];exact h0)
  rw[aj this];exact K.sG b u h1 h2
 .by_cases q:b=a
  .subst q;rw[ah];simp
  .rw[aj q];exact K.pr b h
 .by_cases q:j=i
  .subst q;rw[abq]at e;simp only[if_true]at e;split at e
   .first|(exfalso;revert e;simp;done)|cases e
    exact#[_,hv,by rw[hf];exact Du]
   .first|(exfalso;revert e;simp;done)|cases e
  .rw[aaD (abz q)]at e;obtain⟨v,h1,h2⟩:=L.at' j s e;refine#[v,h1,h2.mono ai λc hc=>aj λz=>?_];exact L.dj j i c q hc (by rw[hf,z];simp)
 .have hb:=L.al j b h;refine#[?_,hb.2];by_cases q:b=a
  .subst q;rw[ah];simp
  .rw[aj q];exact hb.1
 .by_cases q:j=i
  .subst q;rw[abq]at e2;simp only[if_true]at e2;split at e2
   .cases e2;rcases hk with rfl|rfl<;>cases e3
   .cases e2
  .rw[aaD (abz q)]at e2;exact L.oa j b t e1 e2 e3
def Vw(M:Md)(F H:Hp)(v:V)(x:PV):Prop:=Rep M.K F v x\/∃a,v=.ref a/\CG M F H a x
def Vw.lst{xs:Aab}(h:Vw M F H v (.lst xs))(s:dO F H):∃a vs,v=.ref a/\H a=some (.lst vs)/\nE M.K F vs xs:=by
 rcases h with h|⟨a,rfl,vs,h1,h2⟩
 .cases h with
  |lst h1 h2=>exact#[_,_,rfl,s _ _ h1,h2]
 .exact#[a,vs,rfl,h1,h2]
def Vw.tup{xs:Aab}(h:Vw M F H v (.tup xs))(s:dO F H):∃a vs,v=.ref a/\Cf M.K H a vs/\nE M.K F vs xs:=by
 rcases h with h|⟨a,rfl,h⟩
 .cases h with
  |tup h1 h2=>exact#[_,_,rfl,ap s h1,h2]
 .exact h.elim
def Vw.Bp{xs:List (Key×PV)}(h:Vw M F H v (.Bp xs))(s:dO F H):∃a vs,v=.ref a/\H a=some (.dK vs)/\A0 M.K F vs xs:=by
 rcases h with h|⟨a,rfl,vs,h1,h2⟩
 .cases h with
  |Bp h1 h2=>exact#[_,_,rfl,s _ _ h1,h2]
 .exact#[a,vs,rfl,h1,h2]
def Vw.int{i:Int}(h:Vw M F H v (.int i)):v=.int i:=by
 rcases h with h|⟨a,rfl,h⟩
 .cases h;rfl
 .exact h.elim
variable{b:Bool}
def Vw.bl(h:Vw M F H v (.bl b)):v=.bl b:=by
 rcases h with h|⟨a,rfl,h⟩
 .cases h;rfl
 .exact h.elim
def Vw.str{x:Str}(h:Vw M F H v (.str x)):v=.str x:=by
 rcases h with h|⟨a,rfl,h⟩
 .cases h;rfl
 .exact h.elim
def Vw.AZ(h:Vw M F H v .AZ):v=.AZ:=by
 rcases h with h|⟨a,rfl,h⟩
 .cases h;rfl
 .exact h.elim
def rW.vw(K:rW M Z F U H env)(hi:env[i]?=some (some s))(hk:s.k≠2/\s.k≠4):∃v,U[i]?=some (some v)/\Vw M F H v s.v:=by
 obtain⟨fp,L⟩:=K.sl;obtain⟨v,hv,h⟩:=L.at' i _ hi;rcases h with ⟨_,_,h⟩|⟨_,a,rfl,_,_,h⟩|⟨e,_⟩|⟨_,a,rfl,_,_,h⟩
 .exact#[v,hv,.inl h]
 .exact#[_,hv,.inr #[a,rfl,h]]
 .exact(e.elim hk.1 hk.2).elim
 .exact#[_,hv,.inr #[a,rfl,h]]
def rW.val(K:rW M Z F U H env)(hi:env[i]?=some (some #[0,x])):∃v,U[i]?=some (some v)/\Rep M.K F v x:=by
 obtain⟨fp,L⟩:=K.sl;obtain⟨v,hv,h⟩:=L.at' i _ hi;rcases h with ⟨_,_,h⟩|⟨e,_⟩|⟨e,_⟩|⟨e,_⟩
 .exact#[v,hv,h]
 .first|(done)|cases e
 .first|(revert e;simp)|cases e
 .first|(done)|cases e
def rW.ownAt(K:rW M Z F U H env)(hk:k=1\/k=3)(hi:env[i]?=some (some #[k,x])):∃a,U[i]?=some (some (.ref a))/\CG M F H a x:=by
 obtain⟨fp,L⟩:=K.sl;obtain⟨v,hv,h⟩:=L.at' i _ hi;rcases h with ⟨e,_⟩|⟨_,a,rfl,_,_,h⟩|⟨e,_⟩|⟨_,a,rfl,_,_,h⟩
 .rcases hk with rfl|rfl<;>exact absurd e #[0]
 .exact#[a,hv,h]
 .rcases hk with rfl|rfl<;>exact absurd e #[0]
 .exact#[a,hv,h]
abbrev WE:=En->(PV->En->Prop)->Prop
abbrev WT:=En->(Bool->En->Prop)->Prop
abbrev WA:=En->(Aab->En->Prop)->Prop
structure Wd where
 nx:En->Prop
 rt:PV->En->Prop
 bk:En->Prop:=λ_=>False
 ct:En->Prop:=λ_=>False
 rf:PV->En->Prop:=λ_ _=>False
 ro:PV->Nat->En->Prop:=λ_ _ _=>False
abbrev WS:=Wd->En->Prop
noncomputable abbrev md(ob:B3)(X:Cx):Md:=#[X.prog,X.w,X.K,ob]
structure Bk(ob:B3)(X:Cx)(e:Expr)(f:WE):Prop where
 ex:∃t:TE,PE X e t/\∀(Z:Zn) (F:Hp) (U:St) (H:Hp) (env:En) (P:Aal) (Q:VK),rW #[14] Z F U H env->f env P ->
  #[7]->t U H Q
structure Fz(ob:B3)(X:Cx)(e:Expr)(f:WE):Prop where
 ex:∃t:TE,PE X e t/\∀(Z:Zn) (F:Hp) (U:St) (H:Hp) (env:En) (P:Aal) (Q:VK),rW #[14] Z F U H env->f env P ->
  (∀x bY v F' H',P x bY->dO F F'->rW #[14] Z F' U H' bY->Vw #[14] F' H' v x->Q v H')->t U H Q
structure EY(ob:B3)(X:Cx)(e:Expr)(f:WE):Prop where
 ex:∃t:TE,PE X e t/\∀(Z:Zn) (F:Hp) (U:St) (H:Hp) (env:En) (P:Aal) (Q:VK),rW #[14] Z F U H env->f env P ->
  (∀x bY v F' H',P x bY->dO F F'->(∀xs,x≠.set xs)->rW #[14] Z F' (U++[some v]) H' (bY++[some #[1,x]])->Q v H')->t U H Q
structure E3(ob:B3)(X:Cx)(e:Expr)(f:WT):Prop where
 ex:∃t:TT,PT X e t/\∀(Z:Zn) (F:Hp) (U:St) (H:Hp) (env:En) (P:Bool->En->Prop) (Q:Bool->Hp->Prop),rW #[14] Z F U H env->f env P ->
  (∀b bY F' H',P b bY->dO F F'->rW #[14] Z F' U H' bY->Q b H')->t U H Q
structure N8(ob:B3)(X:Cx)(e:Expr)(f:WT):Prop where
 ex:∃t:TT,PW X e t/\∀(Z:Zn) (F:Hp) (U:St) (H:Hp) (env:En) (P:Bool->En->Prop) (Q:Bool->Hp->Prop),rW #[14] Z F U H env->f env P ->
  (∀b bY F' H',P b bY->dO F F'->rW #[14] Z F' U H' bY->Q b H')->t U H Q
structure Gm(ob:B3)(X:Cx)(es:Aai)(f:WA):Prop where
 ex:∃t:TA,PA X es t/\∀(Z:Zn) (F:Hp) (U:St) (H:Hp) (env:En) (P:Aab->En->Prop) (Q:Aag->Hp->Prop),rW #[14] Z F U H env->f env P ->
  (∀xs bY vs F' H',P xs bY->xs.length=es.length->dO F F'->rW #[14] Z F' U H' bY->nE X.K F' vs xs->Q vs H')->t U H Q
def eC(x:PV):WE:=λenv P=>P x env
noncomputable def eV(i:Nat):WE:=λenv P=>match env[i]? with
 |some (some #[0,x])=>P x env
 |some (some #[1,.lst xs])=>P (.lst xs) (env.set i (some #[0,.lst xs]))
 |some (some #[1,.Bp xs])=>P (.Bp xs) (env.set i (some #[0,.Bp xs]))
 |_=>False
noncomputable def Bj(i:Nat):WE:=λenv P=>match env[i]? with
 |some (some #[0,x])=>P x env
 |some (some #[1,x])=>P x env
 |some (some #[3,x])=>P x env
 |_=>False
variable{O:Type}
def opt(o:Option O)(P:O->Prop):Prop:=∃z,o=some z/\P z
def Dq{z:O}{P:O->Prop}:opt (some z) P↔P z:=#[λ#[_,e,h]=>#[1],λh=>#[z,rfl,h]]
def aT:WA:=λenv P=>P [] env
def aS(a:WE)(r:WA):WA:=λenv P=>a env λx e1=>r e1 λxs e2=>P (x::xs) e2
def A8(a:WA):WE:=λenv P=>a env λxs e=>P (.tup xs) e
def BP(a:WA):WE:=λenv P=>a env λxs e=>P (.lst xs) e
def lE(g:PV->PV->Option PV)(a b:WE):WE:=λenv P=>a env λx e1=>b e1 λy e2=>opt (g x y) λz=>P z e2
def Mg(g:PV->Option PV)(a:WE):WE:=λenv P=>a env λx e1=>opt (g x) λz=>P z e1
def EU(g:PV->PV->Option PV)(i:Nat)(b:WE):WE:=λenv P=>(env[i]?).join.isSome=true/\b env λy e2=>Bj i e2 λx _=>opt (g x y) λz=>P z e2
noncomputable def A7(a:WE):WT:=λenv P=>a env λx e=>opt (match x with|.bl b=>some b|_=>none) λb=>P b e
def G6(a b:WT):WT:=λenv P=>a env λx e=>if x=true then b e P else P false e
def GZ(a b:WT):WT:=λenv P=>a env λx e=>if x=true then P true e else b e P
def CD(a:WT):WT:=λenv P=>a env λx e=>P (!x) e
def Lp(c:WT)(a b:WE):WE:=λenv P=>c env λx e=>if x=true then a e P else b e P
variable{ob:B3}{X:Cx}{e a b c:Expr}{es:Aai}{pos:Pos}{f g h:WE}
def Xf(he:Bk ob X e f):Fz ob X e f:=by obtain⟨t,ht,h⟩:=he.ex;exact#[t,ht,λZ F U H env P Q K hf k=>h Z F U H env P Q K hf λx bY v F' H' p s K' r=>k x bY v F' H' p s K' (.inl r)]
def Xu(he:EY ob X e f):Bk ob X e f:=by obtain⟨t,ht,h⟩:=he.ex;refine#[t,ht,λZ F U H env P Q K hf k=>h Z F U H env P Q K hf λx bY v F' H' p s hx K'=>?_];obtain⟨F2,s2,K2,r⟩:=K'.ID hx;exact k x bY v F2 H' p (af s s2) K2 r
def dq(hp:PE X e (tC v))(hr:∀F,Rep X.K F v x):Bk ob X e (eC x) :=
 #[_,hp,λZ F U H env P Q K hf k=>k x env v F H hf ai K (hr F)]
def zO{i j}:Bk ob X (.Constant (.int i) j pos) (eC (.int i)):=dq az λ_=>.int i
def AO{i j}:Bk ob X (.Constant (.bool i) j pos) (eC (.bl i)):=dq Ay λ_=>.bl i
def zG{j}:Bk ob X (.Constant .none j pos) (eC .AZ):=dq yx λ_=>.AZ
def zA{i j}:Bk ob X (.Constant (.str i) j pos) (eC (.str i)):=dq aW λ_=>.str i
def zw(i:Nat){x:Str}(hp:PE X (.Name x pos) (Bw i)):Bk ob X (.Name x pos) (eV i):=by
 refine#[_,hp,λZ F U H env P Q K hf k=>?_];unfold eV at hf;split at hf
 .rename_i y hy;obtain⟨v,hv,r⟩:=K.val hy;exact#[v,hv,k _ _ v F H hf ai K r]
 .rename_i y hy;obtain⟨F',v,hv,s,K',r⟩:=K.freeze hy (λ_=>#[0]);exact#[v,hv,k _ _ v F' H hf s K' r]
 .rename_i y hy;obtain⟨F',v,hv,s,K',r⟩:=K.freeze hy (λ_=>#[0]);exact#[v,hv,k _ _ v F' H hf s K' r]
 .exact hf.elim
def xv(i:Nat){x:Str}(hp:PE X (.Name x pos) (Bw i)):Fz ob X (.Name x pos) (Bj i):=by
 refine#[_,hp,λZ F U H env P Q K hf k=>?_];unfold Bj at hf;split at hf
 .rename_i y hy;obtain⟨v,hv,r⟩:=K.vw hy #[0];exact#[v,hv,k _ _ v F H hf ai K r]
 .rename_i y hy;obtain⟨v,hv,r⟩:=K.vw hy #[0];exact#[v,hv,k _ _ v F H hf ai K r]
 .rename_i y hy;obtain⟨v,hv,r⟩:=K.vw hy #[0];exact#[v,hv,k _ _ v F H hf ai K r]
 .exact hf.elim
def Ad:Gm ob X [] aT:=#[_,aQ,λZ F U H env P Q K hf k=>k [] env [] F H hf rfl ai K .nil]
variable{fa:WA}
def xQ(he:Bk ob X e f)(hr:Gm ob X es fa)(hs:autoParam #[8] At):Gm ob X (e::es) (aS f fa):=by obtain⟨t,ht,h⟩:=he.ex;obtain⟨u,hu,g⟩:=hr.ex;refine#[_,aD ht hu hs,λZ F U H env P Q K hf k=>?_];exact h Z F U H env _ _ K hf λx e1 v F1 H1 p s1 K1 r1=>g Z F1 U H1 e1 _ _ K1 p λxs e2 vs F2 H2 p2 hl s2 K2 r2=>k _ e2 _ F2 H2 p2 #[1] (af s1 s2) K2 (.cons (r1.mono s2) r2)
theorem zx{x1}(ha:Gm ob X es fa)(hn:autoParam (es.length<=1000) on):Bk ob X (.Tuple es x1 pos) (A8 fa):=by
 obtain⟨t,ht,h⟩:=ha.ex;refine#[_,yr ht,λZ F U H env P Q K hf k=>?_];refine h Z F U H env _ _ K hf λxs e1 vs F1 H1 p hl s1 K1 r1=>#[?_,λq hq=>?_]
 .rw[r1.len,hl,aaJ];omega
 .have hF  := dO.none_of K1.sF hq;exact k _ e1 _ _ _ p (af s1 (ao hF)) (K1.lay hq) (.tup (.inl (.inl ah)) (r1.mono (ao hF)))
theorem zK(ha:Gm ob X es fa)(hn:autoParam (es.length<=1000) on):EY ob X (.List es pos) (BP fa):=by
 obtain⟨t,ht,h⟩:=ha.ex;refine#[_,m6 ht,λZ F U H env P Q K hf k=>?_];refine h Z F U H env _ _ K hf λxs e1 vs F1 H1 p hl s1 K1 r1=>#[?_,λq hq=>?_]
 .rw[r1.len,hl,aaJ];omega
 .exact k _ e1 _ _ _ p s1 (λ_=>#[0]) (K1.own hq #[vs,ah,r1])
def Ef(ob:B3)(X:Cx)(r:R2)(g:PV->PV->Option PV):Prop :=
 ∀(Z:Zn) (F:Hp) (U:St) (H:Hp) (env:En) (v u:V) (x y z:PV) (Q:VK),rW #[14] Z F U H env->Vw #[14] F H v x->Vw #[14] F H u y->g x y=some z ->
  (∀v' F' H',dO F F'->rW #[14] Z F' U H' env->Rep X.K F' v' z->Q v' H')->r v u H Q
def RH(ob:B3)(X:Cx)(r:R2)(g:PV->PV->Option PV):Prop :=
 ∀(Z:Zn) (F:Hp) (U:St) (H:Hp) (env:En) (v u:V) (x y z:PV) (Q:VK),rW #[14] Z F U H env->Rep X.K F v x->Vw #[14] F H u y->g x y=some z ->
  (∀v' F' H',dO F F'->rW #[14] Z F' U H' env->Rep X.K F' v' z->Q v' H')->r v u H Q
variable{r:R2}
def RZ{o:PV->PV->Option PV}(h:Ef ob X r o):RH ob X r o:=λZ F U H env v u x y z Q K rx ry=>h Z F U H env v u x y z Q K (.inl rx) ry
variable{tb:TE}
def g6{o:PV->PV->Option PV}{ta:TE}(hq:RH ob X r o)
  (ha:∀(Z:Zn) (F:Hp) (U:St) (H:Hp) (env:En) (P:Aal) (Q:VK),rW #[14] Z F U H env->f env P->#[7]->ta U H Q)
  (hb:∀(Z:Zn) (F:Hp) (U:St) (H:Hp) (env:En) (P:Aal) (Q:VK),rW #[14] Z F U H env->g env P->(∀x bY v F' H',P x bY->dO F F'->rW #[14] Z F' U H' bY->Vw #[14] F' H' v x->Q v H')->tb U H Q) :
  ∀(Z:Zn) (F:Hp) (U:St) (H:Hp) (env:En) (P:Aal) (Q:VK),rW #[14] Z F U H env->lE o f g env P->#[7]->E6 r ta tb U H Q:=by
 refine λZ F U H env P Q K hf k=>ha Z F U H env _ _ K hf λx e1 v F1 H1 p s1 K1 r1=>hb Z F1 U H1 e1 _ _ K1 p λy e2 u F2 H2 p2 s2 K2 r2=>?_;obtain⟨z,ez,p3⟩:=p2;exact hq Z F2 U H2 e2 v u x y z Q K2 (r1.mono s2) r2 ez λv' F' H' s3 K3 r3=>k z e2 v' F' H' p3 (af s1 (af s2 s3)) K3 r3
def m8{o:PV->PV->Option PV}(hq:Ef ob X r o)
  (hb:∀(Z:Zn) (F:Hp) (U:St) (H:Hp) (env:En) (P:Aal) (Q:VK),rW #[14] Z F U H env->g env P->(∀x bY v F' H',P x bY->dO F F'->rW #[14] Z F' U H' bY->Vw #[14] F' H' v x->Q v H')->tb U H Q) :
  ∀(Z:Zn) (F:Hp) (U:St) (H:Hp) (env:En) (P:Aal) (Q:VK),rW #[14] Z F U H env->EU o i g env P->#[7]->E6 r (Bw i) tb U H Q:=by
 intro Z F U H env P Q K hf k;obtain⟨hd,hf⟩:=hf;obtain⟨v,hv⟩:∃v,U[i]?=some (some v):=by
  cases e:env[i]? with
  |none=>rw[e]at hd;cases hd
  |some w=>
   cases w with
   |none=>rw[e]at hd;cases hd
   |some s=>obtain⟨fp,L⟩:=K.sl;obtain⟨v,hv,_⟩:=L.at' i s e;exact#[v,hv]
 refine#[v,hv,hb Z F U H env _ _ K hf λy e2 u F2 H2 p2 s2 K2 r2=>?_];unfold Bj at p2;have fin:∀(s:Sl),(s.k≠2/\s.k≠4)->e2[i]?=some (some s)->opt (o s.v y) (λz=>P z e2)->r v u H2 Q:=λs hk hs #[z,ez,p3]=>by obtain⟨v',JX,rv⟩:=K2.vw hs hk;rw[hv]at JX;cases JX;exact hq Z F2 U H2 e2 v u s.v y z Q K2 rv r2 ez λv' F' H' s3 K3 r3=>k z e2 v' F' H' p3 (af s2 s3) K3 r3
 split at p2
 .rename_i hy;exact fin _ #[0] hy p2
 .rename_i hy;exact fin _ #[0] hy p2
 .rename_i hy;exact fin _ #[0] hy p2
 .exact p2.elim
open PySem L2 PyProof.Rows
noncomputable def Ct(gE:List (Key×PV))(k:Key):Aat:=(gE.find? λkv=>decide (kv.1=k)).map (·.2)
noncomputable def EM(gE:List (Key×PV))(k:Key)(v:PV):List (Key×PV) :=
 if (gE.any λkv=>decide (kv.1=k))=true then gE.map (λkv=>if kv.1=k then (kv.1,v)else kv)else gE++[(k,v)]
noncomputable def Fi:PV->Option Key
 |.int i=>some (.inl i)
 |.str s=>some (.inr s)
 |_=>none
variable{K:aag}{F:Hp}
variable{k:Key}{vs:List (Key×V)}{xs:List (Key×PV)}
def A0.val(h:A0 K F vs xs):(CO vs k=none/\Ct xs k=none)\/∃v x,CO vs k=some v/\Ct xs k=some x/\Rep K F v x:=by
 induction h using A0.ind with
 |nil=>exact .inl #[rfl,rfl]
 |@cons k' v x vs xs h _ ih=>
  by_cases e:k'=k
  .exact .inr #[v,x,cX e,by simp[Ct,e],h]
  .rw[fo e];have e2:Ct ((k',x)::xs) k=Ct xs k:=by simp[Ct,e]
   rw[e2];exact ih
def A0.any(h:A0 K F vs xs):(vs.any λkv=>decide (kv.1=k))=xs.any λkv=>decide (kv.1=k):=by
 induction h using A0.ind with
 |nil=>rfl
 |cons _ _ ih=>exact congrArg _ ih
def A0.app{ws:List (Key×V)}{ys:List (Key×PV)}(h:A0 K F vs xs)(k:A0 K F ws ys):A0 K F (vs++ws) (xs++ys):=by
 induction h using A0.ind with
 |nil=>exact k
 |cons a _ ih=>exact .cons a ih
variable{v:V}{x:PV}
def A0.Na(hv:Rep K F v x)(h:A0 K F vs xs):A0 K F (vs.map λkv=>if kv.1=k then (kv.1,v)else kv) (xs.map λkv=>if kv.1=k then (kv.1,x)else kv):=by
 induction h using A0.ind with
 |nil=>exact .nil
 |@cons k' v' x' vs xs a _ ih=>
  rw[aaw,aaw];by_cases e:k'=k
  .rw[if_pos e,if_pos e];exact .cons hv ih
  .rw[if_neg e,if_neg e];exact .cons a ih
def A0.put(h:A0 K F vs xs)(hv:Rep K F v x):A0 K F (putK vs k v) (EM xs k x):=by
 unfold putK EM;rw[h.any];split
 .exact h.Na hv
 .exact h.app (.cons hv .nil)
def eR(h:Fi x=some k)(r:Rep K F v x):v=kV k:=by cases r<;>cases h<;>rfl
noncomputable def iD:PV->PV->Option PV
 |.tup xs,.int i=>Ih xs i
 |.lst xs,.int i=>Ih xs i
 |.str s,.int i=>if s.length<=100000 then (Ih s.cps.toList i).map λc=>.str #[#v[c]]else none
 |.Bp gE,y=>(Fi y).bind (Ct gE)
 |_,_=>none
def M4:R2:=λx y H Q=>∃a v,x=.ref a/\GY H a y (some v)/\Q v H
variable{ob:B3}{X:Cx}{a b c e:Expr}{f g h:WE}{pos:Pos}
def Cy(hu:X.A.units+1<cLine):Kn X M4:=by intro value slice pins s U H x y v u Q I rx ry h hs;obtain⟨a,z,rfl,g,q⟩:=h;cases rx;exact tail_any (iH I g) PySem.F.slot_dict_getitem.lookup (lU hu I g ry λw' s3 I3 DG=>#[z,H,I3,DG,q]) hs
def P9(K:aag):R2:=λx y H Q=>V4 K x y H Q\/M4 x y H Q
def sC(hu:X.A.units+1<cLine):Kn X (P9 X.K):=Ni.or (Cy hu)
variable{i:Int}
def pT{vs:Aag}{xs:Aab}{z:PV}(r:nE K F vs xs)(h:Ih xs i=some z):∃v,Ih vs i=some v/\Rep K F v z:=by
 unfold Ih at h⊢;rw[r.len];cases e:JU xs.length i with
 |none=>rw[e]at h;cases h
 |some j=>rw[e]at h;exact r.get h
variable{M:Md}{H:Hp}
def LB(h:Vw M F H v x)(hk:Fi x=some k):v=kV k:=by
 cases x<;>try cases hk
 .exact h.int
 .exact h.str
theorem JP:Ef ob X (P9 X.K) iD:=by
 intro Z F U H env v u x y z Q K rx ry hz k;unfold iD at hz;split at hz
 .obtain⟨p,vs,rfl,h1,h2⟩:=rx.tup K.sF;rw[ry.int];obtain⟨w,e1,e2⟩:=pT h2 hz;exact .inl (.inr (.inl #[p,vs,_,w,rfl,rfl,h1,e1,k w F H ai K e2]))
 .obtain⟨p,vs,rfl,h1,h2⟩:=rx.lst K.sF;rw[ry.int];obtain⟨w,e1,e2⟩:=pT h2 hz;exact .inl (.inl #[p,vs,_,w,rfl,rfl,.inl (.inl h1),e1,k w F H ai K e2])
 .rename_i s i;split at hz
  .rw[rx.str,ry.int];cases e:Ih s.cps.toList i with
   |none=>rw[e]at hz;cases hz
   |some c=>rw[e]at hz;cases hz;exact .inl (.inr (.inr #[s,i,c,rfl,rfl,by rw[aaJ];omega,e,k _ F H ai K (.str _)]))
  .cases hz
 .rename_i gE;obtain⟨p,vs,rfl,h1,h2⟩:=rx.Bp K.sF;cases e:Fi y with
  |none=>rw[e]at hz;cases hz
  |some kk=>
   rw[e]at hz;have hz:Ct gE kk=some z:=hz;rw[LB ry e];rcases h2.val with ⟨_,e2⟩|⟨w,w',e1,e2,e3⟩
   .rw[e2]at hz;cases hz
   .rw[e2]at hz;cases hz;refine .inr #[p,w,rfl,?_,k w F H ai K e3];rw[<- e1];exact R6 h1
 .cases hz
def AM(hu:X.A.units+1<cLine)(ha:Bk ob X a f)(hb:Fz ob X b g)(hs:autoParam (kZ b) Ch):Bk ob X (.Subscript a b pos) (lE iD f g):=by obtain⟨ta,ha,ka⟩:=ha.ex;obtain⟨tb,hb,kb⟩:=hb.ex;exact#[_,cg (sC hu) ha hb hs,g6 (RZ JP) ka kb]
variable{p:Pos}
def zN(i:Nat){x:Str}(hu:X.A.units+1<cLine)(ha:PE X (.Name x p) (Bw i))(hb:Fz ob X b g)(hs:autoParam (kZ b) Ch):Bk ob X (.Subscript (.Name x p) b pos) (EU iD i g):=by obtain⟨tb,hb,kb⟩:=hb.ex;exact#[_,cg (sC hu) ha hb hs,m8 JP kb]
variable{r r':R2}
def BX.or{fn:Value->Value->Sem Value}(h:BX X fn r)(h':BX X fn r'):BX X fn (λx y H Q=>r x y H Q\/r' x y H Q):=by
 intro pins s U H x y v u Q I rx ry q;rcases q with q|q
 .exact h pins s U H x y v u Q I rx ry q
 .exact h' pins s U H x y v u Q I rx ry q
noncomputable def AS:PV->PV->Option PV
 |.int i,.int j=>some (.int (i+j))
 |.str s,.str t=>if s.length+t.length<=100000 then some (.str (s++t))else none
 |.tup xs,.tup ys=>if xs.length+ys.length<=100000 then some (.tup (xs++ys))else none
 |.lst xs,.lst ys=>if xs.length+ys.length<=100000 then some (.lst (xs++ys))else none
 |_,_=>none
def Vw.Gp{xs:Aab}(h:Vw M F H v (.tup xs)):Rep M.K F v (.tup xs):=by
 rcases h with h|⟨a,rfl,h⟩
 .exact h
 .exact h.elim
def LP(K:aag):R2:=λx y H Q=>((Gy λi j=>.int (i+j)) x y H Q\/∃i j,x=.str i/\y=.str j/\i.length+j.length<=sizeLine/\Q (.str (i++j)) H)\/(LO K x y H Q\/Qe x y H Q)
def pc:BX X (acg .Add) (LP X.K):=BX.or (BX.or dg qm) (BX.or wQ yI)
theorem o9:Ef ob X (LP X.K) AS:=by
 intro Z F U H env v u x y z Q K rx ry hz k;unfold AS at hz;split at hz
 .cases hz;rw[rx.int,ry.int];exact .inl (.inl #[_,_,rfl,rfl,k _ F H ai K (.int _)])
 .split at hz
  .cases hz;rw[rx.str,ry.str];exact .inl (.inr #[_,_,rfl,rfl,by rw[aaJ];omega,k _ F H ai K (.str _)])
  .cases hz
 .rename_i xs ys;split at hz
  .cases hz;obtain⟨p,vs,rfl,h1,h2⟩:=rx.tup K.sF;obtain⟨q,ws,rfl,g1,g2⟩:=ry.tup K.sF;have hl:=h2.len;have gl:=g2.len;refine .inr (.inl #[p,q,vs,ws,rfl,rfl,h1,g1,by rw[aaJ];omega,?_]);refine#[λe=>k _ F H ai K ?_,λe=>k _ F H ai K ?_,λr hr=>?_]
   .subst e;have  := List.length_eq_zero_iff.mp hl.symm;subst this;exact ry.Gp
   .subst e;have  := List.length_eq_zero_iff.mp gl.symm;subst this;rw[aa0];exact rx.Gp
   .have hF  := dO.none_of K.sF hr;exact k _ _ _ (ao hF) (K.lay hr) (.tup (.inl (.inl ah)) ((h2.app g2).mono (ao hF)))
  .cases hz
 .split at hz
  .cases hz;obtain⟨p,vs,rfl,h1,h2⟩:=rx.lst K.sF;obtain⟨q,ws,rfl,g1,g2⟩:=ry.lst K.sF;have hl:=h2.len;have gl:=g2.len;refine .inr (.inr #[p,q,vs,ws,rfl,rfl,h1,g1,by rw[aaJ];omega,λr hr=>?_]);have hF  := dO.none_of K.sF hr;exact k _ _ _ (ao hF) (K.lay hr) (.lst ah ((h2.app g2).mono (ao hF)))
  .cases hz
 .cases hz
variable{o:PV->PV->Option PV}
def fe{op:Operator}(hr:BX X (acg op) r)(hq:Ef ob X r o)(ha:Bk ob X a f)(hb:Fz ob X b g):Bk ob X (.BinOp a op b pos) (lE o f g):=by obtain⟨ta,ha,ka⟩:=ha.ex;obtain⟨tb,hb,kb⟩:=hb.ex;exact#[_,aF hr ha hb,g6 (RZ hq) ka kb]
def xD{op:Operator}(i:Nat){x:Str}(hr:BX X (acg op) r)(hq:Ef ob X r o)(ha:PE X (.Name x p) (Bw i))(hb:Fz ob X b g):Bk ob X (.BinOp (.Name x p) op b pos) (EU o i g):=by obtain⟨tb,hb,kb⟩:=hb.ex;exact#[_,aF hr ha hb,m8 hq kb]
def zS(ha:Bk ob X a f)(hb:Fz ob X b g):Bk ob X (.BinOp a .Add b pos) (lE AS f g):=fe pc o9 ha hb
noncomputable def iI(C:Int->Int->Bool)(h:Int->Int->Int):PV->PV->Option PV
 |.int i,.int j=>if C i j=true then some (.int (h i j))else none
 |_,_=>none
def g8{C:Int->Int->Bool}{D:Int->Int->Prop}{h:Int->Int->Int}(hC:∀i j,C i j=true->D i j):Ef ob X (rI D λi j=>.int (h i j)) (iI C h):=by
 intro Z F U H env v u x y z Q K rx ry hz k;unfold iI at hz;split at hz
 .split at hz
  .rename_i hc;cases hz;rw[rx.int,ry.int];exact#[_,_,rfl,rfl,hC _ _ hc,k _ F H ai K (.int _)]
  .cases hz
 .cases hz
noncomputable def DM:=iI (λ_ _=>true) λi j=>i - j
noncomputable def NT(i j:Int):Bool:=(decide (-(2 ^ 64)<i) && decide (i<2 ^ 64)) || (decide (-(2 ^ 64)<j) && decide (j<2 ^ 64))
noncomputable def DP:PV->PV->Option PV
 |.int i,.int j=>if NT i j=true then some (.int (i*j))else none
 |.str s,.int i=>if 0<=i/\i<=1000/\s.length<=1000 then some (.str (Gx s i.toNat))else none
 |.lst xs,.int i=>if -1000<=i/\i<=1000/\xs.length<=1000 then some (.lst (aaR i.toNat xs).flatten)else none
 |_,_=>none
noncomputable def DQ:=iI (λ_ j=>decide (0<j)) λi j=>i % j
noncomputable def Gi:=iI (λ_ j=>decide (0<j) && decide (j<1073741824)) λi j=>i / j
noncomputable def Fb:=iI (λi j=>decide (0<=j) && decide (j<=1000000) && decide (i.natAbs<2 ^ 64)) λi j=>i ^ j.toNat
def wN:BX X (acg .Sub) (rI (λ_ _=>True) λi j=>.int (i - j)):=by intro pins s U H x y v u Q I rx ry h;obtain⟨i,j,e1,e2,_,q⟩:=h;exact yC pins s U H x y v u Q I rx ry #[i,j,e1,e2,q]
def zy(ha:Bk ob X a f)(hb:Fz ob X b g):Bk ob X (.BinOp a .Sub b pos) (lE DM f g):=fe wN (g8 λ_ _ _=>trivial) ha hb
def zJ(ha:Bk ob X a f)(hb:Fz ob X b g):Bk ob X (.BinOp a .Mod b pos) (lE DQ f g):=fe cr (g8 λ_ _ h=>of_decide_eq_true h) ha hb
def zQ(ha:Bk ob X a f)(hb:Fz ob X b g):Bk ob X (.BinOp a .FloorDiv b pos) (lE Gi f g):=fe ko (g8 λ_ _ h=>by simp at h;exact h) ha hb
def zD(ha:Bk ob X a f)(hb:Fz ob X b g):Bk ob X (.BinOp a .Pow b pos) (lE Fb f g):=fe rS (g8 λ_ _ h=>by simp at h;exact#[h.1.1,h.1.2,h.2]) ha hb
def nE.rep{vs:Aag}{xs:Aab}(r:nE K F vs xs):∀n:Nat,nE K F (aaR n vs).flatten (aaR n xs).flatten
 |0=>.nil
 |n+1=>r.app (r.rep n)
theorem wJ:Ef ob X (λx y H Q=>(rI Hw λi j=>.int (i*j)) x y H Q\/(LK x y H Q\/PX x y H Q)) DP:=by
 intro Z F U H env v u x y z Q K rx ry hz k;unfold DP at hz;split at hz
 .split at hz
  .rename_i hc;cases hz;rw[rx.int,ry.int];refine .inl #[_,_,rfl,rfl,?_,k _ F H ai K (.int _)];unfold NT at hc;simp at hc;exact hc
  .cases hz
 .split at hz
  .rename_i hc;cases hz;rw[rx.str,ry.int];exact .inr (.inl #[_,_,rfl,rfl,hc.1,hc.2.1,hc.2.2,k _ F H ai K (.str _)])
  .cases hz
 .rename_i xs i;split at hz
  .cases hz;obtain⟨p,vs,rfl,h1,h2⟩:=rx.lst K.sF;rw[ry.int];have hl:=h2.len;refine .inr (.inr #[p,i,vs,rfl,rfl,h1,#[],#[],?_,λr hr=>?_])
   .have h3:i.toNat<=1000:=by omega
    have h4:vs.length<=1000:=by omega
    calc vs.length*i.toNat<=1000*1000:=Nat.mul_le_mul h4 h3
     _<=16777216:=by decide
   .have hF  := dO.none_of K.sF hr;exact k _ _ _ (ao hF) (K.lay hr) (.lst ah ((h2.rep _).mono (ao hF)))
  .cases hz
 .cases hz
def zI(ha:Bk ob X a f)(hb:Fz ob X b g):Bk ob X (.BinOp a .Mult b pos) (lE DP f g):=fe (BX.or cq (BX.or wP yD)) wJ ha hb
noncomputable def Iy:PV->Option PV
 |.int i=>some (.int (-i))
 |_=>none
def zH(ha:Fz ob X a f):Bk ob X (.UnaryOp .USub a pos) (Mg Iy f):=by
 obtain⟨ta,ha,ka⟩:=ha.ex;refine#[_,vA qP ha,λZ F U H env P Q K hf k=>ka Z F U H env _ _ K hf λx e1 v F1 H1 p s1 K1 r1=>?_];obtain⟨z,hz,p⟩:=p;unfold Iy at hz;split at hz
 .cases hz;rw[r1.int];exact#[_,rfl,k _ e1 _ F1 H1 p s1 K1 (.int _)]
 .cases hz
variable{op:CmpOp}
def e9(hr:BX X (aa1 op) r)(hq:Ef ob X r o)(ha:Bk ob X a f)(hb:Fz ob X b g)(hm:adn op b=false):Bk ob X (.Compare a [op] [b] pos) (lE o f g):=by obtain⟨ta,ha,ka⟩:=ha.ex;obtain⟨tb,hb,kb⟩:=hb.ex;exact#[_,j8 hr ha hb hm,g6 (RZ hq) ka kb]
def zV{o:PV->PV->Option PV}(he:∃t,PE X (.Compare a [op] [b] pos) t/\PT X (.Compare a [op] [b] pos) (Io t)/\∀(Z:Zn) (F:Hp) (U:L2.St) (H:Hp) (env:En) (P:Aal) (Q:VK),rW #[14] Z F U H env->f env P->#[7]->t U H Q):E3 ob X (.Compare a [op] [b] pos) (A7 f):=by
 obtain⟨t,_,ht,h⟩:=he;refine#[_,ht,λZ F U H env P Q K hf k=>h Z F U H env _ _ K hf λx e1 v F1 H1 p s1 K1 r1=>?_];obtain⟨z,hz,p⟩:=p;cases x<;>try (cases hz)
 cases r1;exact#[_,rfl,k _ e1 F1 H1 p s1 K1]
def bU(hr:BX X (aa1 op) r)(hq:Ef ob X r o)(ha:Bk ob X a f)(hb:Fz ob X b g)(hm:adn op b=false):E3 ob X (.Compare a [op] [b] pos) (A7 (lE o f g)):=by obtain⟨ta,ha,ka⟩:=ha.ex;obtain⟨tb,hb,kb⟩:=hb.ex;exact zV (o:=o) #[_,j8 hr ha hb hm,gZ hr ha hb hm,g6 (RZ hq) ka kb]
def aZ{P:V->V->Hp->V->Prop}(h:∀(F H:Hp) (v u:V) (x y z:PV),dO F H->Vw #[14] F H v x->Vw #[14] F H u y->o x y=some z->∃w,(∀F,Rep X.K F w z)/\∀Q:VK,Q w H->r v u H Q):Ef ob X r o:=by intro Z F U H env v u x y z Q K rx ry hz k;obtain⟨w,h1,h2⟩:=h F H v u x y z K.sF rx ry hz;exact h2 Q (k w F H ai K (h1 F))
noncomputable def HM:PV->PV->Option PV
 |.int i,.int j=>some (.bl (decide (i<j)))
 |.str s,.str t=>some (.bl (decide (Bv s t)))
 |_,_=>none
noncomputable def HN:PV->PV->Option PV
 |.int i,.int j=>some (.bl (decide (i<=j)))
 |.str s,.str t=>some (.bl (!decide (Bv t s)))
 |_,_=>none
noncomputable def J5:PV->PV->Option PV
 |.int i,.int j=>some (.bl (decide (j<i)))
 |_,_=>none
def rO:Ef ob X (λx y H Q=>(Gy λi j=>.bl (decide (i<j))) x y H Q\/∃i j,x=.str i/\y=.str j/\Q (.bl (decide (i.cps.toList<j.cps.toList))) H) HM:=by
 refine aZ (P:=λ_ _ _ _=>True) λF H v u x y z sF rx ry hz=>?_;unfold HM at hz;split at hz
 .cases hz;rw[rx.int,ry.int];exact#[_,λ_=>.bl _,λQ q=>.inl #[_,_,rfl,rfl,q]]
 .cases hz;rw[rx.str,ry.str];exact#[_,λ_=>.bl _,λQ q=>.inr #[_,_,rfl,rfl,q]]
 .cases hz
def jv:Ef ob X (λx y H Q=>(Gy λi j=>.bl (decide (i<=j))) x y H Q\/∃i j,x=.str i/\y=.str j/\Q (.bl (!decide (j.cps.toList<i.cps.toList))) H) HN:=by
 refine aZ (P:=λ_ _ _ _=>True) λF H v u x y z sF rx ry hz=>?_;unfold HN at hz;split at hz
 .cases hz;rw[rx.int,ry.int];exact#[_,λ_=>.bl _,λQ q=>.inl #[_,_,rfl,rfl,q]]
 .cases hz;rw[rx.str,ry.str];exact#[_,λ_=>.bl _,λQ q=>.inr #[_,_,rfl,rfl,q]]
 .cases hz
def rQ:Ef ob X (Gy λi j=>.bl (decide (j<i))) J5:=by
 refine aZ (P:=λ_ _ _ _=>True) λF H v u x y z sF rx ry hz=>?_;unfold J5 at hz;split at hz
 .cases hz;rw[rx.int,ry.int];exact#[_,λ_=>.bl _,λQ q=>#[_,_,rfl,rfl,q]]
 .cases hz
def vB:BX X (aa1 .Lt) (λx y H Q=>(Gy λi j=>.bl (decide (i<j))) x y H Q\/∃i j,x=.str i/\y=.str j/\Q (.bl (decide (i.cps.toList<j.cps.toList))) H):=BX.or AB rV
def mH:BX X (aa1 .LtE) (λx y H Q=>(Gy λi j=>.bl (decide (i<=j))) x y H Q\/∃i j,x=.str i/\y=.str j/\Q (.bl (!decide (j.cps.toList<i.cps.toList))) H):=BX.or AC rX
noncomputable def FR:PV->Option Bool
 |.AZ=>some false
 |.bl b=>some b
 |.int i=>some (i != 0)
 |.str s=>if s.length<=100000 then some ((s.length:Int) != 0)else none
 |.tup xs=>some (!xs.isEmpty)
 |.lst xs=>some (!xs.isEmpty)
 |.Bp xs=>some (!xs.isEmpty)
 |_=>none
def Cu(a:WE):WT:=λenv P=>a env λx e=>opt (FR x) λb=>P b e
theorem zT(he:Fz ob X e f)(h:autoParam (∀whole,isTrue e X.env whole=(do let v <- whole;aec e.pos;adp [v] (truthy v))) AT):E3 ob X e (Cu f):=by
 obtain⟨t,ht,k0⟩:=he.ex;refine#[_,t8 ht h,λZ F U H env P Q K hf k=>k0 Z F U H env _ _ K hf λx e1 v F1 H1 p s1 K1 r1=>?_];obtain⟨z,hz,p⟩:=p;refine#[z,?_,k _ e1 F1 H1 p s1 K1];have NQ:∀{O w:Type} {l:List O} {m:List w},l.length=m.length->l.isEmpty=m.isEmpty:=λ{O w l m} h=>by cases l<;>cases m<;>simp at h⊢
 cases x<;>simp only[FR]at hz
 .cases hz;rw[r1.AZ];rfl
 .cases hz;rw[r1.bl];rfl
 .cases hz;rw[r1.int];rfl
 .split at hz
  .cases hz;rw[r1.str];exact#[by rw[aaJ];omega,rfl]
  .cases hz
 .cases hz;obtain⟨p,vs,rfl,h1,h2⟩:=r1.tup K1.sF;exact .inr (.inl #[vs,h1,by rw[NQ h2.len]])
 .cases hz;obtain⟨p,vs,rfl,h1,h2⟩:=r1.lst K1.sF;exact .inl #[vs,.inl (.inl h1),by rw[NQ h2.len]]
 .cases hz;obtain⟨p,vs,rfl,h1,h2⟩:=r1.Bp K1.sF;exact .inr (.inr #[vs,h1,by rw[NQ h2.len]])
 .cases hz
 .cases hz
variable{t u:WT}{rest:Aai}
def zW(h:N8 ob X e t):E3 ob X e t:=by obtain⟨w,hw,k⟩:=h.ex;exact#[w,hw.pt,k]
def xH(h:E3 ob X a t):N8 ob X (.BoolOp .And [a] pos) t:=by obtain⟨w,hw,k⟩:=h.ex;exact#[w,pw_and1 hw,k]
def zX(h:E3 ob X a t):N8 ob X (.BoolOp .Or [a] pos) t:=by obtain⟨w,hw,k⟩:=h.ex;exact#[w,pw_or1 hw,k]
def sZ(h:E3 ob X a t)(h2:N8 ob X (.BoolOp .And (b::rest) pos) u):N8 ob X (.BoolOp .And (a::b::rest) pos) (G6 t u):=by
 obtain⟨w,hw,k⟩:=h.ex;obtain⟨w2,TR,k2⟩:=h2.ex;refine#[_,pw_and hw TR,λZ F U H env P Q K hf kk=>k Z F U H env _ _ K hf λx e1 F1 H1 p s1 K1=>?_];cases x with
 |true=>exact Fj (k2 Z F1 U H1 e1 P Q K1 p λx e2 F2 H2 p2 s2 K2=>kk x e2 F2 H2 p2 (af s1 s2) K2)
 |false=>exact ES (kk _ e1 F1 H1 p s1 K1)
def vI(h:E3 ob X a t)(h2:N8 ob X (.BoolOp .Or (b::rest) pos) u):N8 ob X (.BoolOp .Or (a::b::rest) pos) (GZ t u):=by
 obtain⟨w,hw,k⟩:=h.ex;obtain⟨w2,TR,k2⟩:=h2.ex;refine#[_,pw_or hw TR,λZ F U H env P Q K hf kk=>k Z F U H env _ _ K hf λx e1 F1 H1 p s1 K1=>?_];cases x with
 |true=>exact Fj (kk _ e1 F1 H1 p s1 K1)
 |false=>exact ES (k2 Z F1 U H1 e1 P Q K1 p λx e2 F2 H2 p2 s2 K2=>kk x e2 F2 H2 p2 (af s1 s2) K2)
def zU(h:E3 ob X a t):E3 ob X (.UnaryOp .Not a pos) (CD t):=by obtain⟨w,hw,k⟩:=h.ex;exact#[_,yl hw,λZ F U H env P Q K hf kk=>k Z F U H env _ _ K hf λx e1 F1 H1 p s1 K1=>kk _ e1 F1 H1 p s1 K1]
def zP(hc:E3 ob X c t)(ha:Bk ob X a f)(hb:Bk ob X b g):Bk ob X (.IfExp c a b pos) (Lp t f g):=by
 obtain⟨w,hw,k⟩:=hc.ex;obtain⟨ta,ha,ka⟩:=ha.ex;obtain⟨tb,hb,kb⟩:=hb.ex;refine#[_,uf hw ha hb,λZ F U H env P Q K hf kk=>k Z F U H env _ _ K hf λx e1 F1 H1 p s1 K1=>?_];cases x with
 |true=>exact Fj (ka Z F1 U H1 e1 P Q K1 p λx e2 v F2 H2 p2 s2 K2 r2=>kk x e2 v F2 H2 p2 (af s1 s2) K2 r2)
 |false=>exact ES (kb Z F1 U H1 e1 P Q K1 p λx e2 v F2 H2 p2 s2 K2 r2=>kk x e2 v F2 H2 p2 (af s1 s2) K2 r2)
noncomputable def EV:PV->Option Bool
 |.bl b=>some b
 |_=>none
def Kg(a b:WE):WE:=λenv P=>a env λx e=>opt (EV x) λk=>if k=true then b e P else P (.bl false) e
def Zv(a b:WE):WE:=λenv P=>a env λx e=>opt (EV x) λk=>if k=true then P (.bl true) e else b e P
def U9(a:WE):WE:=λenv P=>a env λx e=>opt (EV x) λk=>P (.bl (!k)) e
def zF{op}(h:Bk ob X a f):Bk ob X (.BoolOp op [a] pos) f:=by obtain⟨t,ht,k⟩:=h.ex;exact#[t,yw ht,k]
def pR{k:Bool}(r:Rep K F v x)(h:EV x=some k):v=.bl k/\x=.bl k:=by cases x<;>cases h;cases r;exact#[rfl,rfl]
def zR(ha:Bk ob X a f)(hb:Bk ob X (.BoolOp .And (b::rest) pos) g):Bk ob X (.BoolOp .And (a::b::rest) pos) (Kg f g):=by
 obtain⟨ta,ha,ka⟩:=ha.ex;obtain⟨tb,hb,kb⟩:=hb.ex;refine#[_,yA ha hb,λZ F U H env P Q K hf kk=>ka Z F U H env _ _ K hf λx e1 v F1 H1 p s1 K1 r1=>?_];obtain⟨z,hz,p⟩:=p;obtain⟨rfl,rfl⟩:=pR r1 hz;refine#[z,rfl,?_];cases z with
 |true=>exact Fj (kb Z F1 U H1 e1 P Q K1 p λx e2 v F2 H2 p2 s2 K2 r2=>kk x e2 v F2 H2 p2 (af s1 s2) K2 r2)
 |false=>exact ES (kk _ e1 _ F1 H1 p s1 K1 (.bl _))
noncomputable def Br:Nat->PV->PV->Option Bool
 |0,_,_=>none
 |d+1,x,y=>match x,y with
  |.AZ,.AZ=>some true
  |.AZ,.bl _=>some false
  |.AZ,.int _=>some false
  |.AZ,.str _=>some false
  |.bl _,.AZ=>some false
  |.bl a,.bl b=>some (a==b)
  |.bl a,.int b=>some ((if a then 1 else 0)==b)
  |.bl _,.str _=>some false
  |.int _,.AZ=>some false
  |.int a,.bl b=>some (a==(if b then 1 else 0))
  |.int a,.int b=>some (a==b)
  |.int _,.str _=>some false
  |.str _,.AZ=>some false
  |.str _,.bl _=>some false
  |.str _,.int _=>some false
  |.str a,.str b=>some (a==b)
  |.tup xs,.tup ys=>((xs.zip ys).mapM λp=>Br d p.1 p.2).map λbs=>bs.all id && xs.length==ys.length
  |.lst xs,.lst ys=>if xs.length=ys.length then ((xs.zip ys).mapM λp=>Br d p.1 p.2).map λbs=>bs.all id else some false
  |.tup _,.lst _=>some false
  |.lst _,.tup _=>some false
  |.tup _,.AZ=>some false
  |.tup _,.bl _=>some false
  |.tup _,.int _=>some false
  |.tup _,.str _=>some false
  |.AZ,.tup _=>some false
  |.bl _,.tup _=>some false
  |.int _,.tup _=>some false
  |.str _,.tup _=>some false
  |.lst _,.AZ=>some false
  |.lst _,.bl _=>some false
  |.lst _,.int _=>some false
  |.lst _,.str _=>some false
  |.AZ,.lst _=>some false
  |.bl _,.lst _=>some false
  |.int _,.lst _=>some false
  |.str _,.lst _=>some false
  |_,_=>none
variable{O:Type}
def aH{w:Type}{f:O->Option w}:∀{l:List O} {m:List w},l.mapM f=some m->m.length=l.length/\∀(i:Nat) (a:O),l[i]?=some a->∃b,m[i]?=some b/\f a=some b
 |[],m,h=>by simp_all
 |a::l,m,h=>by
  rw[abh]at h;cases ea:f a with
  |none=>rw[ea]at h;cases h
  |some b=>
   rw[ea]at h;cases el:l.mapM f with
   |none=>rw[el]at h;cases h
   |some m'=>
    rw[el]at h;cases h;obtain⟨h1,h2⟩:=aH el;refine#[#[1],λi c e=>?_];cases i with
    |zero=>simp at e;subst e;exact#[b,rfl,ea]
    |succ i=>exact h2 i c e
def oF.J6:∀{xs:Aag} {us:Aad} {i:Nat} {u:Value},oF xs us->us[i]?=some u->∃x,xs[i]?=some x/\RelV x u
 |_,_,_,_,.nil,e=>by simp_all
 |_,_,0,_,.cons r _,e=>by simp_all
 |_,_,i+1,x,.cons _ t,e=>by obtain⟨u,h1,h2⟩:=oF.J6 t (by simpa using e);exact#[u,#[1],h2]
variable{pins:Aac}{U:L2.St}{s:Shared}
variable{ws:Aag}
def b7(I:Inv X pins U H s){a:Addr}{vs:Aag}(h1:Cr X.K H a vs)(h2:Cf X.K H a ws):False:=by obtain⟨_,_,⟨o,n,e,c,_⟩,_⟩:=I.list h1;obtain⟨_,_,⟨o',e',c',_⟩,_⟩:=I.tuple h2;rw[e]at e';cases e';rw[c]at c';exact absurd c' #[2]
def bA{e:Nat->Bool}{bs:List Bool}(h:∀j,j<bs.length->bs[j]?=some (e j)):(aa3 bs.length).all e=bs.all id:=by
 rw[aaQ,abN,abN];constructor
 .intro q b hb;obtain⟨j,hj,rfl⟩:=List.mem_iff_getElem.mp hb;have:=h j hj;rw[aab hj]at this;have q2:=q j (List.mem_range.mpr hj);rw[<- aar this]at q2;exact q2
 .intro q j hj;have hj:=List.mem_range.mp hj;have:=h j hj;rw[aab hj]at this;rw[<- aar this];exact q _ (aa8 hj)
def lQ(I:Inv X pins U H s)(sF:dO F H):∀{d:Nat} {v:V} {x y:PV} {k:Bool},Rep X.K F v x->Rep X.K F v y->Br d x y=some k->k=true:=by
 intro d;induction d with
 |zero=>intro v x y k _ _ h;cases h
 |succ d ih=>
  intro v x y k rx ry h;have lists:∀{vs:Aag} {xs ys:Aab} {bs:List Bool},nE X.K F vs xs->nE X.K F vs ys->(xs.zip ys).mapM (λp=>Br d p.1 p.2)=some bs->bs.all id=true:=λ{vs xs ys bs} r1 r2 hm=>by
   obtain⟨h1,h2⟩:=aH hm;rw[abN];intro b hb;obtain⟨j,hj,rfl⟩:=List.mem_iff_getElem.mp hb;have Ox:j<(xs.zip ys).length:=by rw[<- h1];exact hj
   obtain⟨b',e1,e2⟩:=h2 j _ (aab Ox);rw[aab hj]at e1;cases aar e1;have hx:xs[j]?=some (xs.zip ys)[j].1:=by have:=aab Ox;rw[aaF]at this;exact this.1
   have hy:ys[j]?=some (xs.zip ys)[j].2:=by have:=aab Ox;rw[aaF]at this;exact this.2
   obtain⟨v1,q1,q2⟩:=r1.get hx;obtain⟨v2,q3,q4⟩:=r2.get hy;rw[q1]at q3;cases q3;exact ih q2 q4 e2
  cases rx with
  |AZ=>cases ry;cases h;rfl
  |bl b=>cases ry;cases h;simp
  |int b=>cases ry;cases h;simp
  |str b=>cases ry;cases h;simp
  |tup h1 r1=>
   cases ry with
   |tup h2 r2=>have:=I.CU (ap sF h1) (ap sF h2);subst this;replace h:aeW (λbs:List Bool=>bs.all id && acD _==acD _) (afA (λp:PV×PV=>Br d p.1 p.2) (List.zip _ _))=some k:=h;rw[aas]at h;obtain⟨bs,hb,e⟩:=h;rw[<- e,lists r1 r2 hb,<- r1.len,<- r2.len];simp
   |lst h2 r2=>exact(b7 I (.inl (.inl (sF _ _ h2))) (ap sF h1)).elim
   |Bp h2 r2=>cases h
   |Cq h2=>cases h
  |lst h1 r1=>
   cases ry with
   |tup h2 r2=>exact(b7 I (.inl (.inl (sF _ _ h1))) (ap sF h2)).elim
   |lst h2 r2=>rw[h1]at h2;cases h2;replace h:(if acD _=acD _ then aeW (λbs:List Bool=>bs.all id) (afA (λp:PV×PV=>Br d p.1 p.2) (List.zip _ _))else some false)=some k:=h;rw[if_pos (by rw[<- r1.len,<- r2.len])]at h;rw[aas]at h;obtain⟨bs,hb,e⟩:=h;rw[<- e,lists r1 r2 hb]
   |Bp h2 r2=>cases h
   |Cq h2=>cases h
  |Bp h1 r1=>cases y<;>cases h
  |Cq h1=>cases y<;>cases h
theorem Lm(I:Inv X pins U H s)(sF:dO F H):∀{d:Nat} {A:Around} {v u:V} {x y:PV} {a b:Value} {k:Bool},A.units+d<cLine->Rep X.K F v x->Rep X.K F u y->RelV v a->RelV u b->Br d x y=some k->SeqAt.RcAt A s a b k/\adO A s a b k:=by
 intro d;induction d with
 |zero=>intro A v u x y a b k _ _ _ _ _ h;cases h
 |succ d ih=>
  intro A v u x y a b k hu rx ry ra rb h;have B6:A.units<cLine:=by omega
  cases rx with
  |AZ=>
   cases ra;cases ry with
   |AZ=>cases rb;cases h;exact#[SeqAt.RcAt.none_none,afw _]
   |bl b=>cases rb;cases h;exact#[SeqAt.RcAt.none_bool b,SeqAt.EqAt.none_bool b]
   |int b=>obtain⟨t,rfl⟩:=rb;cases h;exact#[SeqAt.RcAt.none_int b t,SeqAt.EqAt.none_int b t]
   |str b=>obtain⟨t,rfl⟩:=rb;cases h;exact#[SeqAt.RcAt.none_str b t,SeqAt.EqAt.none_str b t]
   |tup h1 r1=>cases rb;cases h;obtain⟨eQ,_,p,_⟩:=I.tuple (ap sF h1);exact#[SeqAt.RcAt.none_tuple p B6,SeqAt.EqAt.none_tuple p B6]
   |lst h1 r1=>cases rb;cases h;obtain⟨eQ,_,p,_⟩:=I.list (.inl (.inl (sF _ _ h1)));exact#[SeqAt.RcAt.none_list p.isList B6,SeqAt.EqAt.none_list p.isList B6]
   |Bp=>cases h
   |Cq=>cases h
  |bl a=>
   cases ra;cases ry with
   |AZ=>cases rb;cases h;exact#[SeqAt.RcAt.bool_none a,SeqAt.EqAt.bool_none a]
   |bl b=>cases rb;cases h;exact#[SeqAt.RcAt.bool_bool a b,SeqAt.EqAt.bool_bool a b]
   |int b=>obtain⟨t,rfl⟩:=rb;cases h;exact#[SeqAt.RcAt.bool_int a b t,SeqAt.EqAt.bool_int a b t]
   |str b=>obtain⟨t,rfl⟩:=rb;cases h;exact#[SeqAt.RcAt.bool_str a b t,SeqAt.EqAt.bool_str a b t]
   |tup h1 r1=>cases rb;cases h;obtain⟨eQ,_,p,_⟩:=I.tuple (ap sF h1);exact#[SeqAt.RcAt.bool_tuple a p B6,SeqAt.EqAt.bool_tuple a p B6]
   |lst h1 r1=>cases rb;cases h;obtain⟨eQ,_,p,_⟩:=I.list (.inl (.inl (sF _ _ h1)));exact#[SeqAt.RcAt.bool_list a p.isList B6,SeqAt.EqAt.bool_list a p.isList B6]
   |Bp=>cases h
   |Cq=>cases h
  |int a=>
   obtain⟨t',rfl⟩:=ra;cases ry with
   |AZ=>cases rb;cases h;exact#[SeqAt.RcAt.int_none a t',SeqAt.EqAt.int_none a t']
   |bl b=>cases rb;cases h;exact#[SeqAt.RcAt.int_bool a t' b,SeqAt.EqAt.int_bool a t' b]
   |int b=>obtain⟨t,rfl⟩:=rb;cases h;exact#[SeqAt.RcAt.int_int a t' b t,acb a t' b t]
   |str b=>obtain⟨t,rfl⟩:=rb;cases h;exact#[SeqAt.RcAt.int_str a t' b t,SeqAt.EqAt.int_str a t' b t]
   |tup h1 r1=>cases rb;cases h;obtain⟨eQ,_,p,_⟩:=I.tuple (ap sF h1);exact#[SeqAt.RcAt.int_tuple a t' p B6,SeqAt.EqAt.int_tuple a t' p B6]
   |lst h1 r1=>cases rb;cases h;obtain⟨eQ,_,p,_⟩:=I.list (.inl (.inl (sF _ _ h1)));exact#[SeqAt.RcAt.int_list a t' p.isList B6,SeqAt.EqAt.int_list a t' p.isList B6]
   |Bp=>cases h
   |Cq=>cases h
  |str a=>
   obtain⟨t',rfl⟩:=ra;cases ry with
   |AZ=>cases rb;cases h;exact#[SeqAt.RcAt.str_none a t',SeqAt.EqAt.str_none a t']
   |bl b=>cases rb;cases h;exact#[SeqAt.RcAt.str_bool a t' b,SeqAt.EqAt.str_bool a t' b]
   |int b=>obtain⟨t,rfl⟩:=rb;cases h;exact#[SeqAt.RcAt.str_int a t' b t,SeqAt.EqAt.str_int a t' b t]
   |str b=>obtain⟨t,rfl⟩:=rb;cases h;exact#[SeqAt.RcAt.str_str a t' b t,acX a t' b t]
   |tup h1 r1=>cases rb;cases h;obtain⟨eQ,_,p,_⟩:=I.tuple (ap sF h1);exact#[SeqAt.RcAt.str_tuple a t' p B6,SeqAt.EqAt.str_tuple a t' p B6]
   |lst h1 r1=>cases rb;cases h;obtain⟨eQ,_,p,_⟩:=I.list (.inl (.inl (sF _ _ h1)));exact#[SeqAt.RcAt.str_list a t' p.isList B6,SeqAt.EqAt.str_list a t' p.isList B6]
   |Bp=>cases h
   |Cq=>cases h
  |@tup pa vs xs h1 r1=>
   cases ra;obtain⟨eQ,rv,p,_⟩:=I.tuple (ap sF h1);cases ry with
   |AZ=>cases rb;cases h;exact#[SeqAt.RcAt.tuple_none p B6,SeqAt.EqAt.tuple_none p B6]
   |bl b=>cases rb;cases h;exact#[SeqAt.RcAt.tuple_bool b p B6,SeqAt.EqAt.tuple_bool b p B6]
   |int b=>obtain⟨t,rfl⟩:=rb;cases h;exact#[SeqAt.RcAt.tuple_int b t p B6,SeqAt.EqAt.tuple_int b t p B6]
   |str b=>obtain⟨t,rfl⟩:=rb;cases h;exact#[SeqAt.RcAt.tuple_str b t p B6,SeqAt.EqAt.tuple_str b t p B6]
   |@tup pb ws ys h2 r2=>
    cases rb;have h0:=h;obtain⟨BO,DG,p2,_⟩:=I.tuple (ap sF h2);replace h:aeW (λbs:List Bool=>bs.all id && xs.length==ys.length) (afA (λp:PV×PV=>Br d p.1 p.2) (xs.zip ys))=some k:=h;rw[aas]at h;obtain⟨bs,hb,e⟩:=h;obtain⟨Jr,Js⟩:=aH hb;have l1:eQ.length=xs.length:=by rw[<- rv.length,r1.len]
    have l2:BO.length=ys.length:=by rw[<- DG.length,r2.len]
    have rc:SeqAt.RcAt A s (.ref pa) (.ref pb) k:=by
     have:=SeqAt.RcAt.tuples (e:=λj=>bs.getD j false) p p2 B6 (λj j1 j2=>by
      simp only[aak]at j1 j2;have jx:j<xs.length:=by omega
      have jy:j<ys.length:=by omega
      have hz:(xs.zip ys)[j]?=some (xs[j],ys[j]):=by rw[aaF];exact#[by simp[jx],by simp[jy]]
      obtain⟨b,e1,e2⟩:=Js j _ hz;obtain⟨v1,q1,q2⟩:=r1.get (aab jx);obtain⟨v2,q3,q4⟩:=r2.get (aab jy);obtain⟨u1,q5,q6⟩:=rv.get q1;obtain⟨u2,q7,q8⟩:=DG.get q3;have g1:eQ.toArray[j]=u1:=by simpa[aab j1]using q5
      have g2:BO.toArray[j]=u2:=by simpa[aab j2]using q7
      rw[g1,g2];have Jf:bs.getD j false=b:=by simp[adu,e1]
      rw[Jf];exact(ih (A:=A.in1) (by show A.units+1+d<cLine;omega) q2 q4 q6 q8 e2).2)
     have e3:((aa3 (min eQ.toArray.size BO.toArray.size)).all (λj=>bs.getD j false) && eQ.toArray.size==BO.toArray.size)=k:=by
      have e4:min eQ.toArray.size BO.toArray.size=bs.length:=by rw[Jr,acC,aak,aak,l1,l2]
      rw[e4,bA (λj hj=>by simp[adu,aab hj]),aak,aak,l1,l2];exact e
     rw[e3]at this;exact this
    refine#[rc,?_];by_cases q:pa=pb
    .subst q;have:k=true:=lQ I sF (.tup h1 r1) (.tup h2 r2) h0;subst this;exact afw _
    .exact SeqAt.EqAt.of_refs q rc
   |lst h2 r2=>cases rb;cases h;obtain⟨BO,_,p2,_⟩:=I.list (.inl (.inl (sF _ _ h2)));exact#[SeqAt.RcAt.tuple_list p p2.isList B6,SeqAt.EqAt.tuple_list p p2.isList B6]
   |Bp=>cases h
   |Cq=>cases h
  |@lst pa vs xs h1 r1=>
   cases ra;obtain⟨eQ,rv,p,_⟩:=I.list (.inl (.inl (sF _ _ h1)));cases ry with
   |AZ=>cases rb;cases h;exact#[SeqAt.RcAt.list_none p.isList B6,SeqAt.EqAt.list_none p.isList B6]
   |bl b=>cases rb;cases h;exact#[SeqAt.RcAt.list_bool b p.isList B6,SeqAt.EqAt.list_bool b p.isList B6]
   |int b=>obtain⟨t,rfl⟩:=rb;cases h;exact#[SeqAt.RcAt.list_int b t p.isList B6,SeqAt.EqAt.list_int b t p.isList B6]
   |str b=>obtain⟨t,rfl⟩:=rb;cases h;exact#[SeqAt.RcAt.list_str b t p.isList B6,SeqAt.EqAt.list_str b t p.isList B6]
   |tup h2 r2=>cases rb;cases h;obtain⟨BO,_,p2,_⟩:=I.tuple (ap sF h2);exact#[SeqAt.RcAt.list_tuple p.isList p2 B6,SeqAt.EqAt.list_tuple p.isList p2 B6]
   |@lst pb ws ys h2 r2=>
    cases rb;have h0:=h;obtain⟨BO,DG,p2,_⟩:=I.list (.inl (.inl (sF _ _ h2)));have l1:eQ.length=xs.length:=by rw[<- rv.length,r1.len]
    have l2:BO.length=ys.length:=by rw[<- DG.length,r2.len]
    have rc:SeqAt.RcAt A s (.ref pa) (.ref pb) k:=by
     replace h:(if xs.length=ys.length then aeW (λbs:List Bool=>bs.all id) (afA (λp:PV×PV=>Br d p.1 p.2) (xs.zip ys))else some false)=some k:=h;split at h
     .rename_i hl;rw[aas]at h;obtain⟨bs,hb,e⟩:=h;obtain⟨Jr,Js⟩:=aH hb;have:=SeqAt.RcAt.lists (e:=λj=>bs.getD j false) p.isList p2.isList (by rw[aak,aak];omega) B6 (λj j1 j2=>by
       simp only[aak]at j1 j2;have jx:j<xs.length:=by omega
       have jy:j<ys.length:=by omega
       have hz:(xs.zip ys)[j]?=some (xs[j],ys[j]):=by rw[aaF];exact#[by simp[jx],by simp[jy]]
       obtain⟨b,e1,e2⟩:=Js j _ hz;obtain⟨v1,q1,q2⟩:=r1.get (aab jx);obtain⟨v2,q3,q4⟩:=r2.get (aab jy);obtain⟨u1,q5,q6⟩:=rv.get q1;obtain⟨u2,q7,q8⟩:=DG.get q3;have g1:eQ.toArray[j]=u1:=by simpa[aab j1]using q5
       have g2:BO.toArray[j]=u2:=by simpa[aab j2]using q7
       rw[g1,g2];have Jf:bs.getD j false=b:=by simp[adu,e1]
       rw[Jf];exact(ih (A:=A.in1) (by show A.units+1+d<cLine;omega) q2 q4 q6 q8 e2).2)
      have e3:((aa3 eQ.toArray.size).all (λj=>bs.getD j false))=k:=by
       have e4:eQ.toArray.size=bs.length:=by rw[Jr,acC,aak,l1];omega
       rw[e4,bA (λj hj=>by simp[adu,aab hj])];exact e
      rw[e3]at this;exact this
     .rename_i hl;cases h;exact SeqAt.RcAt.lists_lengths p.isList p2.isList (by simp only[aak];simpa[l1,l2]using hl) B6
    refine#[rc,?_];by_cases q:pa=pb
    .subst q;have:k=true:=lQ I sF (.lst h1 r1) (.lst h2 r2) h0;subst this;exact afw _
    .exact SeqAt.EqAt.of_refs q rc
   |Bp=>cases h
   |Cq=>cases h
  |Bp h1 r1=>cases y<;>cases h
  |Cq h1=>cases y<;>cases h
noncomputable def BJ(x y:PV):Aat:=(Br 60 x y).map .bl
def Vw.Dg(h:Vw M F H v x)(s:dO F H)(hx:∀xs,x≠.set xs):∃F',dO F F'/\dO F' H/\Rep M.K F' v x:=by
 rcases h with h|⟨a,rfl,h⟩
 .exact#[F,ai,s,h]
 .cases x<;>try exact h.elim
  .obtain⟨vs,h1,h2⟩:=h;cases e:F a with
   |none=>
    refine#[_,ao e,λb o q=>?_,.lst ah (h2.mono (ao e))];by_cases z:b=a
    .subst z;rw[ah]at q;cases q;exact h1
    .rw[aj z]at q;exact s b o q
   |some o=>have:=s a o e;rw[h1]at this;cases this;exact#[F,ai,s,.lst e h2]
  .obtain⟨vs,h1,h2⟩:=h;cases e:F a with
   |none=>
    refine#[_,ao e,λb o q=>?_,.Bp ah (h2.mono (ao e))];by_cases z:b=a
    .subst z;rw[ah]at q;cases q;exact h1
    .rw[aj z]at q;exact s b o q
   |some o=>have:=s a o e;rw[h1]at this;cases this;exact#[F,ai,s,.Bp e h2]
  .exact absurd rfl (hx _)
def Qc(K:aag):R2:=λv u H Q=>∃F x y k,dO F H/\Rep K F v x/\Rep K F u y/\Br 60 x y=some k/\Q (.bl k) H
def se(hu:X.A.units+60<cLine):BX X (aa1 .Eq) (Qc X.K):=by intro pins s U H x y v u Q I rx ry h;obtain⟨F,p,q,k,sF,r1,r2,e,hq⟩:=h;exact(Lm I sF hu r1 r2 rx ry e).1 X.prog X.w X.xe _ #[.bl k,H,I,rfl,hq]
def rR:Ef ob X (Qc X.K) BJ:=by
 refine aZ (P:=λ_ _ _ _=>True) λF H v u x y z sF rx ry hz=>?_;unfold BJ at hz;rw[aas]at hz;obtain⟨k,hk,rfl⟩:=hz;have nx:∀xs,x≠.set xs:=λxs e=>by subst e;cases y<;>cases hk
 have ny:∀xs,y≠.set xs:=λxs e=>by subst e;cases x<;>cases hk
 obtain⟨F1,s1,s2,r1⟩:=rx.Dg sF nx;have S6:Vw #[14] F1 H u y:=by
  rcases ry with r|⟨a,e,r⟩
  .exact .inl (r.mono s1)
  .exact .inr #[a,e,r.mono s1 rfl]
 obtain⟨F2,s3,s4,r2⟩:=S6.Dg s2 ny;exact#[_,λ_=>.bl _,λQ q=>#[F2,x,y,k,s4,r1.mono s3,r2,hk,q]]
noncomputable def toV:PV->Option V
 |.AZ=>some .AZ
 |.bl b=>some (.bl b)
 |.int i=>some (.int i)
 |.str s=>some (.str s)
 |_=>none
def qY{w:V}(h:Vw M F H v x)(e:toV x=some w):v=w:=by
 cases x<;>cases e
 .exact h.AZ
 .exact h.bl
 .exact h.int
 .exact h.str
noncomputable def DW:PV->PV->Option PV
 |.lst xs,.lst []=>some (.bl (!xs.isEmpty))
 |x,y=>(toV x).bind λv=>(toV y).bind λu=>if KI v u=true then some (.bl (!decide (v=u)))else none
def yB:Ef ob X (λx y H Q=>Tc x y H Q\/HJ X.K x y H Q) DW:=by
 refine aZ (P:=λ_ _ _ _=>True) λF H v u x y z sF rx ry hz=>?_;unfold DW at hz;split at hz
 .cases hz;rename_i xs;obtain⟨p,vs,rfl,h1,h2⟩:=rx.lst sF;obtain⟨q,ws,rfl,g1,g2⟩:=ry.lst sF;cases g2;refine#[_,λ_=>.bl _,λQ hq=>.inr #[p,q,vs,rfl,rfl,.inl (.inl h1),.inl (.inl g1),?_]];have:vs.isEmpty=xs.isEmpty:=by have:=h2.len;cases vs<;>cases xs<;>simp at this ⊢
  rw[this];exact hq
 .cases e1:toV x with
  |none=>rw[e1]at hz;cases hz
  |some v'=>
   cases e2:toV y with
   |none=>rw[e1,e2]at hz;cases hz
   |some u'=>
    rw[e1,e2]at hz;have hz:(if KI v' u'=true then some (PV.bl (!decide (v'=u')))else none)=some z:=hz;split at hz
    .rename_i hs;cases hz;rw[qY rx e1,qY ry e2];exact#[_,λ_=>.bl _,λQ q=>.inl #[hs,q]]
    .cases hz
def Az(hu:X.A.units<cLine):BX X (aa1 .NotEq) (λx y H Q=>Tc x y H Q\/HJ X.K x y H Q):=BX.or AA (na hu)
def Inv.R5(I:Inv X pins U H s){a:Addr}{o:Obj}(h:X.K.lookup a=some o):H a=none:=(I.bs a o (I.mod.kin a o h)).2
def nS(I:Inv X pins U H s){a:Addr}{gE:List (Key×V)}{vs:Aag}(h1:H a=some (.dK gE))(h2:Cf X.K H a vs):False:=by obtain⟨_,_,_,_,o,_,_,e,ex,_⟩:=I.Bc a _ h1;obtain⟨_,_,⟨o',e',c',_⟩,_⟩:=I.tuple h2;rw[e]at e';cases e';rw[ex.1]at c';exact absurd c' #[2]
def iA:∀{ns ms:Aar},ns.map V.int=ms.map V.int->ns=ms
 |[],[],_=>rfl
 |n::ns,m::ms,h=>by injection h with h1 h2;injection h1 with h1;rw[h1,iA h2]
 |[],_::_,h=>by simp_all
 |_::_,[],h=>#[1]
variable{y:PV}
def Rep.inj(I:Inv X pins U H s)(sF:dO F H)(h:Rep X.K F v x)(h':Rep X.K F v y):x=y:=by
 refine Rep.rec (motive_2:=λvs xs _=>∀ys,nE X.K F vs ys->xs=ys) (motive_3:=λvs xs _=>∀ys,A0 X.K F vs ys->xs=ys)
  ?_ ?_ ?_ ?_ ?_ ?_ ?_ ?_ ?_ ?_ ?_ ?_ h y h'
 .intro y h;cases h;rfl
 .intro b y h;cases h;rfl
 .intro b y h;cases h;rfl
 .intro b y h;cases h;rfl
 .intro a vs xs h1 _ ih y h;cases h with
  |tup h2 r2=>have:=I.CU (ap sF h1) (ap sF h2);subst this;rw[ih _ r2]
  |lst h2 r2=>exact(b7 I (.inl (.inl (sF _ _ h2))) (ap sF h1)).elim
  |Bp h2 r2=>exact(nS I (sF _ _ h2) (ap sF h1)).elim
  |Cq h2=>exact(b7 I (ba sF h2.sq) (ap sF h1)).elim
 .intro a vs xs h1 _ ih y h;cases h with
  |tup h2 r2=>exact(b7 I (.inl (.inl (sF _ _ h1))) (ap sF h2)).elim
  |lst h2 r2=>rw[h1]at h2;cases h2;rw[ih _ r2]
  |Bp h2 r2=>rw[h1]at h2;cases h2
  |Cq h2=>
   rcases h2 with ⟨o,h2⟩|⟨o,_,_,h2,_⟩
   .rw[h1]at h2;cases h2
   .have:=sF _ _ h1;rw[Inv.R5 I h2]at this;cases this
 .intro a vs xs h1 _ ih y h;cases h with
  |tup h2 r2=>exact(nS I (sF _ _ h1) (ap sF h2)).elim
  |lst h2 r2=>rw[h1]at h2;cases h2
  |Bp h2 r2=>rw[h1]at h2;cases h2;rw[ih _ r2]
  |Cq h2=>
   rcases h2 with ⟨o,h2⟩|⟨o,_,_,h2,_⟩
   .rw[h1]at h2;cases h2
   .have:=sF _ _ h1;rw[Inv.R5 I h2]at this;cases this
 .intro a ns h1 y h;cases h with
  |tup h2 r2=>exact(b7 I (ba sF h1.sq) (ap sF h2)).elim
  |lst h2 r2=>
   rcases h1 with ⟨o,h1⟩|⟨o,_,_,h1,_⟩
   .rw[h1]at h2;cases h2
   .have:=sF _ _ h2;rw[Inv.R5 I h1]at this;cases this
  |Bp h2 r2=>
   rcases h1 with ⟨o,h1⟩|⟨o,_,_,h1,_⟩
   .rw[h1]at h2;cases h2
   .have:=sF _ _ h2;rw[Inv.R5 I h1]at this;cases this
  |Cq h2=>rw[iA (I.D6 (ba sF h1.sq) (ba sF h2.sq))]
 .intro ys h;cases h;rfl
 .intro v x vs xs _ _ QF QE ys h;cases h with
  |cons h r=>rw[QF _ h,QE _ r]
 .intro ys h;cases h;rfl
 .intro k v x vs xs _ _ QF QE ys h;cases h with
  |cons h r=>rw[QF _ h,QE _ r]
variable{A:Around}
theorem g9(I:Inv X pins U H s)(sF:dO F H){d:Nat}{vs:Aag}{us:Aad}{xs:Aab}{u:Value}{ks:List Bool}(hu:A.units+d<cLine)(rv:oF vs us)(r:nE X.K F vs xs)(rx:Rep X.K F v x)(ru:RelV v u)
  (hk:xs.mapM (λy=>Br d y x)=some ks):∃e:Value->Bool,(∀y,y∈us->adO A s y u (e y))/\us.any e=ks.any id/\us.countP e=ks.countP id/\(∀(i:Nat) (w:Value),us[i]?=some w->ks[i]?=some (e w)):=by
 obtain⟨hl,hb⟩:=aH hk;have l1:=rv.length;have l2:=r.len;have key:∀(i:Nat) (w:Value),us[i]?=some w->∃b y z,xs[i]?=some y/\vs[i]?=some z/\RelV z w/\Rep X.K F z y/\Br d y x=some b/\ks[i]?=some b:=λi w hw=>by obtain⟨z,e1,e2⟩:=oF.J6 rv hw;obtain⟨y,e3,e4⟩:=r.J6 e1;obtain⟨b,e5,e6⟩:=hb i y e3;exact#[b,y,z,e3,e1,e2,e4,e6,e5]
 let e  := λw=>(us.zip ks).any λp=>p.1==w && p.2;have four:∀(i:Nat) (w:Value),us[i]?=some w->ks[i]?=some (e w):=by
  intro i w hw;obtain⟨b,y,z,e1,e2,e3,e4,e5,e6⟩:=key i w hw;rw[e6];congr 1;rw[aaQ,List.any_eq_true];constructor
  .intro Jf;refine#[(w,b),aaA (by rw[aaF];exact#[hw,e6]),#[1]]
  .rintro⟨⟨w',b'⟩,hm,hp⟩;simp only[aaM]at hp;obtain⟨j,hj,ej⟩:=List.mem_iff_getElem.mp hm;have hz:=aab hj;rw[ej,aaF]at hz;obtain⟨Wl,X9⟩:=hz;have Yc  := eq_of_beq hp.1;rw[Yc]at Wl;obtain⟨b2,y2,z2,f1,f2,f3,f4,f5,f6⟩:=key j w Wl;have  := e3.inj f3;subst this;have:=Rep.inj I sF e4 f4;subst this;rw[e5]at f5;cases f5;rw[X9]at f6;cases f6;exact hp.2
 have QU:ks=us.map e:=by
  refine abR λi=>?_;rw[aaj];cases q:us[i]? with
  |none=>have  := List.getElem?_eq_none_iff.mp q;rw[aam #[]];rfl
  |some w=>rw[four i w q];rfl
 refine#[e,λy hy=>?_,?_,?_,four]
 .obtain⟨i,hi,rfl⟩:=List.mem_iff_getElem.mp hy;have hw:=aab hi;obtain⟨b,y,z,e1,e2,e3,e4,e5,e6⟩:=key i _ hw;have:=four i _ hw;rw[e6]at this;rw[<- aar this];exact(Lm I sF hu e4 rx e3 ru e5).2
 .rw[QU,List.any_map];rfl
 .rw[QU,List.countP_map];rfl
noncomputable def KS(x:PV):PV->Option Bool
 |.tup ys=>(ys.mapM λy=>Br 60 y x).map λks=>ks.any id
 |.lst ys=>(ys.mapM λy=>Br 60 y x).map λks=>ks.any id
 |.Bp gE=>(Fi x).map λk=>(Ct gE k).isSome
 |.str s=>match x with
  |.str t=>some (!(ac5 s t 0 s.length 1).isEmpty)
  |_=>none
 |.set S=>match x with
  |.str t=>some (decide (t∈S))
  |_=>none
 |_=>none
noncomputable def JR:PV->Bool
 |.set _=>false
 |_=>true
def nh(h:JR x=true):∀xs,x≠.set xs:=λxs e=>by subst e;cases h
noncomputable def Cz(x y:PV):Aat:=if JR x=true then (KS x y).map .bl else none
noncomputable def C9(x y:PV):Aat:=if JR x=true then (KS x y).map λb=>.bl (!b)else none
def IS(P:aaC)(w:World)(K:aag)(neg:Bool):R2:=λv u H Q=>∃(F:Hp) (x:PV) (b:Bool),dO F H/\Q (.bl (if neg then !b else b)) H /\
 ((∃p vs ys ks,u=.ref p/\(Cr K H p vs\/Cf K H p vs)/\nE K F vs ys/\Rep K F v x/\ys.mapM (λy=>Br 60 y x)=some ks/\b=ks.any id) \/
  (∃p o,u=.ref p/\GY H p v o/\b=o.isSome)\/(∃i j,v=.str i/\u=.str j/\b=!(ac5 j i 0 j.length 1).isEmpty) \/
  (∃z a S n,v=.str z/\u=.ref a/\H a=some (FI P w a S n)/\b=S z))
theorem rZ(hu:X.A.units+62<cLine):BX X (aa1 .In) (IS X.prog X.w X.K false):=by
 intro pins s U H v u v' u' Q I rv ru h;obtain⟨F,x,b,sF,q,h⟩:=h;rcases h with ⟨p,vs,ys,ks,rfl,hs,hr,hx,hk,rfl⟩|⟨p,o,rfl,hd,rfl⟩|⟨i,j,rfl,rfl,rfl⟩|⟨z,a,S,n,rfl,rfl,ha,rfl⟩
 .cases ru;rcases hs with hs|hs
  .obtain⟨eQ,r,pl,_⟩:=I.list hs;obtain⟨e,e1,e2,_⟩:=g9 I sF (A:=X.A.in1) (by show X.A.units+1+60<cLine;omega) r hr hx rv hk;refine SeqAt.in_listAt e pl.isList (λy hy=>e1 y #[1]) #[.bl _,H,I,rfl,?_];rw[show eQ.toArray.any e=eQ.any e by simp,e2];exact q
  .obtain⟨eQ,r,pl,_⟩:=I.tuple hs;obtain⟨e,e1,e2,_⟩:=g9 I sF (A:=X.A.in1) (by show X.A.units+1+60<cLine;omega) r hr hx rv hk;refine SeqAt.in_tupleAt e pl (λy hy=>e1 y #[1]) #[.bl _,H,I,rfl,?_];rw[show eQ.toArray.any e=eQ.any e by simp,e2];exact q
 .cases ru;exact AX #[] I hd rv λs3 I3=>#[.bl _,H,I3,rfl,q]
 .exact rY pins s U H _ _ _ _ Q I rv ru #[i,j,rfl,rfl,q]
 .cases ru;obtain⟨t,rfl⟩:=rv;obtain⟨x,_,_⟩:=I.Bc a _ ha;exact wpAny_inSet_of (aem _ _ _ _) rfl x #[.bl (S z),H,I.tok _,rfl,q]
theorem wO(hu:X.A.units+62<cLine):BX X (aa1 .NotIn) (IS X.prog X.w X.K true):=by
 intro pins s U H v u v' u' Q I rv ru h;obtain⟨F,x,b,sF,q,h⟩:=h;rcases h with ⟨p,vs,ys,ks,rfl,hs,hr,hx,hk,rfl⟩|⟨p,o,rfl,hd,rfl⟩|⟨i,j,rfl,rfl,rfl⟩|⟨z,a,S,n,rfl,rfl,ha,rfl⟩
 .cases ru;rcases hs with hs|hs
  .obtain⟨eQ,r,pl,_⟩:=I.list hs;obtain⟨e,e1,e2,_⟩:=g9 I sF (A:=X.A.in1) (by show X.A.units+1+60<cLine;omega) r hr hx rv hk;refine SeqAt.notIn_listAt e pl.isList (λy hy=>e1 y #[1]) #[.bl _,H,I,rfl,?_];rw[show eQ.toArray.any e=eQ.any e by simp,e2];exact q
  .obtain⟨eQ,r,pl,_⟩:=I.tuple hs;obtain⟨e,e1,e2,_⟩:=g9 I sF (A:=X.A.in1) (by show X.A.units+1+60<cLine;omega) r hr hx rv hk;refine SeqAt.notIn_tupleAt e pl (λy hy=>e1 y #[1]) #[.bl _,H,I,rfl,?_];rw[show eQ.toArray.any e=eQ.any e by simp,e2];exact q
 .cases ru;exact xS #[] I hd rv λs3 I3=>#[.bl _,H,I3,rfl,q]
 .exact m9 pins s U H _ _ _ _ Q I rv ru #[i,j,rfl,rfl,q]
 .exact rT pins s U H _ _ _ _ Q I rv ru #[z,a,S,n,rfl,rfl,ha,q]
def sI{u:V}{b neg:Bool}(sF:dO F H)(nx:∀xs,x≠.set xs)(rx:Vw #[14] F H v x)(ry:Vw #[14] F H u y)(hz:KS x y=some b)(Q:VK)(q:Q (.bl (if neg then !b else b)) H):IS X.prog X.w X.K neg v u H Q:=by
 unfold KS at hz;have seq:∀{p:Addr} {vs:Aag} {ys:Aab},u=.ref p->(Cr X.K H p vs\/Cf X.K H p vs)->nE X.K F vs ys->((ys.mapM λy=>Br 60 y x).map λks=>ks.any id)=some b->IS X.prog X.w X.K neg v u H Q:=λ{p vs ys} hp hs hr hz=>by rw[aas]at hz;obtain⟨ks,hk,e⟩:=hz;obtain⟨F1,s1,s2,r1⟩:=rx.Dg sF nx;exact#[F1,x,b,s2,q,.inl #[p,vs,ys,ks,hp,hs,hr.mono s1,r1,hk,e.symm]]
 split at hz
 .obtain⟨p,vs,e,h1,h2⟩:=ry.tup sF;exact seq e (.inr h1) h2 hz
 .obtain⟨p,vs,e,h1,h2⟩:=ry.lst sF;exact seq e (.inl (.inl (.inl h1))) h2 hz
 .obtain⟨p,vs,e,h1,h2⟩:=ry.Bp sF;rw[aas]at hz;obtain⟨k,hk,rfl⟩:=hz;have hv:=LB rx hk;subst hv;refine#[F,.AZ,_,sF,q,.inr (.inl #[p,CO vs k,e,R6 h1,?_])];rcases h2.val (k:=k)with ⟨e1,e2⟩|⟨w,w',e1,e2,_⟩
  .rw[e1,e2];rfl
  .rw[e1,e2];rfl
 .split at hz
  .cases hz;exact#[F,.AZ,_,sF,q,.inr (.inr (.inl #[_,_,rx.str,ry.str,rfl]))]
  .cases hz
 .split at hz
  .cases hz;rcases ry with r|⟨p,rfl,r⟩
   .cases r
   .exact#[F,.AZ,_,sF,q,.inr (.inr (.inr #[_,p,_,_,rx.str,rfl,r,rfl]))]
  .cases hz
 .cases hz
def rP:Ef ob X (IS X.prog X.w X.K false) Cz:=by
 refine aZ (P:=λ_ _ _ _=>True) λF H v u x y z sF rx ry hz=>?_;unfold Cz at hz;split at hz;case isFalse=>cases hz
 rename_i nx;rw[aas]at hz;obtain⟨b,hb,rfl⟩:=hz;exact#[_,λ_=>.bl _,λQ q=>sI sF (nh nx) rx ry hb Q q]
def wG:Ef ob X (IS X.prog X.w X.K true) C9:=by
 refine aZ (P:=λ_ _ _ _=>True) λF H v u x y z sF rx ry hz=>?_;unfold C9 at hz;split at hz;case isFalse=>cases hz
 rename_i nx;rw[aas]at hz;obtain⟨b,hb,rfl⟩:=hz;exact#[_,λ_=>.bl _,λQ q=>sI sF (nh nx) rx ry hb Q q]
inductive KG (M:Md) (F H:Hp):Aag->List PV->Prop where
 |nil:KG M F H [] []
 |cons {v:V} {x:PV} {vs:Aag} {xs:Aab}:Vw M F H v x->KG M F H vs xs->KG M F H (v::vs) (x::xs)
def KG.one{vs:Aag}(h:KG M F H vs [x]):∃v,vs=[v]/\Vw M F H v x:=by
 cases h with
 |cons a r=>cases r;exact#[_,rfl,a]
structure GX(ob:B3)(X:Cx)(es:Aai)(f:WA):Prop where
 ex:∃t:TA,PA X es t/\∀(Z:Zn) (F:Hp) (U:L2.St) (H:Hp) (env:En) (P:Aab->En->Prop) (Q:Aag->Hp->Prop),rW #[14] Z F U H env->f env P ->
  (∀xs bY vs F' H',P xs bY->dO F F'->rW #[14] Z F' U H' bY->KG #[14] F' H' vs xs->Q vs H')->t U H Q
def a1(a:WE):WA:=λenv P=>a env λx e=>P [x] e
def BE(o:Aab->Option PV)(fa:WA):WE:=λenv P=>fa env λxs e=>opt (o xs) λz=>P z e
variable{es:Aai}{fa:WA}{x:Str}{LZ T:String}{r:Aag->Hp->VK->Prop}{o:Aab->Option PV}
def AQ(h:Fz ob X e f)(hs:autoParam (aal [e] X.env=(false,eval e X.env)::aal [] X.env) At):GX ob X [e] (a1 f):=by obtain⟨t,ht,k⟩:=h.ex;exact#[_,aD ht aQ hs,λZ F U H env P Q K hf kk=>k Z F U H env _ _ K hf λx e1 v F1 H1 p s1 K1 r1=>kk [x] e1 [v] F1 H1 p s1 K1 (.cons r1 .nil)]
def EJ(ob:B3)(X:Cx)(r:Aag->Hp->VK->Prop)(o:Aab->Option PV):Prop :=
 ∀(Z:Zn) (F:Hp) (U:L2.St) (H:Hp) (env:En) (vs:Aag) (xs:Aab) (z:PV) (Q:VK),rW #[14] Z F U H env->KG #[14] F H vs xs->o xs=some z ->
  (∀v' F' H',dO F F'->rW #[14] Z F' U H' env->Rep X.K F' v' z->Q v' H')->r vs H Q
def FA(ob:B3)(X:Cx)(r:Aag->Hp->VK->Prop)(o:Aab->Option PV):Prop :=
 ∀(Z:Zn) (F:Hp) (U:L2.St) (H:Hp) (env:En) (vs:Aag) (xs:Aab) (z:PV) (Q:VK),rW #[14] Z F U H env->KG #[14] F H vs xs->o xs=some z ->
  (∀v' H',(∀xs,z≠.set xs)->rW #[14] Z F (U++[some v']) H' (env++[some #[1,z]])->Q v' H')->r vs H Q
def rm{t:TA}(hq:EJ ob X r o)(k:∀(Z:Zn) (F:Hp) (U:L2.St) (H:Hp) (env:En) (P:Aab->En->Prop) (Q:Aag->Hp->Prop),rW #[14] Z F U H env->fa env P->(∀xs bY vs F' H',P xs bY->dO F F'->rW #[14] Z F' U H' bY->KG #[14] F' H' vs xs->Q vs H')->t U H Q):
  ∀(Z:Zn) (F:Hp) (U:L2.St) (H:Hp) (env:En) (P:Aal) (Q:VK),rW #[14] Z F U H env->BE o fa env P->#[7]->PD r t U H Q:=by
 refine λZ F U H env P Q K hf kk=>k Z F U H env _ _ K hf λxs e1 vs F1 H1 p s1 K1 r1=>?_;obtain⟨z,hz,p⟩:=p;exact hq Z F1 U H1 e1 vs xs z Q K1 r1 hz λv' F' H' s2 K2 r2=>kk z e1 v' F' H' p (af s1 s2) K2 r2
def wg{t:TA}(hq:FA ob X r o)(k:∀(Z:Zn) (F:Hp) (U:L2.St) (H:Hp) (env:En) (P:Aab->En->Prop) (Q:Aag->Hp->Prop),rW #[14] Z F U H env->fa env P->(∀xs bY vs F' H',P xs bY->dO F F'->rW #[14] Z F' U H' bY->KG #[14] F' H' vs xs->Q vs H')->t U H Q):
  ∀(Z:Zn) (F:Hp) (U:L2.St) (H:Hp) (env:En) (P:Aal) (Q:VK),rW #[14] Z F U H env->BE o fa env P->(∀x bY v F' H',P x bY->dO F F'->(∀xs,x≠.set xs)->rW #[14] Z F' (U++[some v]) H' (bY++[some #[1,x]])->Q v H')->PD r t U H Q:=by
 refine λZ F U H env P Q K hf kk=>k Z F U H env _ _ K hf λxs e1 vs F1 H1 p s1 K1 r1=>?_;obtain⟨z,hz,p⟩:=p;exact hq Z F1 U H1 e1 vs xs z Q K1 r1 hz λv' H' hx K2=>kk z e1 v' F1 H' p s1 hx K2
def qB(hc:Bd X (.builtin LZ) r)(hq:EJ ob X r o)(hg:Gl X x)(hm:X.mg x=none)(hv:aca x=some (.builtin LZ))(ha:GX ob X (e::es) fa)(hn:autoParam (x ≠ "__name__") on)(DH:autoParam #[12] on)
  (he:autoParam #[8] At) (Cj:autoParam #[11] At):Bk ob X (.Call (.Name x p) (e::es) [] pos) (BE o fa):=by
 obtain⟨t,ht,k⟩:=ha.ex;exact#[_,bi hc hg hm hv ht hn DH he Cj,rm hq k]
def vH(hc:Bd X (.type T) r)(hq:EJ ob X r o)(hg:Gl X x)(hm:X.mg x=none)(hv:aca x=some (.type T))(ha:GX ob X (e::es) fa)(hn:autoParam (x ≠ "__name__") on)(DH:autoParam #[12] on)
  (he:autoParam #[8] At) (Cj:autoParam #[11] At):Bk ob X (.Call (.Name x p) (e::es) [] pos) (BE o fa):=by
 obtain⟨t,ht,k⟩:=ha.ex;exact#[_,bT hc hg hm hv ht hn DH he Cj,rm hq k]
def nO(hc:Bd X (.type T) r)(hq:FA ob X r o)(hg:Gl X x)(hm:X.mg x=none)(hv:aca x=some (.type T))(ha:GX ob X (e::es) fa)(hn:autoParam (x ≠ "__name__") on)(DH:autoParam #[12] on)
  (he:autoParam #[8] At) (Cj:autoParam #[11] At):EY ob X (.Call (.Name x p) (e::es) [] pos) (BE o fa):=by
 obtain⟨t,ht,k⟩:=ha.ex;exact#[_,bT hc hg hm hv ht hn DH he Cj,wg hq k]
variable{ns:Aar}
def Vw.Cq(h:Vw M F H v (.Cq ns))(s:dO F H):∃a,v=.ref a/\Cr M.K H a (ns.map V.int):=by
 rcases h with h|⟨a,rfl,h⟩
 .cases h with
  |Cq h=>exact#[_,rfl,ba s h.sq]
 .exact h.elim
noncomputable def Bo:Aab->Option PV
 |[.lst xs]=>some (.int xs.length)
 |[.tup xs]=>some (.int xs.length)
 |[.Bp xs]=>some (.int xs.length)
 |[.str s]=>if s.length<=100000 then some (.int s.length)else none
 |[.Cq ns]=>some (.int ns.length)
 |_=>none
def P5(K:aag):Aag->Hp->VK->Prop:=λxs H Q=>(∃p ys,xs=[.ref p]/\(Cr K H p ys\/Cf K H p ys)/\Q (.int ys.length) H)\/((∃z,xs=[.str z]/\z.length<=sizeLine/\Q (.int z.length) H)\/∃a gE,xs=[V.ref a]/\H a=some (.dK gE)/\Q (.int gE.length) H)
def Af:Bd X (.builtin "len") (P5 X.K):=Bd.or gM (Bd.or nX tG)
theorem Ah:EJ ob X (P5 X.K) Bo:=by
 intro Z F U H env vs xs z Q K rv hz k;unfold Bo at hz;split at hz
 .cases hz;obtain⟨v,rfl,r⟩:=rv.one;obtain⟨p,vs,rfl,h1,h2⟩:=r.lst K.sF;exact .inl #[p,vs,rfl,.inl (.inl (.inl h1)),k _ F H ai K (by rw[h2.len];exact .int _)]
 .cases hz;obtain⟨v,rfl,r⟩:=rv.one;obtain⟨p,vs,rfl,h1,h2⟩:=r.tup K.sF;exact .inl #[p,vs,rfl,.inr h1,k _ F H ai K (by rw[h2.len];exact .int _)]
 .cases hz;obtain⟨v,rfl,r⟩:=rv.one;obtain⟨p,vs,rfl,h1,h2⟩:=r.Bp K.sF;exact .inr (.inr #[p,vs,rfl,h1,k _ F H ai K (by rw[h2.len];exact .int _)])
 .split at hz
  .cases hz;obtain⟨v,rfl,r⟩:=rv.one;rw[r.str];exact .inr (.inl #[_,rfl,by rw[aaJ];omega,k _ F H ai K (.int _)])
  .cases hz
 .cases hz;obtain⟨v,rfl,r⟩:=rv.one;obtain⟨p,rfl,h1⟩:=r.Cq K.sF;exact .inl #[p,_,rfl,.inl h1,k _ F H ai K (by rw[aad];exact .int _)]
 .cases hz
noncomputable def aN:Aab->Option PV
 |[.lst xs]=>some (.tup xs)
 |[.tup xs]=>some (.tup xs)
 |_=>none
def JL(K:aag):Aag->Hp->VK->Prop:=λxs H Q=>∃p ys,xs=[.ref p]/\((Cr K H p ys/\∀l,H l=none->Q (.ref l) (upd H l (.tup ys)))\/(Cf K H p ys/\Q (.ref p) H))
def vc:Bd X (.type "tuple") (JL X.K):=mE
def vg:EJ ob X (JL X.K) aN:=by
 intro Z F U H env vs xs z Q K rv hz k;unfold aN at hz;split at hz
 .cases hz;obtain⟨v,rfl,r⟩:=rv.one;obtain⟨p,vs,rfl,h1,h2⟩:=r.lst K.sF;refine#[p,vs,rfl,.inl #[.inl (.inl h1),λl hl=>?_]];have hF  := dO.none_of K.sF hl;exact k _ _ _ (ao hF) (K.lay hl) (.tup (.inl (.inl ah)) (h2.mono (ao hF)))
 .cases hz;obtain⟨v,rfl,r⟩:=rv.one;have r':=r.Gp;obtain⟨p,vs,rfl,h1,h2⟩:=r.tup K.sF;exact#[p,vs,rfl,.inr #[h1,k _ F H ai K r']]
 .cases hz
noncomputable def Ds:Aab->Option PV
 |[.lst xs]=>some (.lst xs)
 |[.tup xs]=>some (.lst xs)
 |[.Cq ns]=>some (.lst (ns.map .int))
 |_=>none
def LL(K:aag):Aag->Hp->VK->Prop:=λxs H Q=>∃p ys,xs=[.ref p]/\(Cr K H p ys\/Cf K H p ys)/\∀l,H l=none->Q (.ref l) (upd H l (.lst ys))
def xV:Bd X (.type "list") (LL X.K):=gL
def dE:∀(ns:Aar),nE K F (ns.map V.int) (ns.map PV.int)
 |[]=>.nil
 |n::ns=>.cons (.int n) (dE ns)
def xX:FA ob X (LL X.K) Ds:=by
 intro Z F U H env vs xs z Q K rv hz k;unfold Ds at hz;split at hz
 .cases hz;obtain⟨v,rfl,r⟩:=rv.one;obtain⟨p,vs,rfl,h1,h2⟩:=r.lst K.sF;exact#[p,vs,rfl,.inl (.inl (.inl h1)),λl hl=>k _ _ (λ_=>#[0]) (K.own hl #[vs,ah,h2])]
 .cases hz;obtain⟨v,rfl,r⟩:=rv.one;obtain⟨p,vs,rfl,h1,h2⟩:=r.tup K.sF;exact#[p,vs,rfl,.inr h1,λl hl=>k _ _ (λ_=>#[0]) (K.own hl #[vs,ah,h2])]
 .cases hz;obtain⟨v,rfl,r⟩:=rv.one;obtain⟨p,rfl,h1⟩:=r.Cq K.sF;exact#[p,_,rfl,.inl h1,λl hl=>k _ _ (λ_=>#[0]) (K.own hl #[_,ah,dE _])]
 .cases hz
noncomputable def Iz:PV->Option Int
 |.int i=>some i
 |_=>none
noncomputable def B7:PV->Option Str
 |.str i=>some i
 |_=>none
def bw{g:PV->Option O}{w:O->V}(hg:∀x a,g x=some a->∀v,Rep K F v x->v=w a):∀{xs:Aab} {as:List O} {vs:Aag},xs.mapM g=some as->nE K F vs xs->vs=as.map w
 |[],as,vs,h,r=>by simp at h;subst h;cases r;rfl
 |x::xs,as,vs,h,r=>by
  rw[abh]at h;cases ea:g x with
  |none=>rw[ea]at h;cases h
  |some a=>
   rw[ea]at h;cases el:xs.mapM g with
   |none=>rw[el]at h;cases h
   |some bs=>
    rw[el]at h;cases h;cases r with
    |cons r1 r2=>rw[aaw,hg x a ea _ r1,bw hg el r2]
noncomputable def CM:Aab->Option PV
 |[.lst xs]=>(xs.mapM EV).map λbs=>.bl (bs.all id)
 |_=>none
noncomputable def II:Aab->Option PV
 |[.lst xs]=>(xs.mapM EV).map λbs=>.bl (bs.any id)
 |_=>none
def tH(x:PV)(a:Bool)(h:EV x=some a)(v:V)(r:Rep K F v x):v=.bl a:=by cases x<;>cases h;cases r;rfl
def eF(x:PV)(a:Str)(h:B7 x=some a)(v:V)(r:Rep K F v x):v=.str a:=by cases x<;>cases h;cases r;rfl
def Aj:EJ ob X (λxs H Q=>∃(p:Addr) (bs:List Bool),xs=[.ref p]/\Cr X.K H p (bs.map V.bl)/\Q (.bl (bs.all id)) H) CM:=by
 intro Z F U H env vs xs z Q K rv hz k;unfold CM at hz;split at hz
 .rw[aas]at hz;obtain⟨ns,hn,rfl⟩:=hz;obtain⟨v,rfl,r⟩:=rv.one;obtain⟨p,vs,rfl,h1,h2⟩:=r.lst K.sF;have:=bw tH hn h2;subst this;exact#[p,ns,rfl,.inl (.inl h1),k _ F H ai K (.bl _)]
 .cases hz
def Ai:EJ ob X (λxs H Q=>∃(p:Addr) (bs:List Bool),xs=[.ref p]/\Cr X.K H p (bs.map V.bl)/\Q (.bl (bs.any id)) H) II:=by
 intro Z F U H env vs xs z Q K rv hz k;unfold II at hz;split at hz
 .rw[aas]at hz;obtain⟨ns,hn,rfl⟩:=hz;obtain⟨v,rfl,r⟩:=rv.one;obtain⟨p,vs,rfl,h1,h2⟩:=r.lst K.sF;have:=bw tH hn h2;subst this;exact#[p,ns,rfl,.inl (.inl h1),k _ F H ai K (.bl _)]
 .cases hz
abbrev WO:=En->(Option Int->En->Prop)->Prop
structure OL(ob:B3)(X:Cx)(e:Option Expr)(f:WO):Prop where
 ex:∃t:TO,PO X e t/\∀(Z:Zn) (F:Hp) (U:L2.St) (H:Hp) (env:En) (P:Option Int->En->Prop) (Q:Option Int->Hp->Prop),rW #[14] Z F U H env->f env P ->
  (∀i bY F' H',P i bY->dO F F'->rW #[14] Z F' U H' bY->Q i H')->t U H Q
def Cd:WO:=λenv P=>P none env
def Cc(a:WE):WO:=λenv P=>a env λx e=>opt (Iz x) λi=>P (some i) e
def xJ:OL ob X none Cd:=#[_,o6,λZ F U H env P Q K hf k=>k none env F H hf ai K]
def xI(h:Fz ob X e f):OL ob X (some e) (Cc f):=by obtain⟨t,ht,k⟩:=h.ex;refine#[_,o5 ht,λZ F U H env P Q K hf kk=>k Z F U H env _ _ K hf λx e1 v F1 H1 p s1 K1 r1=>?_];obtain⟨z,hz,p⟩:=p;cases x<;>cases hz;rw[r1.int];exact#[_,rfl,kk _ e1 F1 H1 p s1 K1]
noncomputable def BQ(xs:List O)(lo hi:Option Int):List O:=(xs.drop (HT.Ca xs.length 0 lo)).take (HT.Ca xs.length xs.length hi - HT.Ca xs.length 0 lo)
noncomputable def MK:PV->Option Int->Option Int->Option PV
 |.lst xs,lo,hi=>some (.lst (BQ xs lo hi))
 |.tup xs,lo,hi=>some (.tup (BQ xs lo hi))
 |.Cq ns,lo,hi=>some (.lst ((BQ ns lo hi).map .int))
 |_,_,_=>none
def HA(a:WE)(lo hi:WO):WE:=λenv P=>a env λx e1=>lo e1 λl e2=>hi e2 λu e3=>opt (MK x l u) λz=>P z e3
variable{lo hi:Option Int}
def nU{vs:Aag}{xs:Aab}(r:nE K F vs xs):nE K F (Fu vs lo hi) (BQ xs lo hi):=by unfold Fu BQ;rw[r.len];exact(r.drop _).take _
def xT:Fu (ns.map V.int) lo hi=(BQ ns lo hi).map V.int:=by unfold Fu BQ;rw[aad,aeM,aeN]
def Rep.vw{x:PV}(h:Rep M.K F v x):Vw M F H v x:=.inl h
variable{p2:Pos}
def AK{l u:Option Expr}{lo hi:WO}(ha:Bk ob X a f)(hl:OL ob X l lo)(hu:OL ob X u hi):Bk ob X (.Subscript a (.Slice l u none p2) pos) (HA f lo hi):=by
 obtain⟨t,ht,k⟩:=ha.ex;obtain⟨t1,JY,k1⟩:=hl.ex;obtain⟨t2,KY,k2⟩:=hu.ex;refine#[_,iW (KH.or oS wc) ht JY KY,λZ F U H env P Q K hf kk=>k Z F U H env _ _ K hf λx e1 v F1 H1 p s1 K1 r1=>?_];refine k1 Z F1 U H1 e1 _ _ K1 p λi e2 F2 H2 p2 s2 K2=>k2 Z F2 U H2 e2 _ _ K2 p2 λj e3 F3 H3 p3 s3 K3=>?_;obtain⟨z,hz,p3⟩:=p3;have r3:=(r1.mono s2).mono s3;have s4:=af s1 (af s2 s3);have Td:Vw #[14] F3 H3 v x:=.inl r3;cases x<;>simp only[MK]at hz<;>cases hz
 .obtain⟨q,vs,rfl,h1,h2⟩:=Td.tup K3.sF;refine .inr #[q,vs,rfl,h1,λhw=>kk _ e3 _ F3 H3 p3 s4 K3 ?_,λl hl=>?_]
  .have:BQ ‹_› i j=‹List PV›:=by unfold BQ;rw[<- h2.len,hw.1,hw.2];simp[h2.len]
   rw[this];exact r3
  .have hF  := dO.none_of K3.sF hl;exact kk _ e3 _ _ _ p3 (af s4 (ao hF)) (K3.lay hl) (.tup (.inl (.inl ah)) ((nU h2).mono (ao hF)))
 .obtain⟨q,vs,rfl,h1,h2⟩:=Td.lst K3.sF;refine .inl #[q,vs,rfl,.inl (.inl h1),λl hl=>?_];have hF  := dO.none_of K3.sF hl;exact kk _ e3 _ _ _ p3 (af s4 (ao hF)) (K3.lay hl) (.lst ah ((nU h2).mono (ao hF)))
 .obtain⟨q,rfl,h1⟩:=Td.Cq K3.sF;refine .inl #[q,_,rfl,h1,λl hl=>?_];have hF  := dO.none_of K3.sF hl;exact kk _ e3 _ _ _ p3 (af s4 (ao hF)) (K3.lay hl) (.lst (by rw[ah,xT]) (dE _))
structure RL(M:Md)(Z:Zn)(F:Hp)(P:Wd)(D:Ends):Prop where
 nx:∀env U F' H,P.nx env->dO F F'->rW M Z F' U H env->D.nx U H
 rt:∀x env v U F' H,P.rt x env->dO F F'->rW M Z F' U H env->Rep M.K F' v x->D.rt v H
 bk:∀env U F' H,P.bk env->dO F F'->rW M Z F' U H env->D.bk U H
 ct:∀env U F' H,P.ct env->dO F F'->rW M Z F' U H env->D.ct U H
 rf:∀x env v U F' H,P.rf x env->dO F F'->(∀xs,x≠.set xs)->rW M Z F' (U++[some v]) H (env++[some #[1,x]])->D.rt v H
 ro:∀x i env v U F' H,P.ro x i env->dO F F'->rW M Z F' U H env->env[i]?=some (some #[4,x])->U[i]?=some (some v)->D.rt v H
variable{Z:Zn}{P:Wd}
def RL.mono{F1:Hp}{D:Ends}(h:RL M Z F P D)(s:dO F F1):RL M Z F1 P D :=
 #[λe U F' H p q=>h.nx e U F' H p (af s q),λx e v U F' H p q=>h.rt x e v U F' H p (af s q),λe U F' H p q=>h.bk e U F' H p (af s q),λe U F' H p q=>h.ct e U F' H p (af s q),λx e v U F' H p q=>h.rf x e v U F' H p (af s q),λx i e v U F' H p q=>h.ro x i e v U F' H p (af s q)]
structure EX(ob:B3)(X:Cx)(st:Stmt)(f:WS):Prop where
 ex:∃t:TS,PS X st t/\∀(Z:Zn) (F:Hp) (U:L2.St) (H:Hp) (env:En) (P:Wd) (D:Ends),rW #[14] Z F U H env->f P env->RL #[14] Z F P D->t D U H
structure EG(ob:B3)(X:Cx)(st:List Stmt)(f:WS):Prop where
 ex:∃t:TS,IK X st t/\∀(Z:Zn) (F:Hp) (U:L2.St) (H:Hp) (env:En) (P:Wd) (D:Ends),rW #[14] Z F U H env->f P env->RL #[14] Z F P D->t D U H
abbrev WG:=PV->En->(En->Prop)->Prop
structure RQ(ob:B3)(X:Cx)(tg:Expr)(f:WG):Prop where
 ex:∃t:TG,PG X tg t/\∀(Z:Zn) (F:Hp) (U:L2.St) (H:Hp) (env:En) (v:V) (x:PV) (P:En->Prop) (Q:L2.St->Hp->Prop),rW #[14] Z F U H env->Rep X.K F v x->f x env P ->
  (∀bY sa F' H',P bY->dO F F'->rW #[14] Z F' sa H' bY->Q sa H')->t v U H Q
abbrev Mq:=List PV->En->(En->Prop)->Prop
structure Lw(ob:B3)(X:Cx)(Xp:Aai)(f:Mq):Prop where
 ex:∃t:Ju,RG X Xp t/\∀(Z:Zn) (F:Hp) (U:L2.St) (H:Hp) (env:En) (vs:Aag) (xs:Aab) (P:En->Prop) (Q:L2.St->Hp->Prop),rW #[14] Z F U H env->nE X.K F vs xs->f xs env P ->
  (∀bY sa F' H',P bY->dO F F'->rW #[14] Z F' sa H' bY->Q sa H')->t vs U H Q
def iN(a b:WS):WS:=λP env=>a {P with nx:=b P} env
def BW:WS:=λP env=>P.nx env
def Be(a:WE):WS:=λP env=>a env P.rt
def CJ(a:WE):WS:=λP env=>a env λ_ e=>P.nx e
def C8(c:WT)(a b:WS):WS:=λP env=>c env λk e=>if k=true then a P e else b P e
def Ba(i:Nat)(a:WE):WS:=λP env=>a env λx e=>P.nx (e.set i (some #[0,x]))
def Ck(i:Nat)(a:WE):WS:=λP env=>a env λx e=>P.nx (e.set i (some #[1,x]))
def gN(i:Nat):WG:=λx env P=>P (env.set i (some #[0,x]))
def CF:Mq:=λxs env P=>xs=[]/\P env
noncomputable def Bb(g:WG)(r:Mq):Mq:=λxs env P=>match xs with
 |[]=>False
 |x::xs=>g x env λe=>r xs e P
noncomputable def gT(r:Mq):WG:=λx env P=>match x with
 |.tup xs=>r xs env P
 |_=>False
def Ha(a:WE)(g:WG):WS:=λP env=>a env λx e=>g x e P.nx
noncomputable def MP(i j:Nat)(a:WA):WS:=λP env=>a env λxs e=>match xs with
 |[x,y]=>P.nx ((e.set i (some #[0,x])).set j (some #[0,y]))
 |_=>False
variable{tg:Expr}{st:Stmt}{Od:List Stmt}{u v:WS}
def xq:EG ob X [] BW:=#[_,j4,λZ F U H env P D K hf L=>L.nx env U F H hf ai K]
def uT(h1:EX ob X st u)(h2:EG ob X Od v):EG ob X (st::Od) (iN u v):=by obtain⟨t1,JY,k1⟩:=h1.ex;obtain⟨t2,KY,k2⟩:=h2.ex;refine#[_,aO JY KY,λZ F U H env P D K hf L=>k1 Z F U H env _ _ K hf #[λe sa F' H' p s K'=>?_,L.rt,L.bk,L.ct,L.rf,L.ro]];exact k2 Z F' sa H' e P D K' p (L.mono s)
def xp(h1:EX ob X st u):EG ob X [st] u:=by obtain⟨t1,JY,k1⟩:=h1.ex;exact#[t1,cQ JY,k1]
def zo(h:Bk ob X e f):EX ob X (.Return (some e) pos) (Be f):=by obtain⟨t,ht,k⟩:=h.ex;exact#[_,eN ht,λZ F U H env P D K hf L=>k Z F U H env _ _ K hf λx e1 v F1 H1 p s1 K1 r1=>L.rt x e1 v U F1 H1 p s1 K1 r1]
def xu(h:Fz ob X e f)(hs:autoParam (ab3 e none pos.line X.env=pure false) At):EX ob X (.Expr e pos) (CJ f):=by obtain⟨t,ht,k⟩:=h.ex;exact#[_,j5 ht hs,λZ F U H env P D K hf L=>k Z F U H env _ _ K hf λx e1 v F1 H1 p s1 K1 r1=>L.nx e1 U F1 H1 p s1 K1]
def AJ{s1 s2:List Stmt}(hc:E3 ob X c t)(ha:EG ob X s1 u)(hb:EG ob X s2 v):EX ob X (.If c s1 s2 pos) (C8 t u v):=by
 obtain⟨w,hw,k⟩:=hc.ex;obtain⟨ta,ha,ka⟩:=ha.ex;obtain⟨tb,hb,kb⟩:=hb.ex;refine#[_,qe hw ha hb,λZ F U H env P D K hf L=>k Z F U H env _ _ K hf λx e1 F1 H1 p s1 K1=>?_];cases x with
 |true=>exact Fj (ka Z F1 U H1 e1 P D K1 p (L.mono s1))
 |false=>exact ES (kb Z F1 U H1 e1 P D K1 p (L.mono s1))
def zn(i:Nat){pos':Pos}(hN:X.N.Nodup)(hi:X.N[i]?=some x)(hx:Loc X.env.scope x)(he:Bk ob X e f)(hs:autoParam (ab3 e (some (.Name x pos')) pos.line X.env=pure false) At)(hf:autoParam (X.fn x=true\/X.env.scope.names.lookup x=some .local) ge):
  EX ob X (.Assign [.Name x pos'] e pos) (Ba i f):=by
 obtain⟨t,ht,k⟩:=he.ex;exact#[_,bp hN hi hx ht hs hf,λZ F U H env P D K hf L=>k Z F U H env _ _ K hf λx e1 v F1 H1 p s1 K1 r1=>L.nx _ _ F1 H1 p s1 (K1.put r1)]
def xr(i:Nat){pos':Pos}(hN:X.N.Nodup)(hi:X.N[i]?=some x)(hx:Loc X.env.scope x)(he:EY ob X e f)(hs:autoParam (ab3 e (some (.Name x pos')) pos.line X.env=pure false) At)(hf:autoParam (X.fn x=true\/X.env.scope.names.lookup x=some .local) ge):
  EX ob X (.Assign [.Name x pos'] e pos) (Ck i f):=by
 obtain⟨t,ht,k⟩:=he.ex;exact#[_,bp hN hi hx ht hs hf,λZ F U H env P D K hf L=>k Z F U H env _ _ K hf λx e1 v F1 H1 p s1 _ K1=>L.nx _ _ F1 H1 p s1 K1.take]
def xP(i:Nat)(hN:X.N.Nodup)(hi:X.N[i]?=some x)(hx:Loc X.env.scope x)(hf:autoParam (X.fn x=true\/X.env.scope.names.lookup x=some .local) ge):RQ ob X (.Name x pos) (gN i) :=
 #[_,j7 hN hi hx hf,λZ F U H env v x P Q K r hf k=>k _ _ F H hf ai (K.put r)]
def xO:Lw ob X [] CF:=#[_,o7,λZ F U H env vs xs P Q K r hf k=>by obtain⟨rfl,hf⟩:=hf;cases r;exact#[rfl,k env U F H hf ai K]]
def u9{g:WG}{r:Mq}(h1:RQ ob X e g)(h2:Lw ob X es r)(hs:autoParam ((acu (e::es) X.env).map (·.2)=assign e X.env::(acu es X.env).map (·.2)) At):Lw ob X (e::es) (Bb g r):=by
 obtain⟨t1,JY,k1⟩:=h1.ex;obtain⟨t2,KY,k2⟩:=h2.ex;refine#[_,m5 JY KY hs,λZ F U H env vs xs P Q K r hf k=>?_];cases r with
 |nil=>exact hf.elim
 |cons r1 r2=>refine#[_,_,rfl,k1 Z F U H env _ _ _ _ K r1 hf λe1 ss F1 H1 p s1 K1=>?_];exact k2 Z F1 ss H1 e1 _ _ P Q K1 (r2.mono s1) p λe2 sl F2 H2 p2 s2 K2=>k e2 sl F2 H2 p2 (af s1 s2) K2
variable{n:Nat}
def Aa{r:Mq}{k:Nat}(hc:X.calm=true)(h:Lw ob X es r)(hl:∀xs env P,r xs env P->xs.length=n)(hn:autoParam ((acu es X.env).length=n) At)(EZ:autoParam ((acu es X.env).findIdx? (·.1)=none) At):RQ ob X (.Tuple es k pos) (gT r):=by
 obtain⟨t,ht,kk⟩:=h.ex;refine#[_,rG hc ht hn EZ,λZ F U H env v x P Q K r hf k=>?_];unfold gT at hf;split at hf
 .have hl:=hl _ _ _ hf;cases r with
  |tup h1 h2=>exact#[_,_,rfl,ap K.sF h1,by rw[h2.len];exact hl,kk Z F U H env _ _ P Q K h2 hf k]
 .exact hf.elim
def zh:∀xs env P,CF xs env P->xs.length=0:=λxs env P h=>by obtain⟨rfl,_⟩:=h;rfl
def xi{i:Nat}{r:Mq}(h:∀xs env P,r xs env P->xs.length=n):∀xs env P,Bb (gN i) r xs env P->xs.length=n+1:=λxs env P q=>by
 cases xs with
 |nil=>exact q.elim
 |cons x xs=>exact congrArg _ (h _ _ _ q)
def zv{g:WG}(he:Bk ob X e f)(hg:RQ ob X tg g)(hs:autoParam (adT [tg] e pos.line X.env=pure false) At)(hw:autoParam (adU [tg] e X.env=pure none) At)
  (h1:autoParam ((acu [tg] X.env).map (·.2)=[assign tg X.env]) At):EX ob X (.Assign [tg] e pos) (Ha f g):=by
 obtain⟨t,ht,k⟩:=he.ex;obtain⟨t1,JY,k1⟩:=hg.ex;refine#[_,gC ht JY hs hw h1,λZ F U H env P D K hf L=>k Z F U H env _ _ K hf λx e1 v F1 H1 p s1 K1 r1=>?_];exact k1 Z F1 U H1 e1 v x _ _ K1 r1 p λe2 sl F2 H2 p2 s2 K2=>L.nx e2 sl F2 H2 p2 (af s1 s2) K2
variable{px py:Pos}
def zq(i j:Nat){y:Str}{pt:Pos}{kt k2 pt2}(hc:X.calm=true)(hN:X.N.Nodup)(hi:X.N[i]?=some x)(hj:X.N[j]?=some y)(EI:i≠j)
  (hx:X.env.scope.names.lookup x=some .local) (hy:X.env.scope.names.lookup y=some .local) (ha:Gm ob X [a,b] fa)
  (hw:adU [.Tuple [.Name x px,.Name y py] kt pt] (.Tuple [a,b] k2 pt2) X.env=pure (some [x,y]))
  (hs:autoParam (adT [.Tuple [.Name x px,.Name y py] kt pt] (.Tuple [a,b] k2 pt2) pos.line X.env=pure false) At) :
  EX ob X (.Assign [.Tuple [.Name x px,.Name y py] kt pt] (.Tuple [a,b] k2 pt2) pos) (MP i j fa):=by
 obtain⟨t,ht,k⟩:=ha.ex;refine#[_,ym hc hN hi hj EI hx hy ht hw hs,λZ F U H env P D K hf L=>k Z F U H env _ _ K hf λxs e1 vs F1 H1 p hl s1 K1 r1=>?_];cases r1 with
 |nil=>cases hl
 |cons r1 r2=>cases r2 with
  |nil=>cases hl
  |cons r2 r3=>cases r3 with
   |nil=>exact#[_,_,rfl,L.nx _ _ F1 H1 p s1 ((K1.put r1).put r2)]
   |cons=>simp at hl
def Jw(c:WT)(b:WS)(P:Wd):Nat->En->Prop
 |0,_=>False
 |n+1,env=>c env λk e=>if k=true then b {P with nx:=Jw c b P n,ct:=Jw c b P n,bk:=P.nx} e else P.nx e
def Dn(c:WT)(b:WS):WS:=λP env=>∃n,Jw c b P n env
def uU(hp:PassesOwn #[6] X.A X.env X.xe)(hc:E3 ob X c t)(hb:EG ob X Od u):EX ob X (.While c Od [] pos) (Dn t u):=by
 obtain⟨w,hw,k⟩:=hc.ex;obtain⟨tb,hb,kb⟩:=hb.ex;refine#[_,ua hp hw hb,λZ F U H env P D K hf L=>?_];obtain⟨n,hf⟩:=hf;refine#[λm sa H'=>∃F' bY,dO F F'/\rW _ Z F' sa H' bY/\Jw t u P m bY,#[n,F,env,ai,K,hf],?_];rintro m sa H' ⟨F',bY,s,K',hg⟩;cases m with
 |zero=>exact hg.elim
 |succ m=>
  refine k Z F' sa H' bY _ _ K' hg λx e1 F1 H1 p s1 K1=>?_;cases x with
  |true=>refine Fj #[_,λsl H2 q=>#[m,adh m,q],?_];have sF:=af s s1;exact kb Z F1 sa H1 e1 _ _ K1 p #[λe2 sl F2 H2 q s2 K2=>#[F2,e2,af sF s2,K2,q],(L.mono sF).rt,(L.mono sF).nx,λe2 sl F2 H2 q s2 K2=>#[F2,e2,af sF s2,K2,q],(L.mono sF).rf,(L.mono sF).ro]
  |false=>exact ES (L.nx e1 sa F1 H1 p (af s s1) K1)
structure EF(M:Md)(J:It)(F:Hp)(xs:Aab):Prop where
 go:∀(Z:Zn) (i:Nat) (U:L2.St) (env:En) (F' H:Hp) (x:PV),dO F F'->rW M Z F' U H env->xs[i]?=some x->J.go i H/\∀v H',J.yld i H v H'->∃SE,dO F' SE/\rW M Z SE U H' env/\Rep M.K SE v x/\dO H H'/\∀a,SE a≠none->F' a≠none\/H a=none
 stop:∀(Z:Zn) (i:Nat) (U:L2.St) (env:En) (F' H:Hp),dO F F'->rW M Z F' U H env->xs.length<=i->J.stop i H
structure GW(ob:B3)(X:Cx)(tg it:Expr)(f:WA):Prop where
 ex:∃wi:TI,PI X tg it wi/\∀(Z:Zn) (F:Hp) (U:L2.St) (H:Hp) (env:En) (P:Aab->En->Prop) (R:It->Hp->Prop),rW #[14] Z F U H env->f env P ->
  (∀xs bY J F' H',P xs bY->dO F F'->rW #[14] Z F' U H' bY->EF #[14] J F' xs->R J H')->wi U H R
def y9{a:Addr}{vs:Aag}{xs:Aab}(h:F a=some (.lst vs))(r:nE M.K F vs xs):EF M (N4 M.K a) F xs:=by refine#[λZ i U env F' H x s K e=>?_,λZ i U env F' H s K hl=>#[vs,.inl (.inl (K.sF _ _ (s _ _ h))),by rw[r.len];exact hl]];obtain⟨v,hv,rv⟩:=r.get e;have hH:Cr M.K H a vs:=.inl (.inl (K.sF _ _ (s _ _ h)));refine#[#[vs,v,hH,hv],λv' H' y=>?_];obtain⟨rfl,y⟩:=y;have:=y vs hH;rw[hv]at this;cases this;exact#[F',ai,K,rv.mono s,ai,λ_ h=>.inl h]
def y0{a:Addr}{vs:Aag}{xs:Aab}(h:Cf M.K F a vs)(r:nE M.K F vs xs):EF M (Vn M.K a) F xs:=by refine#[λZ i U env F' H x s K e=>?_,λZ i U env F' H s K hl=>#[vs,ap K.sF (ap s h),by rw[r.len];exact hl]];obtain⟨v,hv,rv⟩:=r.get e;have hH  := ap K.sF (ap s h);refine#[#[vs,v,hH,hv],λv' H' y=>?_];obtain⟨rfl,y⟩:=y;have:=y vs hH;rw[hv]at this;cases this;exact#[F',ai,K,rv.mono s,ai,λ_ h=>.inl h]
def TK(K:aag)(tl:TE):TI:=λU H R=>tl U H λx H1=>∃a,x=.ref a/\(((∃xs,Cr K H1 a xs)/\R (N4 K a) H1)\/((∃xs,Cf K H1 a xs)/\R (Vn K a) H1))
def yo{l:Expr}{tl:TE}(hl:PE X l tl):PI X tg l (TK X.K tl):=by
 refine λpins s U H R I h=>Bt (hl pins s U H _ I h) λv s1 #[x,H1,I1,r1,q1]=>?_;obtain⟨a,e,q⟩:=q1;subst e;cases r1;rcases q with ⟨⟨xs,hq⟩,q⟩|⟨⟨xs,hq⟩,q⟩
 .obtain⟨eQ,rv,p,hz⟩:=I1.list hq;refine ach p.isList (#[s1.heap.objs.size,_,_,_,H1,rfl,I1.kept λb o e=>aac _ e,lj a _,#[_,aaf _ rfl,rfl,rfl],λb hb=>?_,q]);have e  :=by simpa using hb
  subst e;exact I1.GH (aai _) (I1.Bc.fresh (aai _))
 .obtain⟨eQ,rv,p,hz⟩:=I1.tuple hq;refine ab9 (p) (#[s1.heap.objs.size,_,_,_,H1,rfl,I1.kept λb o e=>aac _ e,pW a _,#[_,aaf _ rfl,rfl,rfl],λb hb=>?_,q]);have e  :=by simpa using hb
  subst e;exact I1.GH (aai _) (I1.Bc.fresh (aai _))
noncomputable def iS(a:WE):WA:=λenv P=>a env λx e=>match x with
 |.lst xs=>P xs e
 |.tup xs=>P xs e
 |_=>False
def zZ(h:Bk ob X e f):GW ob X tg e (iS f):=by
 obtain⟨t,ht,k⟩:=h.ex;refine#[_,yo ht,λZ F U H env P R K hf kk=>k Z F U H env _ _ K hf λx e1 v F1 H1 p s1 K1 r1=>?_];cases r1 with
 |tup h1 h2=>exact#[_,rfl,.inr #[#[_,ap K1.sF h1],kk _ e1 _ F1 H1 p s1 K1 (y0 h1 h2)]]
 |lst h1 h2=>exact#[_,rfl,.inl #[#[_,.inl (.inl (K1.sF _ _ h1))],kk _ e1 _ F1 H1 p s1 K1 (y9 h1 h2)]]
 |_=>exact p.elim
noncomputable def FJ(lo:Int)(n:Nat):Aab:=(aa3 n).map λ(k:Nat)=>.int (lo+(k:Int))
def y8{lo:Int}:EF M (SD lo n) F (FJ lo n):=by
 refine#[λZ i U env F' H x s K e=>?_,λZ i U env F' H s K hl=>show n<=i by simpa[FJ]using hl];have hi:i<n:=by
  rcases aaS i n with h|h
  .exact h
  .rw[aam (by simpa[FJ]using h)]at e;cases e
 have ex  :=by unfold FJ at e;rw[aaj,acq hi]at e;exact(aar e).symm
 subst ex;refine#[hi,λv' H' y=>?_];obtain⟨rfl,rfl⟩:=y;exact#[F',ai,K,.int _,ai,λ_ h=>.inl h]
noncomputable def KU(a:WA):WA:=λenv P=>a env λxs e=>match xs with
 |[.int j]=> -1000000<=j/\j<=1000000/\P (FJ 0 j.toNat) e
 |_=>False
def X4(a:WA):WA:=λenv P=>a env λxs e=>match xs with
 |[.int i,.int j]=>(-1000000<=i/\i<=1000000 /\ -1000000<=j/\j<=1000000)/\P (FJ i (j - i).toNat) e
 |_=>False
theorem tw(hg:Gl X "range")(hm:X.mg "range" = none)(ha:Gm ob X [a] fa)(hs:autoParam (aal [a] X.env=[(false,eval a X.env)]) At):GW ob X tg (.Call (.Name "range" p) [a] [] pos) (KU fa):=by
 obtain⟨t,ht,k⟩:=ha.ex;refine#[_,rF hg hm ht hs,λZ F U H env P R K hf kk=>k Z F U H env _ _ K hf λxs e1 vs F1 H1 p _ s1 K1 r1=>?_];split at p
 .cases r1 with
  |cons r1 r2=>cases r1;cases r2;exact#[_,rfl,#[],#[],kk _ e1 _ F1 H1 p.2.2 s1 K1 y8]
 .exact p.elim
noncomputable def Eh(xs ys:Aab):Aab:=(xs.zip ys).map λp=>.tup [p.1,p.2]
noncomputable def Dl(s:Str):Aab:=s.cps.toList.map λc=>.str #[#v[c]]
theorem y6{s:Str}:EF M (SA s) F (Dl s):=by
 refine#[λZ i U env F' H x sm K e=>?_,λZ i U env F' H sm K hl=>show s.cps.size<=i by simpa[Dl]using hl];unfold Dl at e;rw[aaj]at e;cases ez:s.cps.toList[i]? with
 |none=>rw[ez]at e;cases e
 |some c=>
  rw[ez]at e;have e  := (aar e).symm;subst e;have hi:i<s.cps.size:=by
   rcases aaS i s.cps.size with h|h
   .exact h
   .rw[aam #[]]at ez;cases ez
  refine#[hi,λv' H' y=>?_];obtain⟨rfl,c',Fm,rfl⟩:=y;rw[<- abI,ez]at Fm;cases Fm;exact#[F',ai,K,.str _,ai,λ_ h=>.inl h]
def JW(a:WE):WA:=λenv P=>a env λx e=>match x with
 |.str s=>P (Dl s) e
 |_=>False
def zY(h:Bk ob X e f):GW ob X tg e (JW f):=by
 obtain⟨t,ht,k⟩:=h.ex;refine#[_,yn ht,λZ F U H env P R K hf kk=>k Z F U H env _ _ K hf λx e1 v F1 H1 p s1 K1 r1=>?_];cases r1 with
 |str s=>exact#[s,rfl,kk _ e1 _ F1 H1 p s1 K1 y6]
 |_=>exact p.elim
def Fo(g:WG)(b:WS)(P:Wd):Aab->En->Prop
 |[],env=>P.nx env
 |x::xs,env=>g x env λe=>b {P with nx:=Fo g b P xs,ct:=Fo g b P xs,bk:=P.nx} e
def DF(it:WA)(g:WG)(b:WS):WS:=λP env=>it env λxs e=>Fo g b P xs e
theorem zu{it:Expr}{g:WG}(hp:PassesOwn #[6] X.A X.env X.xe)(hc:X.calm=true)(hi:GW ob X tg it fa)(hg:RQ ob X tg g)(hb:EG ob X Od u)
  (hs:autoParam (∀x,aaB it X.env x=pure x) AT):EX ob X (.For tg it Od [] pos) (DF fa g u):=by
 obtain⟨wi,IW,k⟩:=hi.ex;obtain⟨Oc,Yi,kg⟩:=hg.ex;obtain⟨tb,Yj,kb⟩:=hb.ex;refine#[_,rC hp hc IW Yi Yj hs,λZ F U H env P D K hf L=>k Z F U H env _ _ K hf λxs e1 J F1 H1 p s1 K1 I1=>?_];have L1:=L.mono s1;refine#[λi m sa H'=>m=xs.length - i/\∃F' bY,dO F1 F'/\rW _ Z F' sa H' bY/\Fo g u P (xs.drop i) bY,#[_,rfl,F1,e1,ai,K1,p],?_];rintro i m sa H' ⟨rfl,F',bY,s,K',Kv⟩;by_cases BU:i<xs.length
 .rw[abU BU]at Kv;obtain⟨h1,h2⟩:=I1.go Z i sa bY F' H' xs[i] s K' #[0];refine .inr #[h1,_,λsl H2 q=>#[_,#[],rfl,q],λv H2 y=>?_];obtain⟨F2,s2,K2,r2,_,_⟩:=h2 v H2 y;refine kg Z F2 sa H2 bY v _ _ _ K2 r2 Kv λe3 sm F3 H3 p3 s3 K3=>?_;have sF:=af s (af s2 s3);exact kb Z F3 sm H3 e3 _ _ K3 p3 #[λe4 sb F4 H4 q s4 K4=>#[F4,e4,af sF s4,K4,q],(L1.mono sF).rt,(L1.mono sF).nx,λe4 sb F4 H4 q s4 K4=>#[F4,e4,af sF s4,K4,q],(L1.mono sF).rf,(L1.mono sF).ro]
 .rw[acx #[]]at Kv;exact .inl #[I1.stop Z i sa bY F' H' s K' #[],L1.nx bY sa F' H' Kv s K']
noncomputable def lend(s:Sl):Sl:=if s.k=1 then #[3,s.v]else s
noncomputable def Eb(js:Aae)(env:En):En:=js.map λo=>o.bind λj=>((env[j]?).getD none).map lend
noncomputable def DU(s s':Sl):Aaq:=if s'.k=3 then (if s.k=1\/s.k=3 then some #[s.k,s'.v]else none)else if s'.k=2 then (if s.k=2 then some s' else none)else some s'
noncomputable def BV(js:Aae)(env benv:En):En:=env.mapIdx λj o=>match js.findIdx? (λq=>q==some j)with
 |none=>o
 |some i=>match o,benv[i]? with
  |some s,some (some s')=>DU s s'
  |_,_=>none
noncomputable def FL(js:Aae):Bool:=decide (js.filterMap id).Nodup
def i8:∀{js:Aae},(js.filterMap id).Nodup->∀(i i':Nat) (j:Nat),js[i]?=some (some j)->js[i']?=some (some j)->i=i'
 |[],_,i,i',j,h,_=>by simp at h
 |none::js,hn,i,i',j,h,h'=>by
  cases i with
  |zero=>simp at h
  |succ i=>
   cases i' with
   |zero=>simp at h'
   |succ i'=>simp at h h' hn;exact congrArg (·+1) (i8 (js:=js) (by simpa using hn) i i' j h h')
 |some k::js,hn,i,i',j,h,h'=>by
  simp only[acr,id]at hn;obtain⟨hk,hn⟩:=List.nodup_cons.mp hn;have mem:∀m,js[m]?=some (some k)->False:=λm hm=>hk (List.mem_filterMap.mpr #[some k,aaA hm,rfl]);cases i with
  |zero=>
   simp at h;subst h;cases i' with
   |zero=>rfl
   |succ i'=>exact(mem i' (by simpa using h')).elim
  |succ i=>
   cases i' with
   |zero=>simp at h';subst h';exact(mem i (by simpa using h)).elim
   |succ i'=>exact congrArg (·+1) (i8 hn i i' j (by simpa using h) (by simpa using h'))
variable{F' H':Hp}{env:En}
def EW.wr{v:V}{s:Sl}{fp:Aaj}(h:EW M Z F H v s fp):∀c∈fp,c∈Z.S\/Z.H0 c=none:=by
 rcases h with ⟨_,rfl,_⟩|⟨_,a,_,rfl,h0,_⟩|⟨_,a,_,h,_⟩|⟨_,a,_,rfl,h0,_⟩
 .intro c hc;simp at hc
 .intro c hc;simp at hc;subst hc;exact .inr h0
 .exact h
 .intro c hc;simp at hc;subst hc;exact .inl h0
noncomputable def Ea(js:Aae)(env:En)(fp:Nat->List Addr)(i:Nat):Aaj:=match js[i]? with
 |some (some j)=>match env[j]? with
  |some (some _)=>fp j
  |_=>[]
 |_=>[]
noncomputable def Dz(js:Aae)(env:En)(fp:Nat->List Addr)(H:Hp):Aaj:=((aa3 js.length).flatMap (Ea js env fp)).filter λb=>(H b).isSome
variable{js:Aae}{fp:Nat->List Addr}
def sr{i:Nat}{a:Addr}(h:a∈Ea js env fp i)(hH:H a≠none):a∈Dz js env fp H:=by
 refine List.mem_filter.mpr #[List.mem_flatMap.mpr #[i,List.mem_range.mpr ?_,h],by obtain⟨o,ho⟩:=cz hH;rw[ho];rfl];rcases aaS i js.length with q|q
 .exact q
 .unfold Ea at h;rw[aam q]at h;simp at h
def b5{a:Addr}(h:a∈Dz js env fp H):∃(i j:Nat) (s:Sl),js[i]?=some (some j)/\env[j]?=some (some s)/\a∈fp j:=by
 obtain⟨i,_,h⟩:=List.mem_flatMap.mp (List.mem_filter.mp h).1;unfold Ea at h;split at h
 .rename_i j ej;split at h
  .rename_i s es;exact#[i,j,s,ej,es,h]
  .simp at h
 .simp at h
def vm{i:Nat}{s':Sl}(h:(Eb js env)[i]?=some (some s')):∃j s,js[i]?=some (some j)/\env[j]?=some (some s)/\s'=lend s:=by
 unfold Eb at h;rw[aaj]at h;cases ej:js[i]? with
 |none=>rw[ej]at h;cases h
 |some o=>
  cases o with
  |none=>rw[ej]at h;cases h
  |some j=>
   rw[ej]at h;have h:((env[j]?).getD none).map lend=some s':=aar h;cases es:env[j]? with
   |none=>rw[es]at h;cases h
   |some o=>
    cases o with
    |none=>rw[es]at h;cases h
    |some s=>rw[es]at h;exact#[j,s,rfl,es,(aar h).symm]
def nW{i j:Nat}{v:V}(h:js[i]?=some (some j))(hv:U[j]?=some (some v)):(BR js U)[i]?=some (some v):=by unfold BR;rw[aaj,h];show some ((U[j]?).getD none)=_;rw[hv];rfl
noncomputable def Zb(js:Aae)(env:En)(fp:Nat->List Addr)(F H:Hp):Zn:={H0:=H,F0:=F,S:=Dz js env fp H,sS:=λb hb e=>by have:=(List.mem_filter.mp hb).2;rw[e]at this;cases this}
theorem jf(hj:FL js=true)(K:rW M Z F U H env)(L:Slots M Z F U H env fp):rW M (Zb js env fp F H) F (BR js U) H (Eb js env):=by
 have hn  := of_decide_eq_true hj;refine#[K.sF,λb o h _=>h,λb h=>h,ai,λa h=>.inl h,by simp[Eb,BR],Ea js env fp,λi s' h=>?_,λi a h=>?_,λi i' a YC h h'=>?_,λi a s e=>by cases e]
 .obtain⟨j,s,ej,es,rfl⟩:=vm h;obtain⟨v,hv,ok⟩:=L.at' j s es;have ef:Ea js env fp i=fp j:=by unfold Ea;rw[ej];dsimp only;rw[es]
  refine#[v,nW ej hv,?_];have Kt  := λc hc=>sr (by rw[ef];exact hc) (L.al j c hc).1;rw[ef];rcases ok with ⟨k,e,r⟩|⟨k,a,e,e2,h0,r⟩|⟨k,a,e,h0,r⟩|⟨k,a,e,e2,h0,r⟩
  .have:lend s=s:=by unfold lend;rw[if_neg #[1]]
   rw[this];exact .inl #[k,e,r]
  .have:lend s=#[3,s.v]:=by unfold lend;rw[if_pos k]
   rw[this];exact .inr (.inr (.inr #[rfl,a,e,e2,Kt a #[1],r]))
  .have:lend s=s:=by unfold lend;rw[if_neg #[]]
   rw[this];exact .inr (.inr (.inl #[k,a,e,λc hc=>.inl (Kt c hc),r]))
  .have:lend s=s:=by unfold lend;rw[if_neg #[1]]
   rw[this];exact .inr (.inr (.inr #[k,a,e,e2,Kt a #[1],r]))
 .unfold Ea at h;split at h
  .split at h
   .exact L.al _ a h
   .simp at h
  .simp at h
 .unfold Ea at h h';split at h
  .rename_i j ej;split at h'
   .rename_i j' Zu;split at h
    .split at h'
     .have:j≠j':=λe=>by subst e;exact YC (i8 hn i i' j ej Zu)
      exact L.dj j j' a this h h'
     .simp at h'
    .simp at h
   .simp at h'
  .simp at h
noncomputable def gP{sz:L2.St}{benv:En}(hj:FL js=true)(K:rW M Z F U H env)(L:Slots M Z F U H env fp)(Kb:rW M (Zb js env fp F H) F' sz H' benv)
  (hg:∀(k j:Nat),js[k]?=some (some j)->sz[k]?=(BR js U)[k]?) :
  ∃HW,Slots M Z F' U H' (BV js env benv) HW/\rW M Z F' U H' (BV js env benv)/\∀i a,a∈HW i->(∃i',a∈fp i')\/H a=none:=by
 have hn:(js.filterMap id).Nodup:=of_decide_eq_true hj;obtain⟨fb,Lb⟩:=Kb.sl;have Kt:∀c∈Dz js env fp H,(c∈Z.S\/Z.H0 c=none)/\∃i',c∈fp i':=λc hc=>by obtain⟨i,j,s,e1,e2,e3⟩:=b5 hc;obtain⟨v,_,ok⟩:=L.at' j s e2;exact#[ok.wr c e3,j,e3]
 have NM:∀j i,js.findIdx? (λq=>q==some j)=some i->js[i]?=some (some j):=λj i h=>by rw[List.findIdx?_eq_some_iff_getElem]at h;obtain⟨hi,he,_⟩:=h;rw[aab hi,eq_of_beq he]
 have RB:∀j,(BV js env benv)[j]?=(env[j]?).map λo=>(match js.findIdx? (λq=>q==some j)with
   |none=>o
   |some i=>match o,benv[i]? with
    |some s,some (some s')=>DU s s'
    |_,_=>none):=λj=>by
  unfold BV;rw[List.getElem?_mapIdx]
 have W7:∀i s',benv[i]?=some (some s')->∀c∈fb i,(c∈Z.S\/Z.H0 c=none)/\((∃i',c∈fp i')\/H c=none):=λi s' e c hc=>by
  obtain⟨v,_,ok⟩:=Lb.at' i s' e;rcases ok.wr c hc with h|h
  .exact#[(Kt c h).1,.inl (Kt c h).2]
  .exact#[.inr (K.h0 h),.inr h]
 let HW:Nat->List Addr:=λj=>match js.findIdx? (λq=>q==some j)with
  |none=>fp j
  |some i=>match env[j]?,benv[i]? with
   |some (some s),some (some s')=>if (DU s s').isSome=true then fb i else []
   |_,_=>[]
 have keep:∀c o,H c=some o->c∉Dz js env fp H->H' c=some o:=λc o h1 h2=>Kb.sG c o h1 h2;have S:Slots M Z F' U H' (BV js env benv) HW:=by
  refine#[λj t e=>?_,λj a h=>?_,λj j2 a Ow h h2=>?_,λj a t e1 e e3=>?_];case refine_4=>
   rw[RB]at e;cases ej:env[j]? with
   |none=>rw[ej]at e;cases e
   |some o=>
    rw[ej]at e;have e:=aar e;cases ei:js.findIdx? (λq=>q==some j)with
    |none=>rw[ei]at e;dsimp only at e;subst e;exact L.oa j a t e1 ej e3
    |some i=>
     rw[ei]at e;dsimp only at e;cases o with
     |none=>cases e
     |some s=>
      cases eb:benv[i]? with
      |none=>rw[eb]at e;cases e
      |some w=>
       cases w with
       |none=>rw[eb]at e;cases e
       |some s'=>
        rw[eb]at e;dsimp only at e;unfold DU at e;split at e
        .split at e
         .rename_i h1 h2;cases e;rcases h2 with q|q
          .rw[q]at e3;cases e3
          .rw[q]at e3;cases e3
         .cases e
        .split at e
         .split at e
          .rename_i h1;exact L.oa j a s e1 ej h1
          .cases e
         .rename_i h1;cases e;exact absurd e3 h1
  .rw[RB]at e;cases ej:env[j]? with
   |none=>rw[ej]at e;cases e
   |some o=>
    rw[ej]at e;have e:=aar e;show ∃v,U[j]?=some (some v)/\EW M Z F' H' v t (match js.findIdx? (λq=>q==some j)with
     |none=>fp j
     |some i=>match env[j]?,benv[i]? with
      |some (some s),some (some s')=>if (DU s s').isSome=true then fb i else []
      |_,_=>[])
    cases ei:js.findIdx? (λq=>q==some j)with
    |none=>
     rw[ei]at e;dsimp only at e;subst e;obtain⟨v,hv,ok⟩:=L.at' j t ej;refine#[v,hv,ok.mono Kb.gr λc hc=>?_];have YT:=L.al j c hc;obtain⟨o,ho⟩:=cz YT.1;rw[ho];refine keep c o ho λhS=>?_;obtain⟨i,j',s,e1,e2,e3⟩:=b5 hS;have:j≠j':=λz=>by subst z;rw[afQ]at ei;have:=ei (some j) (aaA e1);simp at this
     exact L.dj j j' c this hc e3
    |some i=>
     rw[ei]at e;dsimp only at e ⊢;have W6:=NM j i ei;cases o with
     |none=>cases e
     |some s=>
      rw[ej];cases eb:benv[i]? with
      |none=>rw[eb]at e;cases e
      |some w=>
       cases w with
       |none=>rw[eb]at e;cases e
       |some s'=>
        rw[eb]at e;dsimp only at e ⊢;rw[e,if_pos (Option.isSome_some)];obtain⟨v0,FD,Th⟩:=L.at' j s ej;obtain⟨v,hv,ok⟩:=Lb.at' i s' eb;rw[hg i j W6,nW W6 FD]at hv;cases hv;refine#[v0,FD,?_];unfold DU at e;rcases ok with ⟨k,e1,r⟩|⟨k,a,e1,e2,h0,r⟩|⟨k,a,e1,h0,r⟩|⟨k,a,e1,e2,h0,r⟩
        .rw[if_neg (by rw[k];decide),if_neg (by rw[k];decide)]at e;cases e;exact .inl #[k,e1,r]
        .rw[if_neg (by rw[k];decide),if_neg (by rw[k];decide)]at e;cases e;exact .inr (.inl #[k,a,e1,e2,K.h0 h0,r])
        .rw[if_neg (by rcases k with k|k<;>(rw[k];decide))]at e;have e:s'=t:=by
          split at e
          .split at e
           .exact aar e
           .cases e
          .exact aar e
         subst e;refine .inr (.inr (.inl #[k,a,e1,λc hc=>(W7 i _ eb c hc).1,r]))
        .rw[if_pos k]at e;split at e
         .rename_i hk;cases e;rcases Th with ⟨k0,_⟩|⟨k0,a0,f1,f2,f3,_⟩|⟨k0,_⟩|⟨k0,a0,f1,f2,f3,_⟩
          .rw[k0]at hk;rcases hk with z|z<;>cases z
          .rw[e1]at f1;cases f1;exact .inr (.inl #[k0,a,e1,e2,f3,r])
          .rcases k0 with k0|k0<;>(rw[k0]at hk;rcases hk with z|z<;>cases z)
          .rw[e1]at f1;cases f1;exact .inr (.inr (.inr #[k0,a,e1,e2,f3,r]))
         .cases e
  .have h:a∈(match js.findIdx? (λq=>q==some j)with
     |none=>fp j
     |some i=>match env[j]?,benv[i]? with
      |some (some s),some (some s')=>if (DU s s').isSome=true then fb i else []
      |_,_=>[]):=h
   split at h
   .rename_i ei;have h0:=L.al j a h;obtain⟨o,ho⟩:=cz h0.1;constructor
    .intro z;have:=Kb.pr a (by show H a≠none;exact h0.1);exact this z
    .cases ef:F' a with
     |none=>rfl
     |some o=>
      rcases Kb.nw a (by rw[ef];simp)with q|q
      .exact absurd h0.2 q
      .exact absurd q h0.1
   .split at h
    .split at h
     .exact Lb.al _ a h
     .simp at h
    .simp at h
  .have h:a∈(match js.findIdx? (λq=>q==some j)with
     |none=>fp j
     |some i=>match env[j]?,benv[i]? with
      |some (some s),some (some s')=>if (DU s s').isSome=true then fb i else []
      |_,_=>[]):=h
   have h2:a∈(match js.findIdx? (λq=>q==some j2)with
     |none=>fp j2
     |some i=>match env[j2]?,benv[i]? with
      |some (some s),some (some s')=>if (DU s s').isSome=true then fb i else []
      |_,_=>[]):=h2
   have Qr:∀{j1 i:Nat} {s':Sl},js.findIdx? (λq=>q==some j1)=none->benv[i]?=some (some s')->a∈fp j1->a∈fb i->False:=λ{j1 i s'} e1 e2 m1 m2=>by
    obtain⟨v,_,ok⟩:=Lb.at' i s' e2;rcases ok.wr a m2 with q|q
    .obtain⟨i',j',s,q1,q2,q3⟩:=b5 q;have:j1≠j':=λz=>by subst z;rw[afQ]at e1;have:=e1 (some j1) (aaA q1);simp at this
     exact L.dj j1 j' a this m1 q3
    .exact(L.al j1 a m1).1 q
   split at h
   .rename_i ei;split at h2
    .exact L.dj j j2 a Ow h h2
    .split at h2
     .rename_i eb;split at h2
      .exact Qr ei eb h h2
      .simp at h2
     .simp at h2
   .rename_i i ei;split at h
    .rename_i eb;split at h
     .split at h2
      .rename_i U7;exact Qr U7 eb h2 h
      .rename_i i2 U7;split at h2
       .split at h2
        .have:i≠i2:=λz=>by subst z;have q1:=NM j i ei;have q2:=NM j2 i U7;rw[q1]at q2;cases q2;exact Ow rfl
         exact Lb.dj i i2 a this h h2
        .simp at h2
       .simp at h2
     .simp at h
    .simp at h
 refine#[HW,S,#[Kb.sF,λb o h1 h2=>keep b o (K.sG b o h1 h2) λhS=>?_,λb h=>Kb.pr b (K.pr b h),af K.gr Kb.gr,λa h=>?_,by unfold BV;rw[List.length_mapIdx];exact K.len,HW,S],λj a h=>?_]
 .rcases(Kt b hS).1 with q|q
  .exact h2 q
  .rw[q]at h1;cases h1
 .rcases Kb.nw a h with q|q
  .exact K.nw a q
  .exact .inr (K.h0 q)
 .have h:a∈(match js.findIdx? (λq=>q==some j)with
    |none=>fp j
    |some i=>match env[j]?,benv[i]? with
     |some (some s),some (some s')=>if (DU s s').isSome=true then fb i else []
     |_,_=>[]):=h
  split at h
  .exact .inl #[j,h]
  .split at h
   .rename_i eb;split at h
    .exact(W7 _ _ eb a h).2
    .simp at h
   .simp at h
def Kr(M:Md)(f:WE):TE:=λU H Q=>∃(Z:Zn) (F:Hp) (env:En) (P:Aal),rW M Z F U H env/\f env P/\∀x bY v F' H',P x bY->dO F F'->rW M Z F' U H' bY->Rep M.K F' v x->Q v H'
def Oh(M:Md)(f:WT):TT:=λU H Q=>∃(Z:Zn) (F:Hp) (env:En) (P:Bool->En->Prop),rW M Z F U H env/\f env P/\∀b bY F' H',P b bY->dO F F'->rW M Z F' U H' bY->Q b H'
def Bk.pe(h:Bk ob X e f):PE X e (Kr #[14] f):=by obtain⟨t,ht,k⟩:=h.ex;rintro pins s U H Q I ⟨Z,F,env,P,K,hf,kk⟩;exact ht pins s U H Q I (k Z F U H env P Q K hf kk)
structure OM(ob:B3)(X:Cx)(ifs:Aai)(f:WT):Prop where
 ex:PF X ifs (Oh #[14] f)
def Ei:WT:=λenv P=>P true env
def Ac:OM ob X [] Ei:=#[by rintro pins s U H Q I ⟨Z,F,env,P,K,hf,kk⟩;exact rH pins s U H Q I (kk true env F H hf ai K)]
def Ab(h:E3 ob X c t):OM ob X [c] t:=#[by obtain⟨w,hw,k⟩:=h.ex;rintro pins s U H Q I ⟨Z,F,env,P,K,hf,kk⟩;exact yp hw pins s U H Q I (k Z F U H env P Q K hf kk)]
inductive IJ where
 |nm (i:Nat)|tp (l:Aan)
def EK:Aan->Ju
 |[]=>NK
 |i::l=>Hk (By i) (EK l)
noncomputable def G4(K:aag):IJ->TG
 |.nm i=>By i
 |.tp l=>NI K l.length (EK l)
noncomputable def HE:Aan->List PV->En->En
 |i::l,x::xs,env=>HE l xs (env.set i (some #[0,x]))
 |_,_,env=>env
def G3:IJ->WG
 |.nm i=>λx env P=>P (env.set i (some #[0,x]))
 |.tp l=>λx env P=>match x with
  |.tup xs=>xs.length=l.length/\P (HE l xs env)
  |_=>False
noncomputable def CC(js:Aae):IJ->Bool
 |.nm i=>decide (js[i]?=some none)
 |.tp l=>l.all λi=>decide (js[i]?=some none)
def sK:∀{l:Aan},(l.all λi=>decide (js[i]?=some none))=true->RP js (EK l)
 |[],_=>zg
 |i::l,h=>by
  rw[List.all_cons,aaM]at h;refine xh (kH (of_decide_eq_true h.1)) (sK h.2) eU ?_;have mono:∀(l:Aan),∀x U H (Q Q':L2.St->Hp->Prop),(∀a b,Q a b->Q' a b)->EK l x U H Q->EK l x U H Q':=by
   intro l;induction l with
   |nil=>exact λx U H Q Q' h q=>#[q.1,h _ _ q.2]
   |cons i l ih=>exact hU eU ih
  exact mono l
def bO{T:IJ}(h:CC js T=true):C2 js (G4 K T):=by
 cases T with
 |nm i=>exact kH (of_decide_eq_true h)
 |tp l=>exact zf (sK h)
def vV{l:Aan}:∀{U:L2.St} {env:En} {vs:Aag} {xs:Aab} {Q:L2.St->Hp->Prop},rW M Z F U H env->nE M.K F vs xs->xs.length=l.length->(∀sa,rW M Z F sa H (HE l xs env)->Q sa H)->EK l vs U H Q:=by
 induction l with
 |nil=>
  intro U env vs xs Q K r hl k;cases r with
  |nil=>exact#[rfl,k U K]
  |cons _ _=>simp at hl
 |cons i l ih=>
  intro U env vs xs Q K r hl k;cases r with
  |nil=>simp at hl
  |cons r1 r2=>exact#[_,_,rfl,ih (K.put r1) r2 #[1] k]
def mQ{T:IJ}{v:V}{x:PV}{P:En->Prop}{Q:L2.St->Hp->Prop}(K:rW M Z F U H env)(r:Rep M.K F v x)(hf:G3 T x env P)(k:∀bY sa,P bY->rW M Z F sa H bY->Q sa H):G4 M.K T v U H Q:=by
 cases T with
 |nm i=>exact k _ _ hf (K.put r)
 |tp l=>
  cases r with
  |tup h1 h2=>exact#[_,_,rfl,ap K.sF h1,by rw[h2.len];exact hf.1,vV K h2 hf.1 λsa K'=>k _ sa hf.2 K']
  |_=>exact(hf).elim
noncomputable def Cg(g:WG)(c:WT)(f:WE)(js:Aae)(P:Aal):Aab->En->List PV->Prop
 |[],env,acc=>P (.lst acc) env
 |x::xs,env,acc=>g x (Eb js env) λb1=>c b1 λok b2=>if ok=true then f b2 λy b3=>acc.length<=100000/\Cg g c f js P xs (BV js env b3) (acc++[y])else Cg g c f js P xs (BV js env b2) acc
def DE(fi:WA)(T:IJ)(c:WT)(f:WE)(js:Aae):WE:=λenv P=>fi env λxs e=>Cg (G3 T) c f js P xs e []
variable{elt iter kx vx:Expr}{ifs:Aai}{scope:Scope}{fi:WA}{T:IJ}{c:WT}{fk:WE}{N:A3}
variable{l:Addr}
def rW.Dk{o:HO}(K:rW M Z F U H env)(L:Slots M Z F U H env fp)(hF:F l=none)(h0:Z.H0 l=none)(hl:∀i,l∉fp i):rW M Z F U (upd H l o) env/\Slots M Z F U (upd H l o) env fp:=by
 have S:Slots M Z F U (upd H l o) env fp:=by
  refine#[λi s e=>?_,λi a h=>?_,L.dj,L.oa]
  .obtain⟨v,h1,h2⟩:=L.at' i s e;exact#[v,h1,h2.mono ai λc hc=>aj λz:c=l=>hl i #[1]]
  .have:=L.al i a h;refine#[?_,this.2];rw[aj (λz:a=l=>hl i #[1])];exact this.1
 refine#[#[λa u e=>?_,λb u h1 h2=>?_,λb h=>?_,K.gr,K.nw,K.len,fp,S],S]
 .rw[aj (av e hF)];exact K.sF a u e
 .rw[aj (av h1 h0)];exact K.sG b u h1 h2
 .by_cases q:b=l
  .subst q;rw[ah];simp
  .rw[aj q];exact K.pr b h
variable{J:It}
theorem pA{P:Aal}{Q:VK}{xs:Aab}(hj:FL js=true)(hT:CC js T=true)(K:rW #[14] Z F U H env)(I1:EF #[14] J F xs)(hf:Cg (G3 T) c f js P xs env [])
  (kk:∀x bY v F' H',P x bY->dO F F'->(∀xs,x≠.set xs)->rW #[14] Z F' (U++[some v]) H' (bY++[some #[1,x]])->Q v H') (l:Addr) (hl:H l=none) :
  ∃W:Nat->Nat->List V->Hp->Prop,(∃m,W 0 m [] (upd H l (.lst [])))/\∀i m ys H2,W i m ys H2 ->
  (J.stop i H2/\Q (.ref l) H2)\/(J.go i H2/\∀x H3,J.yld i H2 x H3->G4 X.K T x (BR js U) H3 λsb H4=>Oh #[14] c sb H4 λb H5=>if b=true then Kr #[14] f sb H5 λy H6=>H6 l=some (.lst ys)/\ys.length<sizeLine/\∃m',m'<m/\W (i+1) m' (ys++[y]) (upd H6 l (.lst (ys++[y])))else ∃m',m'<m/\W (i+1) m' ys H5):=by
 refine#[λi m ys H'=>m=xs.length - i/\H' l=some (.lst ys)/\∃F' bY FC fp,dO F F'/\rW #[14] Z F' U H' bY/\Slots #[14] Z F' U H' bY fp/\F' l=none/\(∀i,l∉fp i)/\nE X.K F' ys FC/\Cg (G3 T) c f js P (xs.drop i) bY FC,?_,?_]
 .obtain⟨fp,L⟩:=K.sl;have hF:F l=none:=dO.none_of K.sF hl;have hn:∀i,l∉fp i:=λi h=>(L.al i l h).1 hl;obtain⟨K1,L1⟩:=K.Dk (o:=.lst []) L hF (K.h0 hl) hn;exact#[_,rfl,ah,F,env,[],fp,ai,K1,L1,hF,hn,.nil,hf]
 rintro i m ys H2 ⟨rfl,Gf,F',bY,FC,fp,s,K',L',Ky,hn,ry,hg⟩;have h0:Z.H0 l=none:=K.h0 hl;by_cases BU:i<xs.length
 .rw[abU BU]at hg;obtain⟨h1,h2⟩:=I1.go Z i U bY F' H2 xs[i] s K' (by simp[BU]);refine .inr #[h1,λv H3 y=>?_];obtain⟨F2,s2,K2,r2,sH,nw⟩:=h2 v H3 y;have Ms  := L'.move s2 (λ_ c o _ e=>sH c o e) nw;have OB:F2 l=none:=by
   cases e:F2 l with
   |none=>rfl
   |some o=>
    rcases nw l (by rw[e];simp)with q|q
    .exact absurd Ky q
    .rw[Gf]at q;cases q
  have Jb:H3 l=some (.lst ys):=sH _ _ Gf;have Kb:=jf hj K2 Ms;have Oc:=bO (K:=X.K) hT v (BR js U) H3 _ (mQ (M:=md ob X) (Q:=λsb H4=>H4=H3/\∃b1,rW #[14] (Zb js bY fp F2 H3) F2 sb H3 b1/\c b1 _) Kb r2 hg λe4 sb p4 K4=>#[rfl,e4,K4,p4]);have mono:∀(Q1 Q2:L2.St->Hp->Prop),(∀a b,Q1 a b->Q2 a b)->G4 X.K T v (BR js U) H3 Q1->G4 X.K T v (BR js U) H3 Q2:=by
   have Hd:∀(l:Aan),∀x U H (Q Q':L2.St->Hp->Prop),(∀a b,Q a b->Q' a b)->EK l x U H Q->EK l x U H Q':=by
    intro l;induction l with
    |nil=>exact λx U H Q Q' h q=>#[q.1,h _ _ q.2]
    |cons i l ih=>exact hU eU ih
   intro Q1 Q2 hq q;cases T with
   |nm i=>exact hq _ _ q
   |tp l=>obtain⟨a,xs,e1,e2,e3,e4⟩:=q;exact#[a,xs,e1,e2,e3,Hd l _ _ _ _ _ hq e4]
  refine mono _ _ ?_ Oc;rintro sb H4 ⟨⟨rfl,b1,K4,p4⟩,hlen,Bq⟩;refine#[_,F2,b1,_,K4,p4,λb b2 F5 H5 p5 s5 K5=>?_];have again:∀{F6 H6:Hp} {b3:En} {ys':Aag} {HC:Aab},dO F2 F6->rW #[14] (Zb js bY fp F2 H4) F6 sb H6 b3->Cg (G3 T) c f js P (xs.drop (i+1)) (BV js bY b3) HC->nE X.K F6 ys' HC ->
    H6 l=some (.lst ys)/\(∃m',m'<xs.length - i/\m'=xs.length - (i+1)/\(upd H6 l (.lst ys')) l=some (.lst ys')/\∃F' bY FC fp,dO F F'/\rW #[14] Z F' U (upd H6 l (.lst ys')) bY/\Slots #[14] Z F' U (upd H6 l (.lst ys')) bY fp/\F' l=none/\(∀i,l∉fp i)/\nE X.K F' ys' FC/\Cg (G3 T) c f js P (xs.drop (i+1)) bY FC):=λ{F6 H6 b3 ys' HC} s6 K6 p6 r6=>by
   obtain⟨HW,L6,RM,Du⟩:=gP hj K2 Ms K6 Bq;have Li:H6 l=some (.lst ys):=K6.sG l _ Jb λz=>by obtain⟨_,j,_,_,_,hm⟩:=b5 z;exact hn j hm
   have NH:F6 l=none:=by
    cases e:F6 l with
    |none=>rfl
    |some o=>
     rcases K6.nw l (by rw[e];simp)with q|q
     .exact absurd OB q
     .exact absurd q (by show H4 l≠none;rw[Jb];simp)
   have Lg:∀i,l∉HW i:=λi h=>by
    rcases Du i l h with ⟨i',q⟩|q
    .exact hn i' q
    .rw[Jb]at q;cases q
   obtain⟨K7,L7⟩:=RM.Dk (o:=.lst ys') L6 NH h0 Lg;exact#[Li,_,#[],rfl,ah,F6,_,_,HW,af s (af s2 s6),K7,L7,NH,Lg,r6,p6]
  cases b with
  |false=>
   refine ES ?_;obtain⟨Uq,m',h1,h2,h3,F',bY,FC,fp,q1,q2,q3,q4⟩:=again (ys':=ys) s5 K5 p5 ((ry.mono s2).mono s5);have e:upd H5 l (.lst ys)=H5:=by
    funext a;by_cases z:a=l
    .subst z;rw[ah,Uq]
    .rw[aj z]
   rw[e]at h3 q2 q3;exact#[m',h1,h2,h3,F',bY,FC,fp,q1,q2,q3,q4]
  |true=>refine Fj #[_,F5,b2,_,K5,p5,λy b3 v6 F6 H6 p6 s6 K6 r6=>?_];obtain⟨Li,q⟩:=again (ys':=ys++[v6]) (af s5 s6) K6 p6.2 ((((ry.mono s2).mono s5).mono s6).app (.cons r6 .nil));refine#[Li,?_,q];have:=p6.1;rw[ry.len,aaJ];omega
 .rw[acx #[]]at hg;refine .inl #[I1.stop Z i U bY F' H2 s K' #[],kk _ bY _ F' H2 hg s (λ_=>#[0]) ?_];refine K'.slots (by simp[K'.len]) (L'.push (l:=[l]) #[0] K'.len (.inr (.inl #[rfl,l,rfl,rfl,h0,ys,Gf,ry])) (λa ha=>?_) λj a ha=>?_)
  .simp at ha;subst ha;exact#[by rw[Gf];simp,Ky]
  .simp at ha;subst ha;exact hn j
def AL(hi:GW ob X tg iter fi)(hg:∀C s0 H0 ex pn,PG #[5] tg (G4 X.K T))(ht:∀C s0 H0 ex pn,OM ob #[5] ifs c)(he:∀C s0 H0 ex pn,Bk ob #[5] elt f)
  (hj:autoParam (FL js=true) At) (hT:autoParam (CC js T=true) At)
  (hc:autoParam (X.calm=true) At) (hx:autoParam (X.xe=(λ_ _=>False)) At) (C3:autoParam (Dm X.env scope=true) At) (Bq:autoParam (Ce X.N scope N js=true) At) (Bg:autoParam (scope.kind=.function) At) (hs:autoParam (∀x,aaB iter X.env x=pure x) AT) :
  EY ob X (.ListComp elt [#[tg,iter,ifs,0]] scope pos) (DE fi T c f js):=by
 obtain⟨wi,IW,k⟩:=hi.ex;refine#[_,Aw (tc:=Oh #[14] c) (te:=Kr #[14] f) IW hg (λC s0 H0 ex pn=>(ht C s0 H0 ex pn).ex) (λC s0 H0 ex pn=>(he C s0 H0 ex pn).pe) (bO hT) hc hx C3 Bq Bg hs,λZ F U H env P Q K hf kk=>?_];exact k Z F U H env _ _ K hf λxs e1 J F1 H1 p s1 K1 I1 l hl=>pA hj hT K1 I1 p (λx e2 v F2 H2 p2 s2 HP K2=>kk x e2 v F2 H2 p2 (af s1 s2) HP K2) l hl
def GS(g:WG)(c:WT)(fk f:WE)(js:Aae)(P:Aal):Aab->En->List (Key×PV)->Prop
 |[],env,acc=>P (.Bp acc) env
 |x::xs,env,acc=>g x (Eb js env) λb1=>c b1 λok b2=>if ok=true then fk b2 λkk b3=>f b3 λy b4=>acc.length<=100000/\opt (Fi kk) λkey=>GS g c fk f js P xs (BV js env b4) (EM acc key y)else GS g c fk f js P xs (BV js env b2) acc
def Sv(fi:WA)(T:IJ)(c:WT)(fk f:WE)(js:Aae):WE:=λenv P=>fi env λxs e=>GS (G3 T) c fk f js P xs e []
theorem xR{P:Aal}{Q:VK}{xs:Aab}(hj:FL js=true)(hT:CC js T=true)(K:rW #[14] Z F U H env)(I1:EF #[14] J F xs)(hf:GS (G3 T) c fk f js P xs env [])
  (kk:∀x bY v F' H',P x bY->dO F F'->(∀xs,x≠.set xs)->rW #[14] Z F' (U++[some v]) H' (bY++[some #[1,x]])->Q v H') (l:Addr) (hl:H l=none) :
  ∃W:Nat->Nat->List (Key×V)->Hp->Prop,(∃m,W 0 m [] (upd H l (.dK [])))/\∀i m ys H2,W i m ys H2 ->
  (J.stop i H2/\Q (.ref l) H2)\/(J.go i H2/\∀x H3,J.yld i H2 x H3->G4 X.K T x (BR js U) H3 λsb H4=>Oh #[14] c sb H4 λb H5=>if b=true then Kr #[14] fk sb H5 λkk H6=>Kr #[14] f sb H6 λy H7=>∃key,kk=kV key/\H7 l=some (.dK ys)/\ys.length<sizeLine/\∃m',m'<m/\W (i+1) m' (putK ys key y) (upd H7 l (.dK (putK ys key y)))else ∃m',m'<m/\W (i+1) m' ys H5):=by
 refine#[λi m ys H'=>m=xs.length - i/\H' l=some (.dK ys)/\∃F' bY FC fp,dO F F'/\rW #[14] Z F' U H' bY/\Slots #[14] Z F' U H' bY fp/\F' l=none/\(∀i,l∉fp i)/\A0 X.K F' ys FC/\GS (G3 T) c fk f js P (xs.drop i) bY FC,?_,?_]
 .obtain⟨fp,L⟩:=K.sl;have hF:F l=none:=dO.none_of K.sF hl;have hn:∀i,l∉fp i:=λi h=>(L.al i l h).1 hl;obtain⟨K1,L1⟩:=K.Dk (o:=.dK []) L hF (K.h0 hl) hn;exact#[_,rfl,ah,F,env,[],fp,ai,K1,L1,hF,hn,.nil,hf]
 rintro i m ys H2 ⟨rfl,Gf,F',bY,FC,fp,s,K',L',Ky,hn,ry,hg⟩;have h0:Z.H0 l=none:=K.h0 hl;by_cases BU:i<xs.length
 .rw[abU BU]at hg;obtain⟨h1,h2⟩:=I1.go Z i U bY F' H2 xs[i] s K' (by simp[BU]);refine .inr #[h1,λv H3 y=>?_];obtain⟨F2,s2,K2,r2,sH,nw⟩:=h2 v H3 y;have Ms:Slots #[14] Z F2 U H3 bY fp:=L'.move s2 (λ_ c o _ e=>sH c o e) nw;have OB:F2 l=none:=by
   cases e:F2 l with
   |none=>rfl
   |some o=>
    rcases nw l (by rw[e];simp)with q|q
    .exact absurd Ky q
    .rw[Gf]at q;cases q
  have Jb:H3 l=some (.dK ys):=sH _ _ Gf;have Kb:=jf hj K2 Ms;have Oc:=bO (K:=X.K) hT v (BR js U) H3 _ (mQ (M:=md ob X) (Q:=λsb H4=>H4=H3/\∃b1,rW #[14] (Zb js bY fp F2 H3) F2 sb H3 b1/\c b1 _) Kb r2 hg λe4 sb p4 K4=>#[rfl,e4,K4,p4]);have mono:∀(Q1 Q2:L2.St->Hp->Prop),(∀a b,Q1 a b->Q2 a b)->G4 X.K T v (BR js U) H3 Q1->G4 X.K T v (BR js U) H3 Q2:=by
   have Hd:∀(l:Aan),∀x U H (Q Q':L2.St->Hp->Prop),(∀a b,Q a b->Q' a b)->EK l x U H Q->EK l x U H Q':=by
    intro l;induction l with
    |nil=>exact λx U H Q Q' h q=>#[q.1,h _ _ q.2]
    |cons i l ih=>exact hU eU ih
   intro Q1 Q2 hq q;cases T with
   |nm i=>exact hq _ _ q
   |tp l=>obtain⟨a,xs,e1,e2,e3,e4⟩:=q;exact#[a,xs,e1,e2,e3,Hd l _ _ _ _ _ hq e4]
  refine mono _ _ ?_ Oc;rintro sb H4 ⟨⟨rfl,b1,K4,p4⟩,hlen,Bq⟩;refine#[_,F2,b1,_,K4,p4,λb b2 F5 H5 p5 s5 K5=>?_];have again:∀{F6 H6:Hp} {b3:En} {ys':List (Key×V)} {HC:List (Key×PV)},dO F2 F6->rW #[14] (Zb js bY fp F2 H4) F6 sb H6 b3->GS (G3 T) c fk f js P (xs.drop (i+1)) (BV js bY b3) HC->A0 X.K F6 ys' HC ->
    H6 l=some (.dK ys)/\(∃m',m'<xs.length - i/\m'=xs.length - (i+1)/\(upd H6 l (.dK ys')) l=some (.dK ys')/\∃F' bY FC fp,dO F F'/\rW #[14] Z F' U (upd H6 l (.dK ys')) bY/\Slots #[14] Z F' U (upd H6 l (.dK ys')) bY fp/\F' l=none/\(∀i,l∉fp i)/\A0 X.K F' ys' FC/\GS (G3 T) c fk f js P (xs.drop (i+1)) bY FC):=λ{F6 H6 b3 ys' HC} s6 K6 p6 r6=>by
   obtain⟨HW,L6,RM,Du⟩:=gP hj K2 Ms K6 Bq;have Li:H6 l=some (.dK ys):=K6.sG l _ Jb λz=>by obtain⟨_,j,_,_,_,hm⟩:=b5 z;exact hn j hm
   have NH:F6 l=none:=by
    cases e:F6 l with
    |none=>rfl
    |some o=>
     rcases K6.nw l (by rw[e];simp)with q|q
     .exact absurd OB q
     .exact absurd q (by show H4 l≠none;rw[Jb];simp)
   have Lg:∀i,l∉HW i:=λi h=>by
    rcases Du i l h with ⟨i',q⟩|q
    .exact hn i' q
    .rw[Jb]at q;cases q
   obtain⟨K7,L7⟩:=RM.Dk (o:=.dK ys') L6 NH h0 Lg;exact#[Li,_,#[],rfl,ah,F6,_,_,HW,af s (af s2 s6),K7,L7,NH,Lg,r6,p6]
  cases b with
  |false=>
   refine ES ?_;obtain⟨Uq,m',h1,h2,h3,F',bY,FC,fp,q1,q2,q3,q4⟩:=again (ys':=ys) s5 K5 p5 ((ry.mono s2).mono s5);have e:upd H5 l (.dK ys)=H5:=by
    funext a;by_cases z:a=l
    .subst z;rw[ah,Uq]
    .rw[aj z]
   rw[e]at h3 q2 q3;exact#[m',h1,h2,h3,F',bY,FC,fp,q1,q2,q3,q4]
  |true=>refine Fj #[_,F5,b2,_,K5,p5,λkx b3 v6 F6 H6 p6 s6 K6 r6=>#[_,F6,b3,_,K6,p6,λy b4 v7 F7 H7 p7 s7 K7 r7=>?_]];obtain⟨p7,key,ET,p8⟩:=p7;have VZ:=af s5 (af s6 s7);obtain⟨Li,q⟩:=again (ys':=putK ys key v7) VZ K7 p8 (((ry.mono s2).mono VZ).put r7);refine#[key,eR ET r6,Li,?_,q];rw[ry.len,aaJ];omega
 .rw[acx #[]]at hg;refine .inl #[I1.stop Z i U bY F' H2 s K' #[],kk _ bY _ F' H2 hg s (λ_=>#[0]) ?_];refine K'.slots (by simp[K'.len]) (L'.push (l:=[l]) #[0] K'.len (.inr (.inl #[rfl,l,rfl,rfl,h0,ys,Gf,ry])) (λa ha=>?_) λj a ha=>?_)
  .simp at ha;subst ha;exact#[by rw[Gf];simp,Ky]
  .simp at ha;subst ha;exact hn j
def AN(hi:GW ob X tg iter fi)(hg:∀C s0 H0 ex pn,PG #[5] tg (G4 X.K T))(ht:∀C s0 H0 ex pn,OM ob #[5] ifs c)(hk:∀C s0 H0 ex pn,Bk ob #[5] kx fk)(he:∀C s0 H0 ex pn,Bk ob #[5] vx f)
  (hj:autoParam (FL js=true) At) (hT:autoParam (CC js T=true) At)
  (hc:autoParam (X.calm=true) At) (hx:autoParam (X.xe=(λ_ _=>False)) At) (C3:autoParam (Dm X.env scope=true) At) (Bq:autoParam (Ce X.N scope N js=true) At) (Bg:autoParam (scope.kind=.function) At) (hs:autoParam (∀x,aaB iter X.env x=pure x) AT) :
  EY ob X (.DictComp kx vx [#[tg,iter,ifs,0]] scope pos) (Sv fi T c fk f js):=by
 obtain⟨wi,IW,k⟩:=hi.ex;refine#[_,Ax (tc:=Oh #[14] c) (tk:=Kr #[14] fk) (te:=Kr #[14] f) IW hg (λC s0 H0 ex pn=>(ht C s0 H0 ex pn).ex) (λC s0 H0 ex pn=>(hk C s0 H0 ex pn).pe) (λC s0 H0 ex pn=>(he C s0 H0 ex pn).pe) (bO hT) hc hx C3 Bq Bg hs,λZ F U H env P Q K hf kk=>?_];exact k Z F U H env _ _ K hf λxs e1 J F1 H1 p s1 K1 I1 l hl=>xR hj hT K1 I1 p (λx e2 v F2 H2 p2 s2 HP K2=>kk x e2 v F2 H2 p2 (af s1 s2) HP K2) l hl
abbrev LM:=List PV->List PV->Option (PV×Aab)
noncomputable def G0(m:LM)(i:Nat)(fa:WA):WE:=λenv P=>(match env[i]? with|some (some #[1,.lst _])=>True|some (some #[3,.lst _])=>True|_=>False)/\fa env λxs e=>match e[i]? with
 |some (some #[1,.lst ys])=>opt (m ys xs) λr=>P r.1 (e.set i (some #[1,.lst r.2]))
 |some (some #[3,.lst ys])=>opt (m ys xs) λr=>P r.1 (e.set i (some #[3,.lst r.2]))
 |_=>False
def OJ(K:aag)(r:V->List V->Hp->VK->Prop)(m:LM):Prop :=
 ∀(F H:Hp) (l:Addr) (ys vs:Aag) (ps xs:Aab) (z:PV) (Qf:Aab) (Q:VK),dO F H->H l=some (.lst ys)->nE K F ys ps->nE K F vs xs->m ps xs=some (z,Qf) ->
  (∀v ys',Rep K F v z->nE K F ys' Qf->Q v (upd H l (.lst ys')))->r (.ref l) vs H Q
variable{c:Expr}{apos Bs:Pos}{name:Str}{r:V->List V->Hp->VK->Prop}{m:LM}
def sv{t:TA}{i:Nat}(hq:OJ X.K r m)(k:∀(Z:Zn) (F:Hp) (U:L2.St) (H:Hp) (env:En) (P:Aab->En->Prop) (Q:Aag->Hp->Prop),rW #[14] Z F U H env->fa env P->(∀xs bY vs F' H',P xs bY->xs.length=es.length->dO F F'->rW #[14] Z F' U H' bY->nE X.K F' vs xs->Q vs H')->t U H Q):
  ∀(Z:Zn) (F:Hp) (U:L2.St) (H:Hp) (env:En) (P:Aal) (Q:VK),rW #[14] Z F U H env->G0 m i fa env P->#[7]->VQ X.K "list" r (Bw i) t U H Q:=by
 intro Z F U H env P Q K hf kk;obtain⟨h0,hf⟩:=hf;obtain⟨a,hg,Pd,ha⟩:∃a,U[i]?=some (some (.ref a))/\∃vs,H a=some (.lst vs):=by
  split at h0
  .rename_i e;obtain⟨a,h1,vs,h2,_⟩:=K.ownAt (.inl rfl) e;exact#[a,h1,vs,h2]
  .rename_i e;obtain⟨a,h1,vs,h2,_⟩:=K.ownAt (.inr rfl) e;exact#[a,h1,vs,h2]
  .exact h0.elim
 refine#[_,hg,.inl #[rfl,Pd,.inl (.inl ha)],?_];refine k Z F U H env _ _ K hf λxs e1 vs F1 H1 p _ s1 K1 r1=>?_;have fin:∀(kd:Nat) (ys:Aab),kd=1\/kd=3->e1[i]?=some (some #[kd,.lst ys])->opt (m ys xs) (λr=>P r.1 (e1.set i (some #[kd,.lst r.2])))->r (.ref a) vs H1 Q:=λkd ys hk ei #[#[z,ys'],hm,p]=>by obtain⟨a',h1,ws,h2,h3⟩:=K1.ownAt hk ei;rw[hg]at h1;cases h1;refine hq F1 H1 a ws vs ys xs z ys' Q K1.sF h2 h3 r1 hm λv us rv ru=>?_;exact kk z _ v F1 _ p s1 (K1.write (o:=.lst us) hk ei hg #[us,ah,ru]) rv
 split at p
 .rename_i ei;exact fin _ _ (.inl rfl) ei p
 .rename_i ei;exact fin _ _ (.inr rfl) ei p
 .exact p.elim
def vG(i:Nat)(slot:Slot "list" name LZ)(IY:typeOf (.builtin LZ)=pure (.type "method_descriptor"))(hm:Sz X LZ r)(hq:OJ X.K r m)(ho:PE X (.Name x p) (Bw i))(ha:Gm ob X (e::es) fa)
  (BI:autoParam (abT (.Name x p) name X.env (eval (.Name x p) X.env)=eval (.Name x p) X.env) At)
  (Fl:autoParam (((backTo Bs (aal (e::es) X.env)).all (λx=>!x.1) && (afi Bs (adX [] X.env)).all (λx=>x.1.isSome)
   && decide ((e::es).length+([]:List adv).length+(if ([]:List adv).isEmpty then 0 else 1)<30))=true) At)
  (BH:autoParam ((apos.endLine==Bs.line)=true) At) (hs:autoParam #[8] At) (C4:autoParam ((backTo Bs (aal es X.env)).any (·.1)=false) At) :
  Bk ob X (.Call (.Attribute (.Name x p) name apos) (e::es) [] Bs) (G0 m i fa):=by
 obtain⟨t,ht,k⟩:=ha.ex;exact#[_,qi acY slot IY hm ho ht BI Fl BH hs C4,sv hq k]
def zL(i:Nat)(slot:Slot "list" name LZ)(IY:typeOf (.builtin LZ)=pure (.type "method_descriptor"))(hm:Sz X LZ r)(hq:OJ X.K r m)(ho:PE X (.Name x p) (Bw i))
  (BI:autoParam (abT (.Name x p) name X.env (eval (.Name x p) X.env)=eval (.Name x p) X.env) At) (BH:autoParam ((apos.endLine==Bs.line)=true) At):Bk ob X (.Call (.Attribute (.Name x p) name apos) [] [] Bs) (G0 m i aT):=by
 refine#[_,yz acY slot IY hm ho BI BH,λZ F U H env P Q K hf kk=>?_];obtain⟨v,h1,h2,h3⟩:=sv (es:=[]) hq (λZ F U H env P Q K hf k=>k [] env [] F H hf rfl ai K .nil) Z F U H env P Q K hf kk;exact#[v,h1,h2,h3]
noncomputable def aR:LM:=λys xs=>match xs with
 |[x]=>if ys.length<=100000 then some (.AZ,ys++[x])else none
 |_=>none
theorem sk:OJ X.K oZ aR:=by
 intro F H l ys vs ps xs z Qf Q sF hl ry rx hm k;unfold aR at hm;split at hm
 .split at hm
  .cases hm;cases rx with
   |cons r1 r2=>cases r2;refine#[l,ys,_,rfl,rfl,hl,?_,k _ _ .AZ (ry.app (.cons r1 .nil))];rw[ry.len,aaJ];omega
  .cases hm
 .cases hm
noncomputable def KO:LM:=λys xs=>match xs with
 |[]=>(ys[ys.length - 1]?).map λy=>(y,ys.dropLast)
 |_=>none
def nE.dl{vs:Aag}{xs:Aab}(h:nE K F vs xs):nE K F vs.dropLast xs.dropLast:=by rw[List.dropLast_eq_take,List.dropLast_eq_take,h.len];exact h.take _
def yO:OJ X.K PY KO:=by
 intro F H l ys vs ps xs z Qf Q sF hl ry rx hm k;unfold KO at hm;split at hm
 .rw[aas]at hm;obtain⟨y,hy,e⟩:=hm;cases e;cases rx;obtain⟨v,hv,rv⟩:=ry.get hy;exact#[l,ys,v,rfl,rfl,hl,by rw[ry.len];exact hv,k _ _ rv ry.dl]
 .cases hm
noncomputable def Fg:LM:=λys xs=>match xs with
 |[.int i]=>if -1000000<=i/\i<=1000000 then (afq i ys.length).bind λk=>(ys[k]?).map λy=>(y,ys.eraseIdx k)else none
 |_=>none
theorem uC:OJ X.K JM Fg:=by
 intro F H l ys vs ps xs z Qf Q sF hl ry rx hm k;unfold Fg at hm;split at hm
 .split at hm
  .rw[Option.bind_eq_some_iff]at hm;obtain⟨j,hj,hm⟩:=hm;rw[aas]at hm;obtain⟨y,hy,e⟩:=hm;cases e;cases rx with
   |cons r1 r2=>cases r2;cases r1;obtain⟨v,hv,rv⟩:=ry.get hy;exact#[l,ys,_,j,v,rfl,rfl,hl,#[],#[],by rw[ry.len];exact hj,hv,k _ _ rv (ry.erase j)]
  .cases hm
 .cases hm
noncomputable def G9:PV->PV->PV->Option PV
 |.lst xs,.int i,v=>(JU xs.length i).map λj=>.lst (xs.set j v)
 |.Bp gE,y,v=>if gE.length<=100000 then (Fi y).map λk=>.Bp (EM gE k v)else none
 |_,_,_=>none
noncomputable def MO(i:Nat)(fv fk:WE):WS:=λP env=>fv env λv e1=>(e1[i]?).join.isSome=true/\fk e1 λy e2=>match e2[i]? with
 |some (some #[1,x])=>opt (G9 x y v) λz=>P.nx (e2.set i (some #[1,z]))
 |some (some #[3,x])=>opt (G9 x y v) λz=>P.nx (e2.set i (some #[3,z]))
 |_=>False
variable{ke:Expr}
def Iu:Km:=λo i v H Q=>∃a H',o=.ref a/\Lz H a i v H'/\Q H'
def set_dict(hu:X.A.units+1<cLine):Ht X Iu:=by intro pins s U H o i v ov iv u Q I ro ri rv h;obtain⟨a,H',rfl,g,q⟩:=h;cases ro;exact tD hu I g ri rv λs4 I4=>#[H',I4,q]
def Ht.or{t u:Km}(h:Ht X t)(h':Ht X u):Ht X (λo i v H Q=>t o i v H Q\/u o i v H Q):=by
 intro pins s U H o i v ov iv w Q I ro ri rv q;rcases q with q|q
 .exact h pins s U H o i v ov iv w Q I ro ri rv q
 .exact h' pins s U H o i v ov iv w Q I ro ri rv q
variable{BM:Pos}
theorem zp(i:Nat)(hu:X.A.units+1<cLine)(hv:Bk ob X e f)(ho:PE X (.Name x p) (Bw i))(hk:Bk ob X ke fk)
  (hs:autoParam (adT [.Subscript (.Name x p) ke pos] e BM.line X.env=pure false) At) (hw:autoParam (adU [.Subscript (.Name x p) ke pos] e X.env=pure none) At)
  (h1:autoParam ((acu [.Subscript (.Name x p) ke pos] X.env).map (·.2)=[assign (.Subscript (.Name x p) ke pos) X.env]) At)
  (ha:autoParam (∀v,assign (.Subscript (.Name x p) ke pos) X.env v=(do
   let ov <- adp [v] (eval (.Name x p) X.env);let iv <- adp [v,ov] (eval ke X.env)
   aec pos
   adp [v,ov,iv] (setItem ov iv v)
   release [v,ov,iv] [])) AT):EX ob X (.Assign [.Subscript (.Name x p) ke pos] e BM) (MO i f fk):=by
 obtain⟨t,ht,k⟩:=hv.ex;obtain⟨t2,KY,k2⟩:=hk.ex;refine#[_,gC ht (ju ho KY (Ht.or tW (set_dict hu)) ha) hs hw h1,λZ F U H env P D K hf L=>k Z F U H env _ _ K hf λv e1 v' F1 H1 p s1 K1 r1=>?_];obtain⟨h0,p⟩:=p;obtain⟨w,hw⟩:∃v,U[i]?=some (some v):=by
  cases e:e1[i]? with
  |none=>rw[e]at h0;cases h0
  |some w=>
   cases w with
   |none=>rw[e]at h0;cases h0
   |some s=>obtain⟨fp,L⟩:=K1.sl;obtain⟨v,hv,_⟩:=L.at' i s e;exact#[v,hv]
 refine#[w,hw,k2 Z F1 U H1 e1 _ _ K1 p λy e2 y' F2 H2 p2 s2 K2 r2=>?_];have fin:∀(kd:Nat) (x:PV),kd=1\/kd=3->e2[i]?=some (some #[kd,x])->opt (G9 x y v) (λz=>P.nx (e2.set i (some #[kd,z])))->(LJ w y' v' H2 λH3=>D.nx U H3)\/Iu w y' v' H2 λH3=>D.nx U H3:=λkd x hk ei #[z,hz,p]=>by
  obtain⟨a,h1,hx⟩:=K2.ownAt hk ei;rw[hw]at h1;cases h1;have V5:=r1.mono s2;unfold G9 at hz;split at hz
  .rw[aas]at hz;obtain⟨j,hj,rfl⟩:=hz;obtain⟨vs,h2,h3⟩:=hx;cases r2;exact .inl #[a,vs,_,j,rfl,rfl,h2,by rw[h3.len];exact hj,L.nx _ _ F2 _ p (af s1 s2) (K2.write (o:=.lst (vs.set j v')) hk ei hw #[_,ah,h3.S3 j V5])]
  .split at hz
   .rw[aas]at hz;obtain⟨j,hj,rfl⟩:=hz;obtain⟨vs,h2,h3⟩:=hx;have hy:=eR hj r2;subst hy;exact .inr #[a,_,rfl,X0 h2 (by rw[h3.len,aaJ];omega),L.nx _ _ F2 _ p (af s1 s2) (K2.write (o:=.dK (putK vs j v')) hk ei hw #[_,ah,h3.put V5])]
   .cases hz
  .cases hz
 split at p2
 .rename_i ei;exact fin _ _ (.inl rfl) ei p2
 .rename_i ei;exact fin _ _ (.inr rfl) ei p2
 .exact p2.elim
abbrev Fd:=List PV->(PV->Prop)->Prop
def Ko(M:Md)(n:Nat)(D:Fd):Sp:=λvs H Q _=>∃(F:Hp) (xs:Aab) (P:Aao),dO F H/\nE M.K F vs xs/\xs.length=n/\D xs P /\
 ∀r v F' H',P r->dO H H'->dO F F'->dO F' H'->(∀a,F' a≠none->F a≠none\/H a=none)->Rep M.K F' v r->Q v H'
noncomputable def B5(n:Nat)(xs:Aab):En:=xs.map (λx=>some #[0,x])++aaR (n - xs.length) none
noncomputable def Rq(P:Aao):Wd:={nx:=λ_=>P .AZ,rt:=λx _=>P x}
def run(n:Nat)(u:WS):Fd:=λxs P=>u (Rq P) (B5 n xs)
abbrev GV:=PV->List PV->(PV->PV->Prop)->Prop
def Kp(M:Md)(n:Nat)(D:GV):Sp:=λvs H Q _=>∃(F:Hp) (a:Addr) (l:Aaj) (c:PV) (ws:Aag) (xs:Aab) (P:Aap),vs=.ref a::ws/\dO F H/\nE M.K F ws xs/\xs.length+1=n /\
 M.ob.P F H a l c/\(∀b∈l,H b≠none/\F b=none)/\D c xs P /\
 ∀r c' v F' H' l',P r c'->(∀b o,H b=some o->b∉l->H' b=some o)->(∀b,H b≠none->H' b≠none)->dO F F'->dO F' H'->(∀a,F' a≠none->F a≠none\/H a=none)->M.ob.P F' H' a l' c'->(∀b∈l',H' b≠none/\F' b=none)->(∀b∈l',b∈l\/H b=none)->Rep M.K F' v r->Q v H'
noncomputable def LU(P:Aao)(e:En):Prop:=match e[(0:Nat)]? with
 |some (some #[2,c])=>P c
 |_=>False
noncomputable def Ln(P:Aap):Wd:={nx:=λe=>LU (P .AZ) e,rt:=λx e=>LU (P x) e}
def HI(n:Nat)(u:WS):GV:=λc xs P=>u (Ln P) (some #[2,c]::B5 (n - 1) xs)
theorem lu{vs:Aag}(h:vs.length<=N.length):(start N vs).length=N.length:=by unfold L2.start;rw[aan,aad,abd];omega
theorem jn{xs:Aab}(h:xs.length<=n):(B5 n xs).length=n:=by unfold B5;rw[aan,aad,abd];omega
def jo{xs:Aab}{i:Nat}{s:Sl}(h:(B5 n xs)[i]?=some (some s)):∃x,xs[i]?=some x/\s=#[0,x]:=by
 unfold B5 at h;rcases aaS i xs.length with q|q
 .rw[aat #[1],aaj,aab q]at h;exact#[_,#[1],(aar (aar h)).symm]
 .rw[afI #[1],List.getElem?_replicate]at h;split at h<;>cases h
def dC{vs:Aag}{i:Nat}{v:V}(h:vs[i]?=some v):(start N vs)[i]?=some (some v):=by
 unfold L2.start;have q:i<vs.length:=by
  rcases aaS i vs.length with q|q
  .exact q
  .rw[aam q]at h;cases h
 rw[aat #[1],aaj,h];rfl
def gi{vs:Aag}{xs:Aab}(sF:dO F H)(r:nE M.K F vs xs)(hl:xs.length<=N.length):rW M #[H,F,[],λ_=>none,λ_ h=>by simp at h] F (start N vs) H (B5 N.length xs):=by
 have Jp:vs.length<=N.length:=by rw[r.len];exact hl
 refine#[sF,λb o h _=>h,λb h=>h,ai,λa h=>.inl h,by rw[jn hl,lu Jp],λ_=>[],λi s h=>?_,λi a h=>#[1],λi j a _ h=>#[1],λi a s h=>by cases h];obtain⟨x,hx,rfl⟩:=jo h;obtain⟨v,hv,rv⟩:=r.get hx;exact#[v,dC hv,.inl #[rfl,rfl,rv]]
theorem jq{xs:Aab}{a:Addr}{l:Aaj}{c:PV}(sF:dO F H)(r:nE M.K F ws xs)(hl:xs.length+1<=N.length)(ho:M.ob.P F H a l c)(hb:∀b∈l,H b≠none/\F b=none):
  rW M #[H,F,l,λi=>if i=0 then some a else none,λb h=>(hb b h).1] F (start N (.ref a::ws)) H (some #[2,c]::B5 (N.length - 1) xs):=by
 have Jp:ws.length+1<=N.length:=by rw[r.len];exact hl
 refine#[sF,λb o h _=>h,λb h=>h,ai,λa h=>.inl h,?_,λi=>if i=0 then l else [],λi s h=>?_,λi b h=>?_,λi j b EI h z=>?_,λi b s h _ _=>?_]
 .rw[aay,jn #[],lu #[]];omega
 .cases i with
  |zero=>
   have h  :=by simpa using h.symm
   subst h;exact#[.ref a,dC rfl,.inr (.inr (.inl #[.inl rfl,a,rfl,λc hc=>.inl hc,ho]))]
  |succ i=>obtain⟨x,hx,rfl⟩:=jo h;obtain⟨v,hv,rv⟩:=r.get hx;exact#[v,dC #[1],.inl #[rfl,rfl,rv]]
 .split at h
  .exact hb b h
  .simp at h
 .split at h
  .split at z
   .rename_i h1 h2;exact EI (h1.trans h2.symm)
   .simp at z
  .simp at h
 .dsimp only at h;split at h
  .rename_i e;subst e;cases h;exact dC rfl
  .cases h
variable{P:aaC}{w:World}{mg:Aaf}{base:Heap}
variable{qual:Str}{fd:abL}{ps:A3}
theorem aK{f:Addr}{k:Nat}(F:Jl K x qual st f fd)(S:au N ps (am st))(hn:ps.length<=N.length)
  (hb:∀(Bu:Value) (A:Around) (outer:List Env) (s:Shared) (H:Hp) (E:XK),BB k (A.deeper (envOfC qual (am st) s.heap.objs.size f Bu))->EG ob (Ft Cp P w K mg base N qual (am st) f Bu A outer s H E).KN (bd st) u) :
  Bi P w K mg base Cp (k+1) f fd ps (Ko #[P,w,K,ob] ps.length (run N.length u)):=by
 refine F.ok S (λvs H Q E h=>?_) (λBu A outer s H vs Q E hr h=>?_)
 .obtain⟨F,xs,P,_,r,hl,_⟩:=h;rw[r.len];exact hl
 .obtain⟨F,xs,P',sF,r,hl,hD,kk⟩:=h;obtain⟨t,ht,kt⟩:=(hb Bu A outer s H E hr).ex;refine#[t,ht,kt _ F _ H _ _ _ (gi sF r #[]) hD #[λenv U F' H' p s1 K1=>?_,λx env v U F' H' p s1 K1 rv=>?_,λ_ _ _ _ p=>p.elim,λ_ _ _ _ p=>p.elim,λ_ _ _ _ _ _ p=>p.elim,λ_ _ _ _ _ _ _ p=>p.elim]]
  .exact kk .AZ .AZ F' H' p (λb o h=>K1.sG b o h #[0]) s1 K1.sF K1.nw .AZ
  .exact kk x v F' H' p (λb o h=>K1.sG b o h #[0]) s1 K1.sF K1.nw rv
theorem gJ{f:Addr}{k:Nat}(F:Jl K x qual st f fd)(S:au N ps (am st))(hn:ps.length<=N.length)
  (hb:∀(Bu:Value) (A:Around) (outer:List Env) (s:Shared) (H:Hp) (E:XK),BB k (A.deeper (envOfC qual (am st) s.heap.objs.size f Bu))->EG ob (Ft Cp P w K mg base N qual (am st) f Bu A outer s H E).KN (bd st) u) :
  Bi P w K mg base Cp (k+1) f fd ps (Kp #[P,w,K,ob] ps.length (HI N.length u)):=by
 refine F.ok S (λvs H Q E h=>?_) (λBu A outer s H vs Q E hr h=>?_)
 .obtain⟨F,a,l,c,ws,xs,P,rfl,_,r,hl,_⟩:=h;rw[aay,r.len];exact hl
 .obtain⟨F,a,l,c,ws,xs,P',rfl,sF,r,hl,ho,Jr,hD,kk⟩:=h;obtain⟨t,ht,kt⟩:=(hb Bu A outer s H E hr).ex;have fin:∀(x:PV) (env:En) (v:V) (U:L2.St) (F' H':Hp),LU (P' x) env->dO F F'->rW #[P,w,K,ob] #[H,F,l,λi=>if i=0 then some a else none,λb h=>(Jr b h).1] F' U H' env->Rep K F' v x->Q v H':=λx env v U F' H' p s1 K1 rv=>by
   unfold LU at p;split at p
   .rename_i c' e;obtain⟨fp,L⟩:=K1.sl;obtain⟨v0,FD,ok⟩:=L.at' 0 _ e;have hg:=L.oa 0 a _ rfl e rfl;rw[hg]at FD;cases FD;rcases ok with ⟨k0,_⟩|⟨k0,_⟩|⟨_,a',e',h1,h2⟩|⟨k0,_⟩
    .cases k0
    .cases k0
    .cases e';exact kk x _ v F' H' (fp 0) p (λb o h1 h2=>K1.sG b o h1 h2) (λb h=>K1.pr b h) s1 K1.sF K1.nw h2 (λb hb=>L.al 0 b hb) (λb hb=>h1 b hb) rv
    .cases k0
   .exact p.elim
  refine#[t,ht,kt #[H,F,l,λi=>if i=0 then some a else none,λb h=>(Jr b h).1] F (start N (.ref a::ws)) H (some #[2,c]::B5 (N.length - 1) xs) (Ln P') _ (jq (M:=#[P,w,K,ob]) sF r #[] ho Jr) hD #[λenv U F' H' p s1 K1=>?_,λx env v U F' H' p s1 K1 rv=>?_,λ_ _ _ _ p=>p.elim,λ_ _ _ _ p=>p.elim,λ_ _ _ _ _ _ p=>p.elim,λ_ _ _ _ _ _ _ p=>p.elim]]
  .exact fin .AZ env .AZ U F' H' p s1 K1 .AZ
  .exact fin x env v U F' H' p s1 K1 rv
def A9(D:Fd)(fa:WA):WE:=λenv P=>fa env λxs e=>D xs λr=>P r e
noncomputable def tO(D:GV)(i:Nat)(fa:WA):WE:=λenv P=>(env[i]?).join.isSome=true/\fa env λxs e=>match e[i]? with
 |some (some #[2,c])=>D c xs λr c'=>P r (e.set i (some #[2,c']))
 |some (some #[4,c])=>D c xs λr c'=>P r (e.set i (some #[4,c']))
 |_=>False
variable{k:Nat}{CS:Addr}{D:Fd}{DO:GV}{p1:Pos}
def xC(F:Bi X.prog X.w X.K X.mg X.base Cp k CS fd ps (Ko #[14] n D))(hr:BB k X.A)(hm:X.mg x=some (.ref CS))(hk:abJ X.K (.ref CS)=true)(hb:Binds X.K fd ps [])(ha:Gm ob X (e::es) fa)(hn:autoParam (es.length+1=n) At)(hg:autoParam (Gl X x) At)
  (DH:autoParam #[12] on) (he:autoParam #[8] At) (Cj:autoParam #[11] At) :
  Bk ob X (.Call (.Name x p) (e::es) [] pos) (A9 D fa):=by
 obtain⟨t,ht,kt⟩:=ha.ex;refine#[_,cR F hr hg hm hk hb .nil FZ ht DH he Cj,λZ F U H env P Q K hf kk=>kt Z F U H env _ _ K hf λxs e1 vs F1 H1 p hl s1 K1 r1=>?_];rw[aa0];refine#[F1,xs,_,K1.sF,r1,#[1],p,λr v F' H' pr sH sF JF nw rv=>?_];exact kk r e1 v F' H' pr (af s1 sF) (K1.move sF JF sH nw) rv
def rW.M6{i kd:Nat}{a:Addr}{c c':PV}{l':Aaj}(hk:kd=2\/kd=4)(K:rW M Z F U H env)(L:Slots M Z F U H env fp)(hi:env[i]?=some (some #[kd,c]))(hv:U[i]?=some (some (.ref a)))
  (kp:∀b o,H b=some o->b∉fp i->H' b=some o) (pr:∀b,H b≠none->H' b≠none) (sF:dO F F') (JF:dO F' H') (nw:∀a,F' a≠none->F a≠none\/H a=none) (ho:M.ob.P F' H' a l' c') (hl:∀b∈l',H' b≠none/\F' b=none) (hn:∀b∈l',b∈fp i\/H b=none) :
  rW M Z F' U H' (env.set i (some #[kd,c']))/\Slots M Z F' U H' (env.set i (some #[kd,c'])) (λj=>if j=i then l' else fp j):=by
 obtain⟨v0,FD,Th⟩:=L.at' i _ hi;have wr:=Th.wr;have Xe:∀b∈l',b∈Z.S\/Z.H0 b=none:=λb hb=>by
  rcases hn b hb with q|q
  .exact wr b q
  .exact .inr (K.h0 q)
 have BU:i<env.length:=by
  rcases aaS i env.length with q|q
  .exact q
  .rw[aam q]at hi;cases hi
 suffices S:Slots M Z F' U H' (env.set i (some #[kd,c'])) (λj=>if j=i then l' else fp j)from #[#[JF,λb o h1 h2=>kp b o (K.sG b o h1 h2) λz=>(wr b z).elim h2 λq=>(by rw[q]at h1;cases h1),λb h=>pr b (K.pr b h),af K.gr sF,λa h=>(nw a h).elim (K.nw a) λq=>.inr (K.h0 q),by simp[K.len],_,S],S]
 refine#[λj s e=>?_,λj b h=>?_,λj j2 b Ow h z=>?_,λj b s e1 e2 e3=>?_]
 .by_cases q:j=i
  .subst q;rw[abq]at e;simp only[if_true,BU]at e;cases e;exact#[_,hv,by rw[if_pos rfl];exact .inr (.inr (.inl #[hk,a,rfl,Xe,ho]))]
  .rw[aaD (abz q)]at e;obtain⟨v,h1,h2⟩:=L.at' j s e;have h3:=h2.mono (H':=H') sF λc hc=>by obtain⟨o,ho⟩:=cz (L.al j c hc).1;rw[ho];exact kp c o ho (L.dj j i c q hc)
   exact#[v,h1,by rw[if_neg q];exact h3]
 .by_cases q:j=i
  .rw[if_pos q]at h;exact hl b h
  .rw[if_neg q]at h;have:=L.al j b h;refine#[pr b this.1,?_];cases e:F' b with
   |none=>rfl
   |some o=>
    rcases nw b (by rw[e];simp)with y|y
    .exact absurd this.2 y
    .exact absurd y this.1
 .have Qr:∀j,j≠i->b∈l'->b∈fp j->False:=λj hj m1 m2=>by
   rcases hn b m1 with y|y
   .exact L.dj j i b hj m2 y
   .exact(L.al j b m2).1 y
  by_cases q:j=i
  .rw[if_pos q]at h;rw[if_neg (λy=>Ow (q.trans y.symm))]at z;exact Qr j2 (λy=>Ow (q.trans y.symm)) h z
  .rw[if_neg q]at h;by_cases q2:j2=i
   .rw[if_pos q2]at z;exact Qr j q z h
   .rw[if_neg q2]at z;exact L.dj j j2 b Ow h z
 .by_cases q:j=i
  .subst q;rw[abq]at e2;simp only[if_true,BU]at e2;cases e2;exact L.oa j b _ e1 hi e3
  .rw[aaD (abz q)]at e2;exact L.oa j b s e1 e2 e3
def uZ(i:Nat){y:Str}(F:Bi X.prog X.w X.K X.mg X.base Cp k CS fd ps (Kp #[14] n DO))(hr:BB k X.A)(hm:X.mg x=some (.ref CS))(hk:abJ X.K (.ref CS)=true)(hb:Binds X.K fd ps [])(ho:PE X (.Name y p1) (Bw i))(ha:Gm ob X es fa)(hn:autoParam (es.length+1=n) At)(hg:autoParam (Gl X x) At)
  (DH:autoParam #[12] on) (he:autoParam (aal (.Name y p1::es) X.env=(false,eval (.Name y p1) X.env)::aal es X.env) At) (Cj:autoParam #[11] At) :
  Bk ob X (.Call (.Name x p) (.Name y p1::es) [] pos) (tO DO i fa):=by
 obtain⟨t,ht,kt⟩:=ha.ex;refine#[_,cR (E:=E0) F hr hg hm hk hb .nil FZ (aD ho ht he) DH he Cj,λZ F U H env P Q K hf kk=>?_];obtain⟨h0,hf⟩:=hf;obtain⟨w,hw⟩:∃v,U[i]?=some (some v):=by
  cases e:env[i]? with
  |none=>rw[e]at h0;cases h0
  |some w=>
   cases w with
   |none=>rw[e]at h0;cases h0
   |some s=>obtain⟨fp,L⟩:=K.sl;obtain⟨v,hv,_⟩:=L.at' i s e;exact#[v,hv]
 refine#[w,hw,kt Z F U H env _ _ K hf λxs e1 vs F1 H1 p hl s1 K1 r1=>?_];show Kp #[14] n DO ((w::vs)++[]) H1 Q E0;rw[aa0];have fin:∀(kd:Nat) (c:PV),kd=2\/kd=4->e1[i]?=some (some #[kd,c])->DO c xs (λr c'=>P r (e1.set i (some #[kd,c'])))->Kp #[14] n DO (w::vs) H1 Q E0:=λkd c Ku ei p=>by
  obtain⟨fp,L⟩:=K1.sl;obtain⟨v0,FD,ok⟩:=L.at' i _ ei;rw[hw]at FD;cases FD;rcases ok with ⟨k0,_⟩|⟨k0,_⟩|⟨_,a,rfl,_,ho⟩|⟨k0,_⟩
  .rcases Ku with rfl|rfl<;>cases k0
  .rcases Ku with rfl|rfl<;>cases k0
  .refine#[F1,a,fp i,c,vs,xs,_,rfl,K1.sF,r1,by rw[hl];exact hn,ho,λb hb=>L.al i b hb,p,λr c' v F' H' l' pr kp pre sF JF nw E1 Jp Jo rv=>?_];exact kk r _ v F' H' pr (af s1 sF) (K1.M6 Ku L ei hw kp pre sF JF nw E1 Jp Jo).1 rv
  .rcases Ku with rfl|rfl<;>cases k0
 split at p
 .rename_i ei;exact fin _ _ (.inl rfl) ei p
 .rename_i ei;exact fin _ _ (.inr rfl) ei p
 .exact p.elim
def aC{D':Fd}(F:Bi P w K mg base Cp k CS fd ps (Ko #[P,w,K,ob] n D))(h:∀xs P,D' xs P->D xs P):Bi P w K mg base Cp k CS fd ps (Ko #[P,w,K,ob] n D') :=
 F.imp λvs H Q E #[F,xs,P,a,b,c,d,e]=>#[F,xs,P,a,b,c,h _ _ d,e]
def e8{D D':GV}(F:Bi P w K mg base Cp k CS fd ps (Kp #[P,w,K,ob] n D))(h:∀c xs P,D' c xs P->D c xs P):Bi P w K mg base Cp k CS fd ps (Kp #[P,w,K,ob] n D') :=
 F.imp λvs H Q E q=>by obtain⟨F,a,l,c,ws,xs,P,a1,a2,a3,a4,a5,a6,a7,a8⟩:=q;exact#[F,a,l,c,ws,xs,P,a1,a2,a3,a4,a5,a6,h _ _ _ a7,a8]
theorem GC(r:BB k A):A.units+1<cLine:=by have:=r.un;omega
theorem B6(r:BB k A):A.units<cLine:=by have:=r.un;omega
theorem IX(r:BB k A):A.units+60<cLine:=by have:=r.un;omega
theorem Nn(r:BB k A):A.units+62<cLine:=by have:=r.un;omega
noncomputable def Mz:PV->Option String
 |.AZ=>some "NoneType"
 |.bl _=>some "bool"
 |.int _=>some "int"
 |.str _=>some "str"
 |.tup _=>some "tuple"
 |.lst _=>some "list"
 |.Bp _=>some "dict"
 |_=>none
noncomputable def IV(T c:String):Bool:=T==c || (T == "bool" && c == "int")
noncomputable def Dc(c:String)(x:PV):Aat:=(Mz x).map λT=>.bl (IV T c)
def Ez(c:String)(a:WE):WE:=Mg (Dc c) a
def yS{x:PV}{T:String}(h:Mz x=some T)(c:String)(hc:c = "str" \/ c = "tuple" \/ c = "int" \/ c = "bool" \/ c = "list" \/ c = "dict"):aeq K (.type T) (.type c)=some (IV T c):=by cases x<;>cases h<;>rcases hc with rfl|rfl|rfl|rfl|rfl|rfl<;>rfl
def LN(K:aag)(cl:String):Aag->Hp->VK->Prop:=λxs H Q=>Qa K xs H Q\/∃p vs,xs=[.ref p,.ty cl]/\Cf K H p vs/\aeq K (.type "tuple") (.type cl)=some (IV "tuple" cl)/\Q (.bl (IV "tuple" cl)) H
def Ag{cl:String}:Bd X (.builtin "isinstance") (LN X.K cl):=by
 refine Bd.or vn ?_;intro pins s U H xs us Q I r h;obtain⟨p,vs,rfl,hp,hk,q⟩:=h;cases r with
 |cons r1 r2=>
  cases r2 with
  |cons r2 r3=>cases r3;cases r2;cases r1;obtain⟨eQ,_,⟨o,h1,h2,_⟩,_⟩:=I.tuple hp;exact abB PySem.W.kitx_tuple I.GB #[o,h1,h2] hk (λz=>nomatch z) λtk=>#[.bl _,H,I.tok tk,rfl,q]
def nN(cl:String){T:Str}(hc:cl = "str" \/ cl = "tuple" \/ cl = "int" \/ cl = "bool" \/ cl = "list" \/ cl = "dict")(hm:X.mg "isinstance" = none)(hT:X.mg T=none)(hb:aca T=some (.type cl))(ha:Fz ob X a f)(hg:autoParam (Gl X "isinstance") At)(YG:autoParam (Gl X T) At)(hn:autoParam (T ≠ "__name__") on)(DH:autoParam ((T==("__debug__" : Str))=false) on)
  (he:autoParam (aal [a,.Name T p1] X.env=(false,eval a X.env)::aal [.Name T p1] X.env) At) (Nz:autoParam (aal [.Name T p1] X.env=(false,eval (.Name T p1) X.env)::aal [] X.env) At) (Cj:autoParam ((backTo pos (aal [.Name T p1] X.env)).any (·.1)=false) At) :
  Bk ob X (.Call (.Name "isinstance" p) [a,.Name T p1] [] pos) (Ez cl f):=by
 obtain⟨t,ht,k⟩:=ha.ex;refine#[_,bi (Ag (cl:=cl)) hg hm boot_isinstance (aD ht (aD (wA (v:=.ty cl) YG hT hb rfl hn DH) aQ Nz) he) #[2] #[2] he Cj,λZ F U H env P Q K hf kk=>k Z F U H env _ _ K hf λx e1 v F1 H1 p s1 K1 r1=>?_];obtain⟨z,hz,p⟩:=p;unfold Dc at hz;rw[aas]at hz;obtain⟨T',WQ,rfl⟩:=hz;have fin:∀w,Rep X.K F1 w (.bl (IV T' cl))->Q w H1:=λw r=>kk _ e1 _ F1 H1 p s1 K1 r;have q:=fin _ (.bl _);have kt:=yS (K:=X.K) WQ cl hc;show LN X.K cl [v,.ty cl] H1 Q;cases x<;>cases WQ
 .rw[r1.AZ];exact .inl #[_,_,_,_,rfl,.AZ,kt,q]
 .rw[r1.bl];exact .inl #[_,_,_,_,rfl,.bl _,kt,q]
 .rw[r1.int];exact .inl #[_,_,_,_,rfl,.int _,kt,q]
 .rw[r1.str];exact .inl #[_,_,_,_,rfl,.str _,kt,q]
 .obtain⟨q',vs,rfl,h1,h2⟩:=r1.tup K1.sF;exact .inr #[q',vs,rfl,h1,kt,q]
 .obtain⟨q',vs,rfl,h1,h2⟩:=r1.lst K1.sF;exact .inl #[_,_,_,_,rfl,.lst h1,kt,q]
 .obtain⟨q',vs,rfl,h1,h2⟩:=r1.Bp K1.sF;exact .inl #[_,_,_,_,rfl,.dK h1,kt,q]
def EA(o o':PV->PV->Option PV)(fa fb fc:WE):WE:=λenv P=>fa env λx e1=>fb e1 λy e2=>opt (o x y) λz=>opt (EV z) λk=>if k=true then fc e2 λw e3=>opt (o' y w) λz'=>P z' e3 else P (.bl false) e2
def xy(hm:∃t,X.mg x=some (.int i t))(hg:autoParam (Gl X x) At)(hd:autoParam #[12] on):Bk ob X (.Name x pos) (eC (.int i)):=by obtain⟨t,hm⟩:=hm;exact dq (wx (v:=.int i) hg hm #[t,rfl] hd) λ_=>.int i
variable{o':PV->PV->Option PV}{tb:TE}
def lV{o:PV->PV->Option PV}{r:R2}{ta tc:TE}(hq:Ef ob X r o)(Lc:Ef ob X r' o')
  (ka:∀(Z:Zn) (F:Hp) (U:L2.St) (H:Hp) (env:En) (P:Aal) (Q:VK),rW #[14] Z F U H env->f env P->#[7]->ta U H Q)
  (kb:∀(Z:Zn) (F:Hp) (U:L2.St) (H:Hp) (env:En) (P:Aal) (Q:VK),rW #[14] Z F U H env->g env P->#[7]->tb U H Q)
  (kc:∀(Z:Zn) (F:Hp) (U:L2.St) (H:Hp) (env:En) (P:Aal) (Q:VK),rW #[14] Z F U H env->h env P->#[7]->tc U H Q) :
  ∀(Z:Zn) (F:Hp) (U:L2.St) (H:Hp) (env:En) (P:Aal) (Q:VK),rW #[14] Z F U H env->EA o o' f g h env P->#[7]->HD r r' ta tb tc U H Q:=by
 refine λZ F U H env P Q K hf kk=>ka Z F U H env _ _ K hf λx e1 v F1 H1 p s1 K1 r1=>kb Z F1 U H1 e1 _ _ K1 p λy e2 u F2 H2 p2 s2 K2 r2=>?_;obtain⟨z,hz,k,hk,p2⟩:=p2;refine hq Z F2 U H2 e2 v u x y z _ K2 (.inl (r1.mono s2)) (.inl r2) hz λv' F3 H3 s3 K3 r3=>?_;obtain⟨rfl,rfl⟩:=pR r3 hk;refine#[k,rfl,?_];cases k with
 |true=>refine Fj (kc Z F3 U H3 e2 _ _ K3 p2 λw e4 w' F4 H4 p4 s4 K4 r4=>?_);obtain⟨z',Ya,p4⟩:=p4;exact Lc Z F4 U H4 e4 u w' y w z' Q K4 (.inl ((r2.mono s3).mono s4)) (.inl r4) Ya λv5 F5 H5 s5 K5 r5=>kk z' e4 v5 F5 H5 p4 (af s1 (af s2 (af s3 (af s4 s5)))) K5 r5
 |false=>exact ES (kk _ e2 _ F3 H3 p2 (af s1 (af s2 s3)) K3 (.bl _))
def uY{HK:CmpOp}{o:PV->PV->Option PV}{r:R2}(ho:BX X (aa1 op) r)(hq:Ef ob X r o)(E1:BX X (aa1 HK) r')(Lc:Ef ob X r' o')(ha:Bk ob X a f)(hb:Bk ob X b g)(hc:Bk ob X c h)
  (hm:autoParam (lastMarks [op,HK] [b,c]=false) A'):Bk ob X (.Compare a [op,HK] [b,c] pos) (EA o o' f g h):=by
 obtain⟨ta,ha,ka⟩:=ha.ex;obtain⟨tb,hb,kb⟩:=hb.ex;obtain⟨tc,hc,kc⟩:=hc.ex;exact#[_,uh ho E1 ha hb hc hm,lV hq Lc ka kb kc]
def u6{HK:CmpOp}{o:PV->PV->Option PV}{r:R2}(ho:BX X (aa1 op) r)(hq:Ef ob X r o)(E1:BX X (aa1 HK) r')(Lc:Ef ob X r' o')(ha:Bk ob X a f)(hb:Bk ob X b g)(hc:Bk ob X c h)
  (hm:autoParam (lastMarks [op,HK] [b,c]=false) A'):E3 ob X (.Compare a [op,HK] [b,c] pos) (A7 (EA o o' f g h)):=by
 obtain⟨ta,ha,ka⟩:=ha.ex;obtain⟨tb,hb,kb⟩:=hb.ex;obtain⟨tc,hc,kc⟩:=hc.ex;refine#[_,t9 ho E1 ha hb hc hm,λZ F U H env P Q K hf k=>lV hq Lc ka kb kc Z F U H env _ _ K hf λx e1 v F1 H1 p s1 K1 r1=>?_];obtain⟨z,hz,p⟩:=p;cases x<;>try (cases hz)
 cases r1;exact#[_,rfl,k _ e1 F1 H1 p s1 K1]
variable{c:WT}
def rW.Pl{v:V}{x:PV}{i:Nat}(K:rW M Z F (U++[some v]) H (env++[some #[1,x]]))(hx:∀xs,x≠.set xs):∃F',dO F F'/\rW M Z F' (U.set i (some v)) H (env.set i (some #[0,x])):=by obtain⟨F',s,K',r⟩:=K.ID hx;exact#[F',s,K'.put r]
def zt(i:Nat){y:Str}(hN:X.N.Nodup)(hy:X.N[i]?=some y)(hk:X.env.scope.names.lookup y=some .local)(hi:GW ob X tg iter fi)(hg:∀C s0 H0 ex pn,PG #[5] tg (G4 X.K T))(ht:∀C s0 H0 ex pn,OM ob #[5] ifs c)(he:∀C s0 H0 ex pn,Bk ob #[5] elt f)
  (hj:autoParam (FL js=true) At) (hT:autoParam (CC js T=true) At)
  (JZ:autoParam (ab3 (.ListComp elt [#[tg,iter,ifs,0]] scope pos) (some (.Name y py)) BM.line X.env=pure true) At)
  (hc:autoParam (X.calm=true) At) (hx:autoParam (X.xe=(λ_ _=>False)) At) (C3:autoParam (Dm X.env scope=true) At) (Bq:autoParam (Ce X.N scope N js=true) At) (Bg:autoParam (scope.kind=.function) At) (hs:autoParam (∀x,aaB iter X.env x=pure x) AT) :
  EX ob X (.Assign [.Name y py] (.ListComp elt [#[tg,iter,ifs,0]] scope pos) BM) (Ba i (DE fi T c f js)):=by
 obtain⟨wi,IW,k⟩:=hi.ex;refine#[_,Ar (tc:=Oh #[14] c) (te:=Kr #[14] f) hN hy hk IW hg (λC s0 H0 ex pn=>(ht C s0 H0 ex pn).ex) (λC s0 H0 ex pn=>(he C s0 H0 ex pn).pe) (bO hT) JZ hc hx C3 Bq Bg hs,λZ F U H env P D K hf L=>?_];refine k Z F U H env _ _ K hf λxs e1 J F1 H1 p s1 K1 I1 l hl=>pA (Q:=λv H'=>D.nx (U.set i (some v)) H') hj hT K1 I1 p (λx e2 v F2 H2 p2 s2 HP K2=>?_) l hl;obtain⟨F3,s3,K3⟩:=K2.Pl HP;exact L.nx _ _ F3 H2 p2 (af s1 (af s2 s3)) K3
def FX(a:WE):WS:=λP env=>a env P.rf
variable{c:Expr}
def xt(h:EY ob X e f):EX ob X (.Return (some e) pos) (FX f):=by obtain⟨t,ht,k⟩:=h.ex;exact#[_,eN ht,λZ F U H env P D K hf L=>k Z F U H env _ _ K hf λx e1 v F1 H1 p s1 hx K1=>L.rf x e1 v U F1 H1 p s1 hx K1]
def JA(M:Md)(n:Nat)(D:Fd):Sp:=λvs H Q _=>∃(F:Hp) (xs:Aab) (P:Aao),dO F H/\nE M.K F vs xs/\xs.length=n/\D xs P /\
 ∀r a F' H',P r->dO H H'->dO F F'->dO F' H'->(∀a,F' a≠none->F a≠none\/H a=none)->(∀xs,r≠.set xs)->CG M F' H' a r->F' a=none->H a=none->Q (.ref a) H'
noncomputable def U6(P:Aao):Wd:={nx:=λ_=>False,rt:=λ_ _=>False,rf:=λx _=>P x}
def IP(n:Nat)(u:WS):Fd:=λxs P=>u (U6 P) (B5 n xs)
def Gu(M:Md)(n:Nat)(D:GV):Sp:=λvs H Q _=>∃(F:Hp) (a:Addr) (l:Aaj) (c:PV) (ws:Aag) (xs:Aab) (P:Aap),vs=.ref a::ws/\dO F H/\nE M.K F ws xs/\xs.length+1=n /\
 M.ob.P F H a l c/\(∀b∈l,H b≠none/\F b=none)/\D c xs P /\
 ∀r c' q F' H' l',P r c'->(∀b o,H b=some o->b∉l->H' b=some o)->(∀b,H b≠none->H' b≠none)->dO F F'->dO F' H'->(∀a,F' a≠none->F a≠none\/H a=none)->M.ob.P F' H' a l' c'->(∀b∈l',H' b≠none/\F' b=none)->(∀b∈l',b∈l\/H b=none) ->
  (∀xs,r≠.set xs)->CG M F' H' q r->F' q=none->H q=none->q∉l'->Q (.ref q) H'
noncomputable def Me(P:Aap):Wd:={nx:=λ_=>False,rt:=λ_ _=>False,rf:=λx e=>LU (P x) e}
def JJ(n:Nat)(u:WS):GV:=λc xs P=>u (Me P) (some #[2,c]::B5 (n - 1) xs)
theorem nB{v:V}{x:PV}(K:rW M Z F (U++[some v]) H (env++[some #[1,x]])):∃a fp,v=.ref a/\CG M F H a x/\F a=none/\Z.H0 a=none/\Slots M Z F U H env fp/\∀i,i<env.length->a∉fp i:=by
 have hn  :=by have:=K.len;simpa using this
 obtain⟨fp,L⟩:=K.sl;rcases L.last hn with ⟨e,_⟩|⟨_,a,rfl,hf,h0,hw⟩|⟨e,_⟩|⟨e,_⟩
 .cases e
 .have ha:=L.al env.length a #[1];exact#[a,fp,rfl,hw,ha.2,h0,L.drop hn,λi hi z=>L.dj env.length i a #[] #[1] z]
 .rcases e with e|e<;>cases e
 .cases e
theorem sQ{f:Addr}(F:Jl K x qual st f fd)(S:au N ps (am st))(hn:ps.length<=N.length)
  (hb:∀(Bu:Value) (A:Around) (outer:List Env) (s:Shared) (H:Hp) (E:XK),BB k (A.deeper (envOfC qual (am st) s.heap.objs.size f Bu))->EG ob (Ft Cp P w K mg base N qual (am st) f Bu A outer s H E).KN (bd st) u) :
  Bi P w K mg base Cp (k+1) f fd ps (JA #[P,w,K,ob] ps.length (IP N.length u)):=by
 refine F.ok S (λvs H Q E h=>?_) (λBu A outer s H vs Q E hr h=>?_)
 .obtain⟨F,xs,P,_,r,hl,_⟩:=h;rw[r.len];exact hl
 .obtain⟨F,xs,P',sF,r,hl,hD,kk⟩:=h;obtain⟨t,ht,kt⟩:=(hb Bu A outer s H E hr).ex;refine#[t,ht,kt _ F _ H _ _ _ (gi sF r #[]) hD #[λ_ _ _ _ p=>p.elim,λ_ _ _ _ _ _ p=>p.elim,λ_ _ _ _ p=>p.elim,λ_ _ _ _ p=>p.elim,λx env v U F' H' p s1 hx K1=>?_,λ_ _ _ _ _ _ _ p=>p.elim]];obtain⟨a,fp,rfl,h1,h2,h3,_⟩:=nB K1;exact kk x a F' H' p (λb o h=>K1.sG b o h #[0]) s1 K1.sF K1.nw hx h1 h2 h3
theorem xn{f:Addr}(F:Jl K x qual st f fd)(S:au N ps (am st))(hn:ps.length<=N.length)
  (hb:∀(Bu:Value) (A:Around) (outer:List Env) (s:Shared) (H:Hp) (E:XK),BB k (A.deeper (envOfC qual (am st) s.heap.objs.size f Bu))->EG ob (Ft Cp P w K mg base N qual (am st) f Bu A outer s H E).KN (bd st) u) :
  Bi P w K mg base Cp (k+1) f fd ps (Gu #[P,w,K,ob] ps.length (JJ N.length u)):=by
 refine F.ok S (λvs H Q E h=>?_) (λBu A outer s H vs Q E hr h=>?_)
 .obtain⟨F,a,l,c,ws,xs,P,rfl,_,r,hl,_⟩:=h;rw[aay,r.len];exact hl
 .obtain⟨F,a,l,c,ws,xs,P',rfl,sF,r,hl,ho,Jr,hD,kk⟩:=h;obtain⟨t,ht,kt⟩:=(hb Bu A outer s H E hr).ex;refine#[t,ht,kt #[H,F,l,λi=>if i=0 then some a else none,λb h=>(Jr b h).1] F (start N (.ref a::ws)) H (some #[2,c]::B5 (N.length - 1) xs) (Me P') _ (jq (M:=#[P,w,K,ob]) sF r #[] ho Jr) hD #[λ_ _ _ _ p=>p.elim,λ_ _ _ _ _ _ p=>p.elim,λ_ _ _ _ p=>p.elim,λ_ _ _ _ p=>p.elim,λx env v U F' H' p s1 hx K1=>?_,λ_ _ _ _ _ _ _ p=>p.elim]];obtain⟨q,fp,rfl,h1,h2,h3,L,h4⟩:=nB K1;have p:LU (P' x) env:=p;unfold LU at p;split at p
  .rename_i c' e;obtain⟨v0,FD,ok⟩:=L.at' 0 _ e;have hg:=L.oa 0 a _ rfl e rfl;rw[hg]at FD;cases FD;rcases ok with ⟨k0,_⟩|⟨k0,_⟩|⟨_,a',e',g1,g2⟩|⟨k0,_⟩
   .cases k0
   .cases k0
   .cases e';have BU:0<env.length:=by
     rcases aaS 0 env.length with y|y
     .exact y
     .rw[aam y]at e;cases e
    exact kk x _ q F' H' (fp 0) p (λb o h1 h2=>K1.sG b o h1 h2) (λb h=>K1.pr b h) s1 K1.sF K1.nw g2 (λb hb=>L.al 0 b hb) (λb hb=>g1 b hb) hx h1 h2 h3 (h4 0 BU)
   .cases k0
  .exact p.elim
def u5(F:Bi X.prog X.w X.K X.mg X.base Cp k CS fd ps (JA #[14] n D))(hr:BB k X.A)(hm:X.mg x=some (.ref CS))(hk:abJ X.K (.ref CS)=true)(hb:Binds X.K fd ps [])(ha:Gm ob X (e::es) fa)(hn:autoParam (es.length+1=n) At)(hg:autoParam (Gl X x) At)
  (DH:autoParam #[12] on) (he:autoParam #[8] At) (Cj:autoParam #[11] At) :
  EY ob X (.Call (.Name x p) (e::es) [] pos) (A9 D fa):=by
 obtain⟨t,ht,kt⟩:=ha.ex;refine#[_,cR F hr hg hm hk hb .nil FZ ht DH he Cj,λZ F U H env P Q K hf kk=>kt Z F U H env _ _ K hf λxs e1 vs F1 H1 p hl s1 K1 r1=>?_];rw[aa0];refine#[F1,xs,_,K1.sF,r1,#[1],p,λr a F' H' pr sH sF JF nw hx ho hF ha=>?_];refine kk r e1 _ F' H' pr (af s1 sF) hx ?_;have K2:=K1.move sF JF sH nw;obtain⟨fp,L⟩:=K1.sl;have L2  := L.move sF (λ_ c o _ e=>sH c o e) nw;refine K2.slots (by simp[K2.len]) (L2.push #[0] K2.len (.inr (.inl #[rfl,a,rfl,rfl,K1.h0 ha,ho])) (λb hb=>?_) λj b hb hj=>?_)
 .simp at hb;subst hb;refine#[?_,hF];cases r<;>try exact ho.elim
  .obtain⟨vs,h,_⟩:=ho;rw[h];simp
  .obtain⟨vs,h,_⟩:=ho;rw[h];simp
  .rw[ho];simp
 .simp at hb;subst hb;exact(L.al j b hj).1 ha
def sY(i:Nat){y:Str}(F:Bi X.prog X.w X.K X.mg X.base Cp k CS fd ps (Gu #[14] n DO))(hr:BB k X.A)(hm:X.mg x=some (.ref CS))(hk:abJ X.K (.ref CS)=true)(hb:Binds X.K fd ps [])(ho:PE X (.Name y p1) (Bw i))(ha:Gm ob X es fa)(hn:autoParam (es.length+1=n) At)(hg:autoParam (Gl X x) At)
  (DH:autoParam #[12] on) (he:autoParam (aal (.Name y p1::es) X.env=(false,eval (.Name y p1) X.env)::aal es X.env) At) (Cj:autoParam #[11] At) :
  EY ob X (.Call (.Name x p) (.Name y p1::es) [] pos) (tO DO i fa):=by
 obtain⟨t,ht,kt⟩:=ha.ex;refine#[_,cR (E:=E0) F hr hg hm hk hb .nil FZ (aD ho ht he) DH he Cj,λZ F U H env P Q K hf kk=>?_];obtain⟨h0,hf⟩:=hf;obtain⟨w,hw⟩:∃v,U[i]?=some (some v):=by
  cases e:env[i]? with
  |none=>rw[e]at h0;cases h0
  |some w=>
   cases w with
   |none=>rw[e]at h0;cases h0
   |some s=>obtain⟨fp,L⟩:=K.sl;obtain⟨v,hv,_⟩:=L.at' i s e;exact#[v,hv]
 refine#[w,hw,kt Z F U H env _ _ K hf λxs e1 vs F1 H1 p hl s1 K1 r1=>?_];show Gu #[14] n DO ((w::vs)++[]) H1 Q E0;rw[aa0];have fin:∀(kd:Nat) (c:PV),kd=2\/kd=4->e1[i]?=some (some #[kd,c])->DO c xs (λr c'=>P r (e1.set i (some #[kd,c'])))->Gu #[14] n DO (w::vs) H1 Q E0:=λkd c Ku ei p=>by
  obtain⟨fp,L⟩:=K1.sl;obtain⟨v0,FD,ok⟩:=L.at' i _ ei;rw[hw]at FD;cases FD;rcases ok with ⟨k0,_⟩|⟨k0,_⟩|⟨_,a,rfl,_,ho⟩|⟨k0,_⟩
  .rcases Ku with rfl|rfl<;>cases k0
  .rcases Ku with rfl|rfl<;>cases k0
  .refine#[F1,a,fp i,c,vs,xs,_,rfl,K1.sF,r1,by rw[hl];exact hn,ho,λb hb=>L.al i b hb,p,λr c' q F' H' l' pr kp pre sF JF nw E1 Jp Jo hx hq hF Wp Ym=>?_];obtain⟨K2,L2⟩:=K1.M6 Ku L ei hw kp pre sF JF nw E1 Jp Jo;refine kk r _ _ F' H' pr (af s1 sF) hx ?_;refine K2.slots (by simp[K1.len]) (L2.push (l:=[q]) #[0] (by simp[K1.len]) (.inr (.inl #[rfl,q,rfl,rfl,K1.h0 Wp,hq])) (λb hb=>?_) λj b hb hj=>?_)
   .simp at hb;subst hb;refine#[?_,hF];cases r<;>try exact hq.elim
    .obtain⟨vs,h,_⟩:=hq;rw[h];simp
    .obtain⟨vs,h,_⟩:=hq;rw[h];simp
    .rw[show H' _=_ from hq];simp
   .simp at hb;subst hb;split at hj
    .exact Ym hj
    .exact(L.al j b hj).1 Wp
  .rcases Ku with rfl|rfl<;>cases k0
 split at p
 .rename_i ei;exact fin _ _ (.inl rfl) ei p
 .rename_i ei;exact fin _ _ (.inr rfl) ei p
 .exact p.elim
end Q
namespace L2
open PySem PySem.Spec PyProof.Rows PySem.W
noncomputable def SN(P:Addr)(ps:Aak):HO:=.ext λh=>h.get? P=some (tabObj ps)
noncomputable def Ru(c:Addr)(lq:Str):HO:=.ext λh=>h.CodeRec (.ref c) lq
end L2
namespace Pre
open PySem L2
structure Z9(H:Hp)(a b:Addr):Prop where
 st:∃(ns:Aar) (z:Int),H a=some (.lst [.ref b,.int z])/\H b=some (.lst (ns.map V.int))/\(∀n∈ns,0<=n)/\0<=z/\z<2305843009213693951
def Ik(a b:Addr)(H H':Hp):Prop:=∀c o,H c=some o->c≠a->c≠b->H' c=some o
def Ik.refl(a b:Addr)(H:Hp):Ik a b H H:=λ_ _ h _ _=>h
variable{a b:Addr}{H H':Hp}{o:HO}
def Ik.grow{p:Addr}(x:Ik a b H H')(hp:H' p=none):Ik a b H (upd H' p o):=λc u h h1 h2=>by have q:=x c u h h1 h2;rw[aj (av q hp)];exact q
def Ik.MM(x:Ik a b H H'):Ik a b H (upd H' a o):=λc u h h1 h2=>by rw[aj h1];exact x c u h h1 h2
def Ik.S1(x:Ik a b H H'):Ik a b H (upd H' b o):=λc u h h1 h2=>by rw[aj h2];exact x c u h h1 h2
noncomputable def stK(b:Addr)(left seed many:Int):List (Key×V):=[(.inr (aao "cells"),.ref b),(.inr (aao "left"),.int left),(.inr (aao "seed"),.int seed),(.inr (aao "many"),.int many)]
structure OI(H:Hp)(a b:Addr)(f:Nat):Prop where
 st:∃(ns:Aar) (left seed many:Int),H a=some (.dK (stK b left seed many))/\H b=some (.lst (ns.map V.int))/\0<=left/\0<=seed/\seed<2305843009213693951/\0<=many/\many+f<=1152921504606846976
def G8(K:aag):Sp:=λvs H Q _=>∃(a:Addr) (ns:Aar),vs=[.ref a]/\Cr K H a (ns.map V.int)/\ns.length<=63/\∀H',Q (.bl true) H'
end Pre
namespace Q
open PySem L2 PyProof.Rows
def Mt(K:aag)(F H:Hp)(a:Addr)(l:Aaj)(x:PV):Prop:=∃ks:List (Key×Addr×Aab),x=.Bp (ks.map λt=>(t.1,.lst t.2.2))/\l=a::ks.map (·.2.1)/\H a=some (.dK (ks.map λt=>(t.1,.ref t.2.1))) /\
 (ks.map (·.2.1)).Nodup/\∀t∈ks,∃vs,H t.2.1=some (.lst vs)/\nE K F vs t.2.2
noncomputable def Pn(lq:Str)(ln co:Nat)(P:Addr):PV:=.tup [.str lq,.int ln,.int co,.int (P:Nat)]
def TabAt(H:Hp)(a:Addr)(l:Aaj)(x:PV):Prop:=∃(lq:Str) (ln co:Nat) (ps:Aak),x=Pn lq ln co a/\H a=some (SN a ps)/\PySem.TriplesOk ps.toList /\
 ((l=[a]/\codeAmong #[ln,co,0,0] ps.toList=none)\/∃c',c'≠a/\l=[a,c']/\codeAmong #[ln,co,0,0] ps.toList=some (.ref c')/\H c'=some (Ru c' lq))
variable{H H':Hp}{a:Addr}{l:Aaj}{x:PV}
def TabAt.mono(h:TabAt H a l x)(e:∀b∈l,H' b=H b):TabAt H' a l x:=by
 obtain⟨lq,ln,co,ps,rfl,h1,h2,h3⟩:=h;refine#[lq,ln,co,ps,rfl,?_,h2,?_]
 .rcases h3 with ⟨rfl,_⟩|⟨c',_,rfl,_⟩
  .exact(e a #[0]).trans h1
  .exact(e a #[0]).trans h1
 .rcases h3 with ⟨rfl,h4⟩|⟨c',h4,rfl,h5,h6⟩
  .exact .inl #[rfl,h4]
  .exact .inr #[c',h4,rfl,h5,(e c' #[0]).trans h6]
inductive TabsAt (H:Hp):Addr->List Addr->PV->Prop
 |one {a:Addr} {l:Aaj} {x:PV} (h:TabAt H a l x):TabsAt H a l x
 |two {a T:Addr} {l1 l2:Aaj} {x1 x2:PV} (h1:TabAt H a l1 x1) (h2:TabAt H T l2 x2) (h3:∀b∈l1,b∉l2):TabsAt H a (l1++l2) (.tup [x1,x2])
def TabsAt.mono(h:TabsAt H a l x)(e:∀b∈l,H' b=H b):TabsAt H' a l x:=by
 cases h with
 |one h=>exact .one (h.mono e)
 |two h1 h2 h3=>exact .two (h1.mono λb hb=>e b (abt _ hb)) (h2.mono λb hb=>e b (aaH _ hb)) h3
def NX(H:Hp)(a:Addr)(l:Aaj)(x:PV):Prop:=∃(x1 x2:PV) (T2:Addr) (l1 l2:Aaj),x=.tup [x1,x2]/\l=l1++l2/\TabAt H a l1 x1/\TabsAt H T2 l2 x2/\∀b∈l1,b∉l2
def RE(H:Hp)(a:Addr)(l:Aaj)(x:PV):Prop:=(x=.AZ/\∃b,l=[a,b]/\Pre.Z9 H a b)\/∃(f:Nat) (b:Addr),x=.int f/\l=[a,b]/\Pre.OI H a b f
noncomputable def Ee(K:aag):B3 where
 P:=λF H a l x=>RE H a l x\/Mt K F H a l x\/TabAt H a l x\/NX H a l x
 mono:=λF F' H H' a l x h s e=>by
  rcases h with (⟨h0,b,rfl,ns,z,h1,h2,h3⟩|⟨f,b,h0,rfl,ns,q1,q2,q3,h1,h2,h3⟩)|⟨ks,rfl,rfl,h1,h2,h3⟩|ht|⟨x1,x2,T2,l1,l2,rfl,rfl,h1,h2,h3⟩
  .exact .inl (.inl #[h0,b,rfl,ns,z,(e a #[0]).trans h1,(e b #[0]).trans h2,h3])
  .exact .inl (.inr #[f,b,h0,rfl,ns,q1,q2,q3,(e a #[0]).trans h1,(e b #[0]).trans h2,h3])
  .refine .inr (.inl #[ks,rfl,rfl,(e a #[0]).trans h1,h2,λt ht=>?_]);obtain⟨vs,q1,q2⟩:=h3 t ht;exact#[vs,(e _ (aaq _ (abo (f:=λt=>t.2.1) ht))).trans q1,q2.mono s]
  .exact .inr (.inr (.inl (ht.mono e)))
  .exact .inr (.inr (.inr #[x1,x2,T2,l1,l2,rfl,rfl,h1.mono λb hb=>e b (abt _ hb),h2.mono λb hb=>e b (aaH _ hb),h3]))
variable{K:aag}{F:Hp}{ns:Aar}{vs:Aag}
def mW(h:nE K F vs (ns.map PV.int)):vs=ns.map V.int:=by
 induction ns generalizing vs with
 |nil=>cases h;rfl
 |cons n ns ih=>cases h with
  |cons a r=>cases a;exact congrArg (List.cons _) (ih r)
variable{X:Cx}{k:Nat}{CS:Addr}{fd:abL}{ps:A3}{x y:Str}{p p1 pos pos':Pos}
variable{P:aaC}{w:World}{mg:Aaf}{base:Heap}{ob:B3}{D:Fd}
def yQ(F:Bi P w K mg base Cp k CS fd ps (Ko #[P,w,K,ob] 1 D))
  (h:∀(ns:Aar) (x:PV),ns.length<=63->(x=.Cq ns\/x=.lst (ns.map .int))->D [x] λr=>r=.bl true):Bi P w K mg base Cp k CS fd ps (Pre.G8 K):=by
 refine F.imp λvs H Q E q=>?_;obtain⟨a,ns,rfl,hs,hn,kq⟩:=q;have fin:∀x,(x=.Cq ns\/x=.lst (ns.map .int))->Rep K H (.ref a) x->Ko #[P,w,K,ob] 1 D [.ref a] H Q E:=λx hx r=>#[H,[x],_,ai,.cons r .nil,rfl,h ns x hn hx,λr v F' H' e _ _ _ _ rv=>by subst e;cases rv;exact kq H']
 rcases hs with (hs|⟨o,hs⟩)|hs
 .exact fin _ (.inr rfl) (.lst hs (dE ns))
 .exact fin _ (.inl rfl) (.Cq (.inl #[o,hs]))
 .exact fin _ (.inl rfl) (.Cq (.inr hs))
variable{M:Md}{Z:Zn}{U:L2.St}{env:En}{p:Addr}{o:HO}
def yb:∀b∈Z.S,upd Z.H0 p o b≠none:=λb hb=>by
 by_cases e:b=p
 .subst e;rw[ah];simp
 .rw[aj e];exact Z.sS b hb
noncomputable def Zn.add(Z:Zn)(p:Addr)(o:HO):Zn:={Z with H0:=upd Z.H0 p o,sS:=yb}
def rW.guard(K:rW M Z F U H env)(hp:H p=none):rW M (Z.add p o) F U (upd H p o) env:=by
 have hF  := dO.none_of K.sF hp;have h0  := K.h0 hp;obtain⟨fp,L⟩:=K.sl;have hn  := λi h=>(L.al i p h).1 hp;obtain⟨K1,L1⟩:=K.Dk L hF h0 hn;have ne  := λ{c} h q=>by show upd Z.H0 p o c=none;rw[aj q];exact h
 refine#[K1.sF,λb u h1 h2=>?_,λb h=>?_,K1.gr,λa h=>?_,K1.len,fp,λi s e=>?_,L1.al,L1.dj,L1.oa]
 .by_cases q:b=p
  .subst q;have h1:upd Z.H0 b o b=some u:=h1;rw[ah]at h1 ⊢;exact h1
  .have h1:upd Z.H0 p o b=some u:=h1;rw[aj q]at h1;exact K1.sG b u h1 h2
 .by_cases q:b=p
  .subst q;rw[ah];simp
  .have h:upd Z.H0 p o b≠none:=h;rw[aj q]at h;exact K1.pr b h
 .rcases K1.nw a h with q|q
  .exact .inl q
  .refine .inr (ne q λz=>?_);subst z;exact h hF
 .obtain⟨v,hv,ok⟩:=L1.at' i s e;refine#[v,hv,?_];rcases ok with k|⟨k,a,e1,e2,h1,h2⟩|⟨k,a,e1,h1,h2⟩|k
  .exact .inl k
  .exact .inr (.inl #[k,a,e1,e2,ne h1 λz=>hn i #[1],h2])
  .exact .inr (.inr (.inl #[k,a,e1,λc hc=>(h1 c hc).elim .inl λq=>.inr (ne q λz=>hn i #[1]),h2]))
  .exact .inr (.inr (.inr k))
def rW.Il(K:rW M (Z.add p o) F U H env)(h0:Z.H0 p=none)(OC:Z.F0 p=none):rW M Z F U H env/\H p=some o/\F p=none/\∃fp,Slots M Z F U H env fp/\∀i s,env[i]?=some (some s)->p∉fp i:=by
 have hS  := λh=>Z.sS p h h0;have Yq:(Z.add p o).H0 p=some o:=ah;have back:∀{c:Addr},(Z.add p o).H0 c=none->Z.H0 c=none/\c≠p:=λ{c} h=>by
  have h:upd Z.H0 p o c=none:=h;by_cases q:c=p
  .subst q;rw[ah]at h;cases h
  .rw[aj q]at h;exact#[h,q]
 have hF:F p=none:=by
  cases e:F p with
  |none=>rfl
  |some u=>
   rcases K.nw p #[1]with q|q
   .exact absurd OC q
   .exact absurd rfl (back q).2
 obtain⟨fp,L⟩:=K.sl;have S:Slots M Z F U H env fp:=by
  refine#[λi s e=>?_,L.al,L.dj,L.oa];obtain⟨v,hv,ok⟩:=L.at' i s e;refine#[v,hv,?_];rcases ok with k|⟨k,a,e1,e2,h1,h2⟩|⟨k,a,e1,h1,h2⟩|k
  .exact .inl k
  .exact .inr (.inl #[k,a,e1,e2,(back h1).1,h2])
  .exact .inr (.inr (.inl #[k,a,e1,λc hc=>(h1 c hc).elim .inl λq=>.inr (back q).1,h2]))
  .exact .inr (.inr (.inr k))
 have up:∀{b:Addr} {u:HO},Z.H0 b=some u->(Z.add p o).H0 b=some u:=λ{b u} h=>by show upd Z.H0 p o b=some u;rw[aj (av h h0)];exact h
 refine#[#[K.sF,λb u h1 h2=>K.sG b u (up h1) h2,λb h=>?_,K.gr,λa h=>?_,K.len,fp,S],K.sG p o Yq hS,hF,fp,S,λi s e hi=>?_]
 .obtain⟨u,hu⟩:=cz h;exact K.pr b #[1]
 .rcases K.nw a h with q|q
  .exact .inl q
  .exact .inr (back q).1
 .obtain⟨v,hv,ok⟩:=L.at' i s e;rcases ok.wr p hi with q|q
  .exact hS q
  .exact(back q).2 rfl
noncomputable def tidy(env:En)(fp:Nat->List Addr)(i:Nat):Aaj:=match env[i]? with
 |some (some _)=>fp i
 |_=>[]
variable{fp:Nat->List Addr}
def Slots.tidy(L:Slots M Z F U H env fp):Slots M Z F U H env (Q.tidy env fp):=by
 have sub:∀i a,a∈Q.tidy env fp i->a∈fp i:=λi a h=>by
  unfold Q.tidy at h;split at h
  .exact h
  .simp at h
 refine#[λi s e=>?_,λi a h=>L.al i a (sub i a h),λi j a EI h z=>L.dj i j a EI (sub i a h) (sub j a z),L.oa];obtain⟨v,hv,ok⟩:=L.at' i s e;exact#[v,hv,by unfold Q.tidy;rw[e];exact ok]
def rW.Jz{o':HO}{x:PV}(K:rW M (Z.add p o) F U H env)(h0:Z.H0 p=none)(OC:Z.F0 p=none)(hx:CG M F (upd H p o') p x):rW M Z F (U++[some (.ref p)]) (upd H p o') (env++[some #[1,x]]):=by
 obtain⟨K1,hp,hF,fp,L,hn⟩:=K.Il h0 OC;have L1:=L.tidy;have Ou:∀i,p∉Q.tidy env fp i:=λi h=>by
  unfold Q.tidy at h;split at h
  .rename_i s e;exact hn i s e h
  .simp at h
 obtain⟨K2,L2⟩:=K1.Dk L1 hF h0 Ou;refine K2.slots (by simp[K2.len]) (L2.push #[0] K2.len (.inr (.inl #[rfl,p,rfl,rfl,h0,hx])) (λa ha=>?_) λj a ha=>?_)
 .simp at ha;subst ha;exact#[by rw[ah];simp,hF]
 .simp at ha;subst ha;exact Ou j
noncomputable def DT:List (Key×PV)->List (Key×PV):=λgE=>gE.foldl (λacc kv=>EM acc kv.1 kv.2) []
def Va:List (WE×WE)->List (Key×PV)->WE
 |[],acc=>λenv P=>P (.Bp (DT acc)) env
 |(fk,fv)::r,acc=>λenv P=>fk env λy e1=>fv e1 λv e2=>opt (Fi y) λk=>Va r (acc++[(k,v)]) e2 P
def Mh(l:List (WE×WE)):WE:=Va l []
inductive FQ (ob:B3) (X:Cx):List (Option Expr)->List Expr->List (WE×WE)->Prop where
 |nil:FQ ob X [] [] []
 |cons {k v:Expr} {ks:List (Option Expr)} {vs:Aai} {fk fv:WE} {l:List (WE×WE)}:Bk ob X k fk->Bk ob X v fv->FQ ob X ks vs l->FQ ob X (some k::ks) (v::vs) ((fk,fv)::l)
def gD{more:List (Key×V)}{mx:List (Key×PV)}{acc:List (Key×V)}{ax:List (Key×PV)}(h:A0 K F more mx)(h2:A0 K F acc ax):A0 K F (Dr acc more) (mx.foldl (λacc kv=>EM acc kv.1 kv.2) ax):=by
 induction h using A0.ind generalizing acc ax with
 |nil=>exact h2
 |cons a _ ih=>exact ih (h2.put a)
variable{values:Aai}
def FQ.facts{keys:List (Option Expr)}{l:List (WE×WE)}(h:FQ ob X keys values l):keys.all (·.isSome)=true/\keys.length=values.length:=by
 induction h with
 |nil=>exact#[rfl,rfl]
 |cons _ _ _ ih=>exact#[#[1],#[1]]
def FQ.run{keys:List (Option Expr)}{l:List (WE×WE)}(h:FQ ob X keys values l):∃Im,RF X pos keys values Im/\∀(Z:Zn) (F:Hp) (U:L2.St) (H:Hp) (env:En) (P:Aal) (acc:List (Key×PV)) (va:List (Key×V)) (Q:List (V×V)->Hp->Prop),rW #[14] Z F U H env->A0 X.K F va acc->Va l acc env P ->
  (∀gE vs bY F' H',P (.Bp (DT gE)) bY->dO F F'->rW #[14] Z F' U H' bY->A0 X.K F' (va++vs) gE->vs.length=keys.length->Q (vs.map λkv=>(kV kv.1,kv.2)) H')->Gr Im U H Q:=by
 induction h with
 |nil=>exact#[[],o4,λZ F U H env P acc va Q K ra hf kk=>kk acc [] env F H hf ai K #[1] rfl]
 |cons hk hv _ ih=>obtain⟨tk,Ot,kk⟩:=hk.ex;obtain⟨tv,Np,kv⟩:=hv.ex;obtain⟨Im,T4,kr⟩:=ih;refine#[_,df Ot Np T4,λZ F U H env P acc va Q K ra hf fin=>?_];refine kk Z F U H env _ _ K hf λy e1 y' F1 H1 p1 s1 K1 r1=>kv Z F1 U H1 e1 _ _ K1 p1 λv e2 v' F2 H2 p2 s2 K2 r2=>?_;obtain⟨k,hk,p2⟩:=p2;have hy:=eR hk (r1.mono s2);subst hy;refine kr Z F2 U H2 e2 P _ _ _ K2 ((ra.mono (af s1 s2)).app (.cons r2 .nil)) p2 λgE vs e3 F3 H3 p3 s3 K3 r3 hl=>?_;exact fin gE _ e3 F3 H3 p3 (af s1 (af s2 s3)) K3 (by simpa using r3) #[1]
theorem xB{keys:List (Option Expr)}{l:List (WE×WE)}(h:FQ ob X keys values l)(h0:autoParam (keys≠[]) B')(Rj:autoParam (keys.length<=15) on):EY ob X (.Dict keys values pos) (Mh l):=by obtain⟨Im,T4,kr⟩:=h.run;obtain⟨ha,hl⟩:=h.facts;refine#[_,o8 T4 ha hl h0 Rj,λZ F U H env P Q K hf kk p hp=>?_];refine kr _ F U _ env P [] [] _ (K.guard hp) .nil hf λgE vs e1 F1 H1 p1 s1 K1 r1 hl1=>?_;have h0  := K.h0 hp;have OC  := dO.none_of K.gr (dO.none_of K.sF hp);have hS:=(K1.Il h0 OC).2.1;refine#[hS,vs,rfl,#[],kk _ e1 _ F1 _ p1 s1 (λ_=>#[0]) (K1.Jz h0 OC #[_,ah,gD #[1] .nil])]
def xA:EY ob X (.Dict [] [] pos) (eC (.Bp [])) :=
 #[_,ug,λZ F U H env P Q K hf kk p hp=>kk _ env _ F _ hf ai (λ_=>#[0]) (K.own hp #[[],ah,.nil])]
def oU(i:Nat):WS:=λP env=>P.nx (env.set i (some #[1,.set []]))
noncomputable def ED(S:A3)(k:Str):A3:=if k∈S then S else S++[k]
noncomputable def oV(i:Nat)(a:WE):WS:=λP env=>(match env[i]? with|some (some #[1,.set _])=>True|_=>False)/\a env λx e=>match e[i]?,x with
 |some (some #[1,.set S]),.str k=>S.length<=4000/\P.nx (e.set i (some #[1,.set (ED S k)]))
 |_,_=>False
variable{e:Expr}{f:WE}{p apos Bs BM:Pos}
def sR(i:Nat)(hN:X.N.Nodup)(hi:X.N[i]?=some x)(hx:Loc X.env.scope x)(hm:X.mg "set" = none)(hg:autoParam (Gl X "set") At)(hs:autoParam (ab3 (.Call (.Name "set" p) [] [] pos) (some (.Name x pos')) BM.line X.env=pure false) At)(hf:autoParam (X.fn x=true\/X.env.scope.names.lookup x=some .local) ge):
  EX ob X (.Assign [.Name x pos'] (.Call (.Name "set" p) [] [] pos) BM) (oU i):=by
 refine#[_,bp hN hi hx (qh tF hg hm boot_set) hs hf,λZ F U H env P D K hf L=>#[rfl,λq hq=>L.nx _ _ F _ hf ai ?_]];exact(K.own hq (by show upd H q _ q=_;rw[ah];simp)).take
theorem sT(i:Nat)(ho:PE X (.Name x p) (Bw i))(ha:Bk ob X e f)
  (BI:autoParam (abT (.Name x p) "add" X.env (eval (.Name x p) X.env)=eval (.Name x p) X.env) At)
  (Fl:autoParam (((backTo Bs (aal [e] X.env)).all (λx=>!x.1) && (afi Bs (adX [] X.env)).all (λx=>x.1.isSome)
   && decide ([e].length+([]:List adv).length+(if ([]:List adv).isEmpty then 0 else 1)<30))=true) At)
  (BH:autoParam ((apos.endLine==Bs.line)=true) At) (EZ:autoParam (aal [e] X.env=(false,eval e X.env)::aal [] X.env) At) (C4:autoParam ((backTo Bs (aal [] X.env)).any (·.1)=false) At)
  (hs:autoParam (ab3 (.Call (.Attribute (.Name x p) "add" apos) [e] [] Bs) none BM.line X.env=pure false) At) :
  EX ob X (.Expr (.Call (.Attribute (.Name x p) "add" apos) [e] [] Bs) BM) (oV i f):=by
 obtain⟨t,ht,k⟩:=ha.ex;refine#[_,j5 (rJ ho (aD ht aQ EZ) BI Fl BH EZ C4) hs,λZ F U H env P D K hf L=>?_];obtain⟨h0,hf⟩:=hf;obtain⟨a,S0,hg,ha⟩:∃(a:Addr) (S0:A3),U[i]?=some (some (.ref a))/\H a=some (FI X.prog X.w a (λs=>decide (s∈S0)) S0.length):=by
  split at h0
  .rename_i S e;obtain⟨a,h1,h2⟩:=K.ownAt (.inl rfl) e;exact#[a,S,h1,h2]
  .exact h0.elim
 refine#[_,hg,a,_,_,rfl,ha,k Z F U H env _ _ K hf λy e1 y' F1 H1 p1 s1 K1 r1=>?_];split at p1
 .rename_i S kk es;obtain⟨a',h1,h2⟩:=K1.ownAt (.inl rfl) es;rw[hg]at h1;cases h1;cases r1;have h2:H1 a=some (FI X.prog X.w a (λs=>decide (s∈S)) S.length):=h2;refine#[kk,_,_,rfl,h2,by have:=p1.1;unfold scanBound;omega,L.nx _ _ F1 _ p1.2 s1 (K1.write (.inl rfl) es hg ?_)];show upd H1 a _ a=some _;rw[ah];unfold ED;by_cases hm:kk∈S
  .rw[if_pos hm];have:(λk'=>decide (k'∈S) || decide (k'=kk))=λs=>decide (s∈S):=by
    funext k';by_cases q:k'=kk
    .subst q;simp[hm]
    .simp[q]
   simp only[this,hm,decide_true,if_true]
  .rw[if_neg hm];have:(λk'=>decide (k'∈S) || decide (k'=kk))=λs=>decide (s∈S++[kk]):=by funext k';simp[Bool.decide_or]
   simp only[this,hm,decide_false,abA,if_false,aan,adf]
 .exact p1.elim
noncomputable def Fe(env:En):En:=env.map λo=>match o with
 |some #[0,x]=>some #[0,x]
 |_=>none
noncomputable def G1(F H:Hp):Zn:=#[H,F,[],λ_=>none,λ_ h=>by simp at h]
variable{F':Hp}{bY:En}
def rW.pure(K:rW M Z F U H env):rW M (G1 F H) F U H (Fe env):=by
 refine#[K.sF,λb o h _=>h,λb h=>h,ai,λa h=>.inl h,by simp[Fe,K.len],λ_=>[],λi s e=>?_,λi a h=>#[1],λi j a _ h=>#[1],λi a s h=>by cases h];unfold Fe at e;rw[aaj]at e;cases ei:env[i]? with
 |none=>rw[ei]at e;cases e
 |some o=>
  rw[ei]at e;have e:=aar e;dsimp only at e;split at e
  .cases e;obtain⟨v,hv,r⟩:=K.val ei;exact#[v,hv,.inl #[rfl,rfl,r]]
  .cases e
def rW.Jy(K:rW M Z F U H env)(K':rW M (G1 F H) F' U H' bY):rW M Z F' U H' env/\dO H H'/\∀fp,Slots M Z F U H env fp->Slots M Z F' U H' env fp:=by have sH  := λb o h=>K'.sG b o h (by simp[G1]);have nw  := K'.nw;exact#[K.move K'.gr K'.sF sH nw,sH,λfp L=>L.move K'.gr (λ_ c o _ e=>sH c o e) nw]
def jX(i:Nat)(it:WA):WS:=λP env=>it env λxs e=>∃ks,xs.mapM Fi=some ks/\ks.Nodup/\ks.length<=1000/\P.nx (e.set i (some #[4,.Bp (ks.map λk=>(k,.lst []))]))
noncomputable def F9(gE:List (Key×PV))(k:Key):Option (Aab):=match Ct gE k with
 |some (.lst xs)=>some xs
 |_=>none
noncomputable def Gj(gE:List (Key×PV))(k:Key)(xs:Aab):List (Key×PV):=gE.map λkv=>if kv.1=k then (k,.lst xs)else kv
noncomputable def eI(i:Nat)(fk fv:WE):WS:=λP env=>match env[i]? with
 |some (some #[4,.Bp gE])=>(gE.map (·.1)).Nodup/\fk (Fe env) λy _=>opt (Fi y) λk=>opt (F9 gE k) λxs=>fv (Fe env) λv _=>xs.length<=100000/\P.nx (env.set i (some #[4,.Bp (Gj gE k (xs++[v]))]))
 |_=>False
noncomputable def jW(i:Nat):WS:=λP env=>match env[i]? with
 |some (some #[4,x])=>P.ro x i env
 |_=>False
variable{O:Type}
def nq{w:Type}{f:O->Option w}{l:List O}{m:List w}(h:l.mapM f=some m)(i:Nat)(b:w)(hb:m[i]?=some b):∃a,l[i]?=some a/\f a=some b:=by
 obtain⟨hl,h2⟩:=aH h;have hi:i<l.length:=by
  rw[<- hl];rcases aaS i m.length with q|q
  .exact q
  .rw[aam q]at hb;cases hb
 obtain⟨b',e1,e2⟩:=h2 i l[i] #[0];rw[hb]at e1;cases e1;exact#[l[i],#[0],e2]
variable{v:V}
def t7{gE:List (Key×V)}{k:Key}(h:k∉gE.map (·.1)):putK gE k v=gE++[(k,v)]:=by unfold putK;rw[if_neg];intro z;obtain⟨p,hp,e⟩:=List.any_eq_true.mp z;exact h (List.mem_map.mpr #[p,hp,of_decide_eq_true e])
variable{iter:Expr}{scope:Scope}{p2 p3:Pos}{fi:WA}{t:Str}
variable{py:Pos}
theorem sV(i:Nat)(hN:X.N.Nodup)(hy:X.N[i]?=some y)(hl:X.env.scope.names.lookup y=some .local)(hi:GW (Ee X.K) X (.Name t p1) iter fi)(hg:∀C s0 H0 ex pn,PG (lT X scope [t] C s0 H0 ex pn) (.Name t p1) (By 0))(hk:∀C s0 H0 ex pn,PE (lT X scope [t] C s0 H0 ex pn) (.Name t p2) (Bw 0))
  (JZ:autoParam (ab3 (.DictComp (.Name t p2) (.List [] p3) [#[.Name t p1,iter,[],0]] scope pos) (some (.Name y py)) BM.line X.env=pure true) At)
  (hc:autoParam (X.calm=true) At) (hx:autoParam (X.xe=(λ_ _=>False)) At) (C3:autoParam (Dm X.env scope=true) At) (Bq:autoParam (Ce X.N scope [t] [none]=true) At) (Bg:autoParam (scope.kind=.function) At) (hs:autoParam (∀x,aaB iter X.env x=pure x) AT) :
  EX (Ee X.K) X (.Assign [.Name y py] (.DictComp (.Name t p2) (.List [] p3) [#[.Name t p1,iter,[],0]] scope pos) BM) (jX i fi):=by
 obtain⟨wi,IW,k⟩:=hi.ex;refine#[_,Au (i:=i) (wi:=wi) (g:=By 0) (tc:=MC) (tk:=Bw 0) (te:=Pq MF) (N:=[t]) (js:=[none]) hN hy hl IW hg (λC s0 H0 ex pn=>rH) hk (λC s0 H0 ex pn=>m6 aQ) kH JZ hc hx C3 Bq Bg hs,λZ F U H env P D K hf L=>?_];refine k Z F U H env _ _ K hf λxs e1 J F1 H1 pp s1 K1 I1 l hl=>?_;obtain⟨ks,Hy,Sj,hlen,pp⟩:=pp;obtain⟨Wx,_⟩:=aH Hy;obtain⟨fp,L1⟩:=K1.sl;have Ur:Z.H0 l=none:=K1.h0 hl;refine#[λj m ys H'=>m=xs.length - j/\j<=xs.length/\∃(as:Aaj) (F':Hp),dO F1 F'/\as.length=j/\ys=((ks.take j).zip as).map (λt=>(t.1,V.ref t.2))/\H' l=some (.dK ys)/\as.Nodup/\(∀a∈as,H' a=some (.lst [])/\(Z.H0 a=none/\∀i,a∉fp i)/\F' a=none/\a≠l) /\
   rW (md (Ee X.K) X) Z F' U H' e1/\Slots (md (Ee X.K) X) Z F' U H' e1 fp/\F' l=none,?_,?_]
 .have hF:F1 l=none:=dO.none_of K1.sF hl;have hn:∀i,l∉fp i:=λi h=>(L1.al i l h).1 hl;obtain⟨K2,L2⟩:=K1.Dk (o:=.dK []) L1 hF Ur hn;exact#[_,rfl,abg _,[],F1,ai,rfl,#[0],ah,#[0],λa h=>by simp at h,K2,L2,hF]
 rintro j m ys H' ⟨rfl,hj,as,F',sF,Ra,rfl,Ov,hand,has,K',L',Rc⟩;by_cases BU:j<xs.length
 .have Wz:j<ks.length:=by omega
  obtain⟨h1,h2⟩:=I1.go Z j U e1 F' H' xs[j] sF K' (by simp[BU]);refine .inr #[h1,λv H3 yv=>?_];obtain⟨F3,s3,K3,r3,sH,nw⟩:=h2 v H3 yv;obtain⟨a0,ea,ek⟩:=nq Hy j ks[j] (by simp[Wz]);rw[aab BU]at ea;cases ea;have hv:=eR ek r3;subst hv;have L3:Slots (md (Ee X.K) X) Z F3 U H3 e1 fp:=L'.move s3 (λ_ c o _ e=>sH c o e) nw;unfold By MC;dsimp only;rw[if_pos rfl];refine#[_,rfl,abg _,λq hq=>#[ks[j],rfl,?_]];have Ul:l≠q:=av (sH _ _ Ov) hq;have Jb:(upd H3 q (.lst [])) l=some (.dK (((ks.take j).zip as).map λt=>(t.1,V.ref t.2))):=by rw[aj Ul];exact sH _ _ Ov
  have TN:(((ks.take j).zip as).map λt=>((t.1:Key),V.ref t.2)).length=j:=by simp[Ra];omega
  have nF:∀{b:Addr},F' b=none->H' b≠none->F3 b=none:=λ{b} q1 q2=>by
   cases e:F3 b with
   |none=>rfl
   |some o=>
    rcases nw b (by rw[e];simp)with z|z
    .exact absurd q1 z
    .exact absurd z q2
  have Rg:F3 l=none:=nF Rc (by rw[Ov];simp);have Rf:F3 q=none:=dO.none_of K3.sF hq;have Ws:∀i,q∉fp i:=λi h=>(L3.al i q h).1 hq;obtain⟨K4,L4⟩:=K3.Dk (o:=.lst []) L3 Rf (K3.h0 hq) Ws;have Ui:∀i,l∉fp i:=λi h=>(L1.al i l h).1 hl;have U5:putK (((ks.take j).zip as).map λt=>((t.1:Key),V.ref t.2)) ks[j] (.ref q)=((ks.take (j+1)).zip (as++[q])).map λt=>(t.1,V.ref t.2):=by
   rw[t7,abC,aab Wz]
   .rw[List.zip_append (by simp[Ra];omega)];simp
   .intro z;rw[aax]at z;obtain⟨⟨kk,aa⟩,hm,e⟩:=List.mem_map.mp z;have Uk:=(ac0 hm).1;have e:kk=ks[j]:=e;subst e;obtain⟨n,hn,en⟩:=List.mem_take_iff_getElem.mp Uk;have:=(abk Sj).mp en;omega
  obtain⟨K5,L5⟩:=K4.Dk L4 Rg Ur Ui;refine#[Jb,by rw[TN,aaJ];omega,xs.length - (j+1),#[],rfl,BU,as++[q],F3,af sF s3,by simp[Ra],U5,ah,?_,λa ha=>?_,K5,L5,Rg]
  .rw[abH];refine#[hand,#[0],λa ha b hb z=>?_];simp at hb;subst hb;subst z;have:=sH _ _ (has a ha).1;rw[hq]at this;cases this
  .rcases List.mem_append.mp ha with ha|ha
   .obtain⟨q1,q2,q3,q4⟩:=has a ha;have:a≠q:=av (sH _ _ q1) hq;exact#[by rw[aj q4,aj this];exact sH _ _ q1,q2,nF q3 (by rw[q1];simp),q4]
   .simp at ha;subst ha;exact#[by rw[aj Ul.symm];exact ah,#[K3.h0 hq,Ws],Rf,Ul.symm]
 .have e:j=xs.length:=by omega
  subst e;refine .inl #[I1.stop Z _ U e1 F' H' sF K' (aai _),L.nx _ _ F' H' pp (af s1 sF) ?_];have Ui:∀i,l∉fp i:=λi h=>(L1.al i l h).1 hl;rcases aaS i e1.length with Nv|HS;case inr=>rw[abv HS,abv (by have:=K'.len;omega)];exact K'
  have ht:ks.take xs.length=ks:=ac7 #[];rw[ht]at Ov;refine K'.slots (by simp[K'.len]) (L'.put (l:=l::as) #[0] (by have:=K'.len;omega) (.inr (.inr (.inl #[.inr rfl,l,rfl,λc hc=>.inr ?_,.inr (.inl #[(ks.zip as).map λt=>(t.1,t.2,[]),?_,?_,?_,?_,?_])]))) (λc hc=>?_) λj c _ hc=>?_)
  .rcases List.mem_cons.mp hc with rfl|hc
   .exact Ur
   .exact(has c hc).2.1.1
  .rw[aax];have:(ks.map λk=>((k:Key),PV.lst []))=(ks.zip as).map ((λt:Key×Addr×List PV=>(t.1,PV.lst t.2.2)) ∘ λt=>(t.1,t.2,[])):=by have e1:(λt:Key×Addr×List PV=>(t.1,PV.lst t.2.2)) ∘ (λt:Key×Addr=>(t.1,t.2,[]))=(λk=>((k:Key),PV.lst [])) ∘ Prod.fst:=rfl;rw[e1,<- aax,List.map_fst_zip #[]]
   rw[this]
  .rw[aax];have e1:(λt:Key×Addr×List PV=>t.2.1) ∘ (λt:Key×Addr=>(t.1,t.2,[]))=Prod.snd:=rfl;rw[e1,List.map_snd_zip #[]]
  .rw[aax];exact Ov
  .rw[aax];have e1:(λt:Key×Addr×List PV=>t.2.1) ∘ (λt:Key×Addr=>(t.1,t.2,[]))=Prod.snd:=rfl;rw[e1,List.map_snd_zip #[]];exact hand
  .intro t ht;obtain⟨⟨kk,aa⟩,hm,rfl⟩:=List.mem_map.mp ht;exact#[[],(has aa (ac0 hm).2).1,.nil]
  .rcases List.mem_cons.mp hc with rfl|hc
   .exact#[by rw[Ov];simp,Rc]
   .exact#[by rw[(has c hc).1];simp,(has c hc).2.2.1]
  .rcases List.mem_cons.mp hc with rfl|hc
   .exact Ui j
   .exact(has c hc).2.1.2 j
variable{px:Pos}
theorem sW(i:Nat){ke:Expr}{fk fv:WE}{ps:Pos}(hu:X.A.units+1<cLine)(ho:PE X (.Name x px) (Bw i))(hk:Bk (Ee X.K) X ke fk)(hv:Bk (Ee X.K) X e fv)(L9:autoParam (Lu ke) Ch)
  (BI:autoParam (abT (.Subscript (.Name x px) ke ps) "append" X.env (eval (.Subscript (.Name x px) ke ps) X.env)=eval (.Subscript (.Name x px) ke ps) X.env) At)
  (Fl:autoParam (((backTo Bs (aal [e] X.env)).all (λx=>!x.1) && (afi Bs (adX [] X.env)).all (λx=>x.1.isSome)
   && decide ([e].length+([]:List adv).length+(if ([]:List adv).isEmpty then 0 else 1)<30))=true) At)
  (BH:autoParam ((apos.endLine==Bs.line)=true) At) (EZ:autoParam (aal [e] X.env=(false,eval e X.env)::aal [] X.env) At) (C4:autoParam ((backTo Bs (aal [] X.env)).any (·.1)=false) At)
  (hs:autoParam (ab3 (.Call (.Attribute (.Subscript (.Name x px) ke ps) "append" apos) [e] [] Bs) none BM.line X.env=pure false) At) :
  EX (Ee X.K) X (.Expr (.Call (.Attribute (.Subscript (.Name x px) ke ps) "append" apos) [e] [] Bs) BM) (eI i fk fv):=by
 obtain⟨tk,Ot,kk⟩:=hk.ex;obtain⟨tv,Np,kv⟩:=hv.ex;refine#[_,j5 (qi acY PySem.F.slot_list_append PySem.F.type_list_append dF (wz hu ho Ot L9) (aD Np aQ EZ) BI Fl BH EZ C4) hs,λZ F U H env P D K hf L=>?_];unfold eI at hf;split at hf;case h_2=>exact hf.elim
 rename_i gE ei;obtain⟨Sj,hf⟩:=hf;obtain⟨fp,L0⟩:=K.sl;obtain⟨w,hw,ok⟩:=L0.at' i _ ei;obtain⟨a,rfl,hd⟩:∃a,w=.ref a/\Mt X.K F H a (fp i) (.Bp gE):=by
  rcases ok with ⟨k0,_⟩|⟨k0,_⟩|⟨_,a,e,_,h⟩|⟨k0,_⟩
  .cases k0
  .cases k0
  .rcases h with (⟨h,_⟩|⟨_,_,h,_⟩)|h|⟨_,_,_,_,h,_⟩|⟨_,_,_,_,_,h,_⟩
   .cases h
   .cases h
   .exact#[a,e,h]
   .cases h
   .cases h
  .cases k0
 refine#[_,hw,kk (G1 F H) F U H (Fe env) _ _ K.pure hf λy e1 y' F1 H1 p1 s1 K1 r1=>?_];obtain⟨K2,PM,Y5⟩:=K.Jy K1;obtain⟨k,ET,xs,Sb,p1⟩:=p1;have hy:=eR ET r1;subst hy;obtain⟨ks,Rt,e2,e3,e4,e5⟩:=hd;cases Rt;have Lh:∃t∈ks,t.1=k/\t.2.2=xs:=by
  unfold F9 at Sb;split at Sb
  .rename_i zs hz;cases Sb;unfold Ct at hz;rw[aas]at hz;obtain⟨kv,hf,hv⟩:=hz;have hm:=afP hf;have hp:=List.find?_some hf;obtain⟨t,ht,rfl⟩:=List.mem_map.mp hm;exact#[t,ht,of_decide_eq_true hp,by injection hv]
  .cases Sb
 obtain⟨t,ht,rfl,rfl⟩:=Lh;have Hy:(ks.map (·.1)).Nodup:=by rw[aax]at Sj;exact Sj
 have inj:∀t'∈ks,t'.1=t.1->t'=t:=λt' h' e=>by obtain⟨n,hn,rfl⟩:=List.mem_iff_getElem.mp ht;obtain⟨n',Jo,rfl⟩:=List.mem_iff_getElem.mp h';have:n'=n:=(abk (h₀:=by simpa using Jo) (h₁:=by simpa using hn) Hy).mp (by simpa using e);subst this;rfl
 have TZ:CO (ks.map λt=>(t.1,V.ref t.2.1)) t.1=some (.ref t.2.1):=by
  unfold CO;rw[aas];cases hf:(ks.map λt=>(t.1,V.ref t.2.1)).find? λkv=>decide (kv.1=t.1)with
  |none=>have:=List.find?_eq_none.mp hf (t.1,V.ref t.2.1) (List.mem_map.mpr #[t,ht,rfl]);simp at this
  |some q=>have hm:=afP hf;have hp:=List.find?_some hf;obtain⟨t',KZ,rfl⟩:=List.mem_map.mp hm;have:=inj t' KZ (of_decide_eq_true hp);subst this;exact#[_,rfl,rfl]
 obtain⟨Pd,FD,V3⟩:=e5 t ht;refine#[a,.ref t.2.1,rfl,by rw[<- TZ];exact R6 (PM _ _ e3),.inl #[rfl,Pd,.inl (.inl (PM _ _ FD))],?_];refine kv (G1 F1 H1) F1 U H1 (Fe env) _ _ K2.pure p1 λv e2' v' F2 H2 p2 s2 K3 r2=>?_;obtain⟨K4,S5,Y4⟩:=K2.Jy K3;have L4:=Y4 fp (Y5 fp L0);have Ye:=S5 _ _ (PM _ _ FD);have Of:=af s1 s2;refine#[t.2.1,Pd,v',rfl,rfl,Ye,by rw[V3.len,aaJ];have:=p2.1;omega,L.nx _ _ F2 _ p2.2 Of ?_];have GD:t.2.1∈fp i:=by rw[e2];exact aaq _ (abo (f:=λt=>t.2.1) ht)
 have Tq:t.2.1≠a:=vD FD e3 (by intro z;cases z);refine(K4.M6 (.inr rfl) L4 ei hw (l':=fp i) (F':=F2) (λb o h1 h2=>?_) (λb h=>?_) ai (λb o h=>?_) (λb h=>.inl h) (.inr (.inl #[ks.map λt'=>if t'.1=t.1 then (t.1,t.2.1,t.2.2++[v])else t',?_,?_,?_,?_,?_])) (λb hb=>?_) (λb hb=>.inl hb)).1
 .rw[aj λz:b=t.2.1=>h2 (by rw[z];exact GD)];exact h1
 .by_cases q:b=t.2.1
  .subst q;rw[ah];simp
  .rw[aj q];exact h
 .have:b≠t.2.1:=av h (L4.al i _ GD).2;rw[aj this];exact K4.sF b o h
 .unfold Gj;rw[aax,aax];congr 1;apply abD;intro t' _;show (if t'.1=t.1 then (t.1,PV.lst (t.2.2++[v]))else (t'.1,PV.lst t'.2.2))=((if t'.1=t.1 then (t.1,t.2.1,t.2.2++[v])else t').1,PV.lst (if t'.1=t.1 then (t.1,t.2.1,t.2.2++[v])else t').2.2)
  split<;>rfl
 .rw[e2,aax];congr 1;apply abD;intro t' h';show t'.2.1=(if t'.1=t.1 then (t.1,t.2.1,t.2.2++[v])else t').2.1;split
  .rename_i q;rw[inj t' h' q]
  .rfl
 .rw[aj Tq.symm,S5 _ _ (PM _ _ e3),aax];congr 2;apply abD;intro t' h';show (t'.1,V.ref t'.2.1)=((if t'.1=t.1 then (t.1,t.2.1,t.2.2++[v])else t').1,V.ref (if t'.1=t.1 then (t.1,t.2.1,t.2.2++[v])else t').2.1)
  split
  .rename_i q;rw[inj t' h' q]
  .rfl
 .rw[aax];have:(ks.map ((λt=>t.2.1) ∘ λt'=>if t'.1=t.1 then (t.1,t.2.1,t.2.2++[v])else t'))=ks.map λt=>t.2.1:=by
   apply abD;intro t' h';show (if t'.1=t.1 then (t.1,t.2.1,t.2.2++[v])else t').2.1=t'.2.1;split
   .rename_i q;rw[inj t' h' q]
   .rfl
  rw[this];exact e4
 .intro q hq;obtain⟨t',h',rfl⟩:=List.mem_map.mp hq;by_cases e:t'.1=t.1
  .rw[if_pos e];exact#[_,ah,(V3.mono Of).app (.cons r2 .nil)]
  .rw[if_neg e];obtain⟨Pe,q1,q2⟩:=e5 t' h';have C5:t'.2.1≠t.2.1:=λz=>by obtain⟨n,hn,rfl⟩:=List.mem_iff_getElem.mp ht;obtain⟨n',Jo,rfl⟩:=List.mem_iff_getElem.mp h';have:n'=n:=(abk (h₀:=by simpa using Jo) (h₁:=by simpa using hn) e4).mp (by simpa using z);subst this;exact e rfl
   exact#[Pe,by rw[aj C5];exact S5 _ _ (PM _ _ q1),q2.mono Of]
 .have:=L4.al i b hb;refine#[?_,this.2];by_cases q:b=t.2.1
  .subst q;rw[ah];simp
  .rw[aj q];exact this.1
def sU(i:Nat)(ho:PE X (.Name x px) (Bw i)):EX ob X (.Return (some (.Name x px)) BM) (jW i):=by
 refine#[_,eN ho,λZ F U H env P D K hf L=>?_];unfold jW at hf;split at hf;case h_2=>exact hf.elim
 rename_i y ei;obtain⟨fp,L0⟩:=K.sl;obtain⟨w,hw,ok⟩:=L0.at' i _ ei;exact#[_,hw,L.ro _ i env w U F H hf ai K ei hw]
noncomputable def Mf(P:Aao):Wd:={nx:=λ_=>P .AZ,rt:=λx _=>P x,ro:=λx _ _=>(∃gE,x=.Bp gE)/\P x}
def LH(n:Nat)(u:WS):Fd:=λxs P=>u (Mf P) (B5 n xs)
variable{qual:Str}{st:Stmt}{N:A3}{u:WS}
theorem zm{f:Addr}(F:Jl K x qual st f fd)(S:au N ps (am st))(hn:ps.length<=N.length)
  (hb:∀(Bu:Value) (A:Around) (outer:List Env) (s:Shared) (H:Hp) (E:XK),BB k (A.deeper (envOfC qual (am st) s.heap.objs.size f Bu))->EG (Ee K) (Ft Cp P w K mg base N qual (am st) f Bu A outer s H E).KN (bd st) u) :
  Bi P w K mg base Cp (k+1) f fd ps (Ko #[P,w,K,Ee K] ps.length (LH N.length u)):=by
 refine F.ok S (λvs H Q E h=>?_) (λBu A outer s H vs Q E hr h=>?_)
 .obtain⟨F,xs,P,_,r,hl,_⟩:=h;rw[r.len];exact hl
 .obtain⟨F,xs,P',sF,r,hl,hD,kk⟩:=h;obtain⟨t,ht,kt⟩:=(hb Bu A outer s H E hr).ex;refine#[t,ht,kt #[H,F,[],λ_=>none,λ_ h=>by simp at h] F (start N vs) H (B5 N.length xs) (Mf P') _ (gi (M:=#[P,w,K,Ee K]) sF r #[]) hD #[λenv U F' H' p s1 K1=>?_,λx env v U F' H' p s1 K1 rv=>?_,λ_ _ _ _ p=>p.elim,λ_ _ _ _ p=>p.elim,λ_ _ _ _ _ _ p=>p.elim,λx i env v U F' H' p s1 K1 ei hv=>?_]]
  .exact kk .AZ .AZ F' H' p (λb o h=>K1.sG b o h #[0]) s1 K1.sF K1.nw .AZ
  .exact kk x v F' H' p (λb o h=>K1.sG b o h #[0]) s1 K1.sF K1.nw rv
  .obtain⟨Oq,p⟩:=p;obtain⟨fp,L⟩:=K1.sl;obtain⟨v',JX,ok⟩:=L.at' i _ ei;rw[hv]at JX;cases JX;rcases ok with ⟨k0,_⟩|⟨k0,_⟩|⟨_,a,rfl,Yd,h⟩|⟨k0,_⟩
   .cases k0
   .cases k0
   .obtain⟨kv0,Oq⟩:=Oq;rcases h with (⟨h,_⟩|⟨_,_,h,_⟩)|⟨ks,rfl,e2,e3,e4,e5⟩|⟨_,_,_,_,h,_⟩|⟨_,_,_,_,_,h,_⟩
    .rw[Oq]at h;cases h
    .rw[Oq]at h;cases h
    rotate_left
    .rw[Oq]at h;cases h
    .rw[Oq]at h;cases h
    .let F2:Hp:=λb=>if b∈fp i then H' b else F' b;have VY:dO F' F2:=λb o hb=>by
      show (if b∈fp i then H' b else F' b)=some o;split
      .exact K1.sF b o hb
      .exact hb
     have at2:∀b,b∈fp i->F2 b=H' b:=λb hb=>if_pos hb;refine kk _ _ F2 H' p (λb o h=>K1.sG b o h #[0]) (af s1 VY) (λb o hb=>?_) (λb hb=>?_) ?_
     .have hb:(if b∈fp i then H' b else F' b)=some o:=hb;split at hb
      .exact hb
      .exact K1.sF b o hb
     .have hb:(if b∈fp i then H' b else F' b)≠none:=hb;split at hb
      .rename_i q;rcases Yd b q with z|z
       .simp at z
       .exact .inr z
      .exact K1.nw b hb
     .have ha:F2 a=some (.dK (ks.map λt=>(t.1,V.ref t.2.1))):=by rw[at2 a (by rw[e2];simp)];exact e3
      refine .Bp ha ?_;have go:∀(l:List (Key×Addr×Aab)),(∀t∈l,t∈ks)->A0 K F2 (l.map λt=>(t.1,V.ref t.2.1)) (l.map λt=>(t.1,PV.lst t.2.2)):=by
       intro l;induction l with
       |nil=>intro _;exact .nil
       |cons t l ih=>intro hs;obtain⟨Pe,q1,q2⟩:=e5 t (hs t #[0]);refine .cons (.lst ?_ (q2.mono VY)) (ih λt' h'=>hs t' (aaq _ h'));rw[at2 _ (by rw[e2];exact aaq _ (abo (f:=λt=>t.2.1) (hs t #[0])))];exact q1
      exact go ks λ_ h=>h
   .cases k0
def D3(ss ts:A3):Prop:=ts.Perm ss/\ts.Pairwise λa b=>¬ Bv b a
noncomputable def Fh:Key->Option Str
 |.inr s=>some s
 |.inl _=>none
noncomputable def Dy(fa:WA):WE:=λenv P=>fa env λxs e=>match xs with
 |[.lst ys]=>∃ss,ys.mapM B7=some ss/\ss.length<64/\∀ts,D3 ss ts->P (.lst (ts.map .str)) e
 |[.Bp gE]=>∃ss,(gE.map (·.1)).mapM Fh=some ss/\ss.length<64/\∀ts,D3 ss ts->P (.lst (ts.map .str)) e
 |_=>False
def bS:∀(ss:A3),nE K F (ss.map V.str) (ss.map PV.str)
 |[]=>.nil
 |s::ss=>.cons (.str s) (bS ss)
def jA:∀{ks:Aas} {ss:A3},ks.mapM Fh=some ss->ks=ss.map aav
 |[],ss,h=>by simp_all
 |k::ks,ss,h=>by
  rw[abh]at h;cases ea:Fh k with
  |none=>rw[ea]at h;cases h
  |some a=>
   rw[ea]at h;cases el:ks.mapM Fh with
   |none=>rw[el]at h;cases h
   |some bs=>rw[el]at h;cases h;rw[jA el];cases k<;>cases ea;rfl
variable{a b c:Expr}{es:Aai}{g h:WE}{fa:WA}
def uV(hc:X.calm=true)(hg:Gl X "sorted")(hm:X.mg "sorted" = none)(ha:GX ob X (e::es) fa)
  (he:autoParam #[8] At) (Cj:autoParam #[11] At):EY ob X (.Call (.Name "sorted" p) (e::es) [] pos) (Dy fa):=by
 obtain⟨t,ht,k⟩:=ha.ex;refine#[_,bi (Bd.or qD (qG hc)) hg hm aew ht #[2] (rfl) he Cj,λZ F U H env P Q K hf kk=>k Z F U H env _ _ K hf λxs e1 vs F1 H1 p s1 K1 r1=>?_];split at p
 .obtain⟨ss,hs,hl,p⟩:=p;obtain⟨v,rfl,r⟩:=r1.one;obtain⟨q,vs,rfl,h1,h2⟩:=r.lst K1.sF;have:=bw eF hs h2;subst this;exact .inl #[q,ss,rfl,.inl (.inl h1),hl,λl ts hn hp hw=>kk _ e1 _ F1 _ (p ts #[hp,hw]) s1 (λ_=>#[0]) (K1.own hn #[_,ah,bS ts])]
 .obtain⟨ss,hs,hl,p⟩:=p;obtain⟨v,rfl,r⟩:=r1.one;obtain⟨q,vs,rfl,h1,h2⟩:=r.Bp K1.sF;refine .inr #[q,vs,ss,rfl,h1,by rw[h2.keys];exact jA hs,hl,λl ts hn hp hw=>kk _ e1 _ F1 _ (p ts #[hp,hw]) s1 (λ_=>#[0]) (K1.own hn #[_,ah,bS ts])]
 .exact p.elim
noncomputable def D5:PV->Option (Key×PV)
 |.tup [.str s,v]=>some (.inr s,v)
 |_=>none
noncomputable def EB:Aab->Option PV
 |[.lst xs]=>if xs.length<=1000 then (xs.mapM D5).map λgE=>.Bp (DT gE)else none
 |_=>none
def JO(K:aag):Aag->Hp->VK->Prop:=λxs H Q=>∃(l:Addr) (ys:Aag) (BL:List (Str×V)),xs=[.ref l]/\H l=some (.lst ys)/\ys.length=BL.length/\BL.length<=1000 /\
  (∀j (hj:j<BL.length),∃p,ys[j]?=some (.ref p)/\Cf K H p [.str BL[j].1,BL[j].2])/\∀d,H d=none->Q (.ref d) (upd H d (.dK (BL.foldl (λgE kv=>putK gE (aav kv.1:Key) kv.2) [])))
theorem xW(hc:X.calm=true):Bd X (.type "dict") (JO X.K):=by
 intro pins s U H xs us Q I r h;obtain⟨l,ys,BL,rfl,hl,hlen,hsz,hp,q⟩:=h;obtain⟨u,rfl,ru⟩:=r.one;cases ru;obtain⟨z,eQ,n,rv,g⟩:=I.Bc l _ hl;have each:∀j,∃vv:Value,∀hj:j<BL.length,∃(p:Addr) (t:Tok),eQ[j]?=some (.ref p)/\s.heap.IsTuple p #v[.str BL[j].1 t,vv]/\RelV BL[j].2 vv:=λj=>by
  by_cases hj:j<BL.length
  .obtain⟨p,ey,hP⟩:=hp j hj;obtain⟨v1,e1,r1⟩:=rv.get ey;cases r1;obtain⟨Xi,Ir,g2,_⟩:=I.tuple hP;cases Ir with
   |cons ra rr=>
    cases rr with
    |cons rb rr=>cases rr;obtain⟨t,rfl⟩:=ra;exact#[_,λ_=>#[p,t,e1,g2,rb]]
  .exact#[.none,λh=>absurd h hj]
 obtain⟨vf,hv⟩:=Classical.skolem.mp each;have Hx:eQ.length=BL.length:=by rw[<- hlen];exact rv.length.symm
 refine jK (knd:=ay X.prog X.w) (items:=eQ.toArray) (n:=n) (λj=>(aav ((BL[j]?.getD (Str.empty,V.AZ)).1):Key)) vf #[3] (I.ok.hd hc) g (λj hj=>?_) λh' tk D kk=>?_
 .have E2:j<BL.length:=by simp at hj;omega
  obtain⟨p,t,e1,g2,_⟩:=hv j E2;refine#[p,.str BL[j].1 t,by simpa using e1,g2,?_];rw[aab E2,ad5];exact dW _ _ _ _
 .have hk:=kD BL vf (λj hj=>(hv j hj).choose_spec.choose_spec.2.2) BL.length (aai _);rw[aa2]at hk;have ez:eQ.toArray.size=BL.length:=by simp;exact Hx
  rw[ez]at D;refine#[.ref s.heap.objs.size,_,I.laid (a:=s.heap.objs.size) (t':=tk) (o:=.dK (BL.foldl (λgE kv=>putK gE (aav kv.1:Key) kv.2) [])) kk (aai _) #[?_,beq_eq_false_iff_ne.mpr (abz (aap I.RA)),_,hk,D],rfl,q _ (I.Bc.fresh (aai _))];refine aaK (nM BL []) ?_;rw[aaJ,abl];omega
def iX:∀{xs:Aab} {vs:Aag} {gE:List (Key×PV)},xs.mapM D5=some gE->nE K F vs xs->∃BL:List (Str×V),BL.length=vs.length/\(∀j (hj:j<BL.length),∃p,vs[j]?=some (.ref p)/\Cf K F p [.str BL[j].1,BL[j].2])/\A0 K F (BL.map λq=>(aav q.1,q.2)) gE
 |[],vs,gE,h,r=>by simp at h;subst h;cases r;exact#[[],rfl,λj hj=>by simp at hj,.nil]
 |x::xs,vs,gE,h,r=>by
  rw[abh]at h;cases ea:D5 x with
  |none=>rw[ea]at h;cases h
  |some a=>
   rw[ea]at h;cases el:xs.mapM D5 with
   |none=>rw[el]at h;cases h
   |some bs=>
    rw[el]at h;cases h;cases r with
    |cons r1 r2=>
     obtain⟨BL,q1,q2,q3⟩:=iX el r2;unfold D5 at ea;split at ea
     .cases ea;cases r1 with
      |tup h1 h2=>
       cases h2 with
       |cons h2 h3=>
        cases h3 with
        |cons h3 h4=>
         cases h4;cases h2;refine#[(_,_)::BL,#[1],λj hj=>?_,.cons h3 q3];cases j with
         |zero=>exact#[_,rfl,h1]
         |succ j=>simpa using q2 j _
     .cases ea
def cI:∀(BL:List (Str×V)) (acc:List (Key×V)),BL.foldl (λgE kv=>putK gE (aav kv.1:Key) kv.2) acc=Dr acc (BL.map λq=>(aav q.1,q.2))
 |[],acc=>rfl
 |q::BL,acc=>by rw[ac2,cI BL];rfl
def xZ:FA ob X (JO X.K) EB:=by
 intro Z F U H env vs xs z Q K rv hz k;unfold EB at hz;split at hz
 .split at hz
  .rename_i hlen;rw[aas]at hz;obtain⟨gE,hk,rfl⟩:=hz;obtain⟨v,rfl,r⟩:=rv.one;obtain⟨q,vs,rfl,h1,h2⟩:=r.lst K.sF;obtain⟨BL,q1,q2,q3⟩:=iX hk h2;refine#[q,vs,BL,rfl,h1,q1.symm,by rw[q1,h2.len];exact hlen,λj hj=>?_,λd hd=>?_]
   .obtain⟨p,e1,e2⟩:=q2 j hj;exact#[p,e1,ap K.sF e2]
   .refine k _ _ (λ_=>#[0]) (K.own hd #[_,ah,?_]);rw[cI];exact gD q3 .nil
  .cases hz
 .cases hz
noncomputable def Hb:PV->Option PV
 |.tup xs=>some (.tup xs.reverse)
 |_=>none
def zC{st:Expr}(he:Bk ob X e f)(EZ:PE X st (SO (rU λi=>.int (-i)) (tC (.int 1)))):Bk ob X (.Subscript e (.Slice none none (some st) p2) pos) (Mg Hb f):=by
 obtain⟨t,ht,k⟩:=he.ex;refine#[_,yt ht EZ,λZ F U H env P Q K hf kk=>k Z F U H env _ _ K hf λx e1 v F1 H1 p s1 K1 r1=>?_];obtain⟨z,hz,p⟩:=p;refine#[1,rfl,rfl,?_];unfold Hb at hz;split at hz
 .cases hz;obtain⟨q,vs,rfl,h1,h2⟩:=(r1.vw (M:=md ob X)).tup K1.sF;refine#[q,vs,rfl,h1,λl hl=>?_];have hF  := dO.none_of K1.sF hl;exact kk _ e1 _ _ _ p (af s1 (ao hF)) (K1.lay hl) (.tup (.inl (.inl ah)) (h2.rev.mono (ao hF)))
 .cases hz
def Av{j}:PE X (.UnaryOp .USub (.Constant (.int 1) j p1) p2) (SO (rU λi=>.int (-i)) (tC (.int 1))):=vA qP az
end Q
namespace L2
open PySem PySem.Spec PyProof.Rows
variable{prog:aaC}{w:World}{A:Around}{E:Aaa}{s:Shared}
variable{j t:Addr}{n:Nat}{eQ:Aak}{x:Value}{Q:Aaa}
def wU(gj:s.heap.IsListIter j t n)(gt:s.heap.IsList t eQ)(gx:eQ[n]?=some x)
  (k:∀h',h'.IsListIter j t (n+1)->ab1 j s.heap h'->Q x {s with heap:=h'}):wpAny #[9] A (aaU (.ref j)) Q E s:=by
 obtain⟨oj,j1,j2,j3⟩:=id gj;obtain⟨ot,t1,_,m,t3⟩:=gt;refine aaa (aa4 gj.typeIs acR (aaT acR gj.typeIs afN ?_ (PySem.args_listiter_next _)));show wpAny _ _ (field _ 0 >>= _) _ _ s;refine aaa (abf j1 j3 rfl ?_);refine aaa (abf j1 j3 rfl ?_);refine aaa (abw t1 t3 ?_);simp only[acI,gx];refine aaa (ab0 j1 j3 #[0] (aae #[x,rfl,aae (k _ #[_,abn _ j1 (acd (aa6 j3 _)),(adb ..).trans j2,?_] (abi ..))]));rw[aa6 j3];simp[rawInt]
def NP(hh:A.handled=none)(gj:s.heap.IsListIter j t n)(gt:s.heap.IsList t eQ)(gx:eQ[n]?=none)
  (k:∀h' e,ad1 j s.heap h'->(∃o,h'.get? e=some o/\o.cls=.type "StopIteration")->E (.ref e) {s with heap:=h'}):wpAny #[9] A (aaU (.ref j)) Q E s:=by
 obtain⟨oj,j1,j2,j3⟩:=id gj;obtain⟨ot,t1,_,m,t3⟩:=gt;refine aaa (aa4 gj.typeIs acR (aaT acR gj.typeIs afN ?_ (PySem.args_listiter_next _)));show wpAny _ _ (field _ 0 >>= _) _ _ s;refine aaa (abf j1 j3 rfl ?_);refine aaa (abf j1 j3 rfl ?_);refine aaa (abw t1 t3 ?_);simp only[acI,gx];refine aaa (act (aaa (ab0 j1 j3 #[0] ?_)));refine aaa (aaa (aaZ (aaa (afl (rfl) (aaZ ?_ (by size_fits)))) (by size_fits)));refine aaa (wpAny_handled ?_)
 first|rw[hh]|rw[hh]
 exact aaa (aae (wpAny_throw (k _ _ (((abi ..).extBut.push _).push _) #[_,aaf _ rfl,rfl])))
structure Z7(h:Heap)(z u o i1 i2 t1 t2:Addr)(n:Nat):Prop where
 zz:IsZip h z u o .none
 uu:IsPair h u (.ref i1) (.ref i2)
 oo:∃a b,IsPair h o a b
 a1:h.IsListIter i1 t1 n
 a2:h.IsListIter i2 t2 n
variable{h h':Heap}{a:Addr}
def F9(x:h.IsList a eQ)(k:∀o,h.get? a=some o->h'.get? a=some o):h'.IsList a eQ:=by obtain⟨o,e,r⟩:=x;exact#[o,k o e,r]
variable{z u o:Addr}{v:Value}
def qp(x:h.IsList t eQ)(y:IsZip h z u o v):t≠z:=by rintro rfl;obtain⟨q,e,c,_⟩:=x;rw[y]at e;cases e;simp at c
variable{X:Cx}
end L2
namespace Q
open PySem L2
variable{ob:B3}{X:Cx}{a b:Expr}{fa:WA}{pos p:Pos}
def X3(a:WA):WA:=λenv P=>a env λxs e=>match xs with
 |[.tup xs,.tup ys]=>P (Eh xs ys) e
 |[.lst xs,.lst ys]=>P (Eh xs ys) e
 |_=>False
variable{O:Type}
def aG{z:O}{P:O->Prop}:opt (some z) P=P z:=propext Dq
def uy{P:O->Prop}:opt none P=False:=propext #[λ#[_,e,_]=>(nomatch e),λh=>h.elim]
def ae{o:Option O}{z:O}{P:O->Prop}(h:o=some z)(k:P z):opt o P:=#[z,h,k]
theorem pN(xs:List O)(n:Nat):BQ xs none (some (n:Int))=xs.take n:=by
 unfold BQ;rw[HT.E9,HT.Gv,afR,Nat.sub_zero];by_cases h:n<=xs.length
 .rw[Nat.min_eq_left h]
 .rw[Nat.min_eq_right #[],aa2,ac7 #[]]
theorem gK(xs:List O)(n:Nat):BQ xs (some (n:Int)) none=xs.drop n:=by
 unfold BQ;rw[HT.E9,HT.Gv];by_cases h:n<=xs.length
 .rw[Nat.min_eq_left h,ac7 #[0]]
 .rw[Nat.min_eq_right #[],List.drop_length,List.drop_of_length_le #[]];simp
variable{g:WG}{c:WT}{f:WE}{js:Aae}{P:Aal}{env:En}
theorem cT(G:PV->Option PV):∀{xs acc:Aab},(∀x∈xs,∀R:Aat->En->Prop,R (G x) env ->
   g x (Eb js env) λb1=>c b1 λok b2=>if ok=true then f b2 λy b3=>R (some y) (BV js env b3)else R none (BV js env b2))->acc.length+xs.length<=100000->P (.lst (acc++xs.filterMap G)) env->Cg g c f js P xs env acc
 |[],acc,_,_,k=>by simpa[Cg]using k
 |x::xs,acc,h,hl,k=>by
  have Jp  :=by simpa[abZ]using hl
  have:=h x #[0] (λo e=>(match o with|some y=>acc.length<=100000/\Cg g c f js P xs e (acc++[y])|none=>Cg g c f js P xs e acc)) (by
   cases e:G x with
   |none=>refine cT G (λy hy=>h y #[1]) #[] ?_;simpa[e]using k
   |some y=>refine#[#[],cT G (λy hy=>h y #[1]) #[3] ?_];simpa[e]using k)
  exact this
theorem bo(G:PV->PV):∀{xs acc:Aab},(∀x∈xs,∀R:PV->En->Prop,R (G x) env->g x (Eb js env) λb1=>f b1 λy b3=>R y (BV js env b3))->acc.length+xs.length<=100000->P (.lst (acc++xs.map G)) env->Cg g Ei f js P xs env acc
 |[],acc,_,_,k=>by simpa[Cg]using k
 |x::xs,acc,h,hl,k=>by
  have Jp  :=by simpa[abZ]using hl
  exact h x #[0] (λy e=>acc.length<=100000/\Cg g Ei f js P xs e _) #[#[],bo G (λy hy=>h y #[1]) #[3] #[1]]
def aB{b:WS}{P:Wd}(I:Nat->En->Prop):∀{xs:Aab} {i:Nat} {env:En},I i env->(∀(j:Nat) (x:PV) (e:En) (N:En->Prop),xs[j]?=some x->I (i+j) e->(∀e',I (i+j+1) e'->N e')->g x e λe1=>b {P with nx:=N,ct:=N,bk:=P.nx} e1)->(∀e,I (i+xs.length) e->P.nx e)->Fo g b P xs env
 |[],i,env,h0,_,hd=>hd env #[1]
 |x::xs,i,env,h0,hs,hd=>hs 0 x env _ rfl h0 λe' h'=>aB I h' (λj y e N hj hI k=>hs (j+1) y e N #[1] (by rwa [abZ,acT 1 j]at hI) λe' h=>k e' (by rwa [abZ i 1 j,acT 1 j])) λe h=>hd e (by rwa [aay,acT xs.length 1,<- abZ])
def kY:∀(bs:List Bool),(bs.map PV.bl).mapM EV=some bs
 |[]=>rfl
 |b::bs=>by rw[aaw,abh,kY bs];rfl
def bm(bs:List Bool):CM [.lst (bs.map .bl)]=some (.bl (bs.all id)):=by show ((bs.map PV.bl).mapM EV).map _=_;rw[kY];rfl
def ag{a b:WS}{P:Wd}(h:∀N:En->Prop,N=b P->a {P with nx:=N} env):iN a b P env:=h _ rfl
def aU{it:WA}{b:WS}{P:Wd}(h:∀(G:WG) (B:WS),G=g->B=b->it env λxs e=>Fo G B P xs e):DF it g b P env:=h _ _ rfl rfl
variable{s:Sl}
def yY:(some (some s):Option (Aaq)).join.isSome=true:=rfl
variable{x:PV}
def Em{zs:Aab}(h:zs.length<=100000):aR zs [x]=some (.AZ,zs++[x]):=if_pos h
variable{k:Nat}{CS:Addr}{fd:abL}{ps:A3}{x y:Str}{p1 pos':Pos}
end Q
set_option hygiene false in
local macro_rules|`(tactic| lia)=>`(tactic| simp only[Q.run,Q.HI,Q.B5,Q.Rq,Q.Ln,Q.LU,Q.iN,Q.C8,Q.Be,Q.BW,Q.Ba,Q.Ck,Q.CJ,Q.Ha,Q.GZ,Q.G6,Q.CD,Q.Cu,Q.A7,Q.Ez,Q.Mg,Q.lE,Q.BE,Q.eC,Q.eV,Q.Bj,Q.a1,Q.aT,Q.aS,Q.EA,Q.Kg,Q.Zv,Q.U9,Q.A8,Q.BP,Q.DE,Q.JW,Q.iS,Q.X3,Q.HA,Q.Cd,Q.Cc,Q.A9,Q.Dc,Q.Mz,Q.IV,Q.Bo,Q.HN,Q.HM,Q.J5,Q.FR,Q.EV,Q.aG,Q.uy,aaw,aej,aaR,List.cons_append,aaL,aay,abl,ad0,List.getElem?_cons_succ,List.set_cons_zero,List.set_cons_succ,aeh,if_true,ad3,adK,abA,if_false,decide_true,decide_false,ite_true,ite_false,Q.G3,Q.gT,Q.gN,Q.Bb,Q.CF,Q.Iz,Q.MK,String.reduceBEq,Bool.false_and,Bool.or_false,Bool.false_or,Bool.true_or,Bool.and_true,Bool.true_and,Nat.reduceAdd,Nat.reduceSub,Q.tO,Q.yY,true_and,Q.G0,Q.Iy,Q.KU,Q.X4])
namespace Q
open PySem L2 PyProof.Rows
variable{ob:B3}{X:Cx}{iter:Expr}{scope:Scope}{pos p1 p2 p3:Pos}{fi:WA}{x t:Str}
variable{y:Str}{py BM:Pos}
def qx(i:Nat)(hN:X.N.Nodup)(hy:X.N[i]?=some y)(hl:X.env.scope.names.lookup y=some .local)(hi:GW ob X (.Name t p1) iter fi)(hg:∀C s0 H0 ex pn,PG (lT X scope [t] C s0 H0 ex pn) (.Name t p1) (By 0))(hk:∀C s0 H0 ex pn,PE (lT X scope [t] C s0 H0 ex pn) (.Name t p2) (Bw 0))
  (Le:autoParam (ob=Ee X.K) At)
  (JZ:autoParam (ab3 (.DictComp (.Name t p2) (.List [] p3) [#[.Name t p1,iter,[],0]] scope pos) (some (.Name y py)) BM.line X.env=pure true) At)
  (hc:autoParam (X.calm=true) At) (hx:autoParam (X.xe=(λ_ _=>False)) At) (C3:autoParam (Dm X.env scope=true) At) (Bq:autoParam (Ce X.N scope [t] [none]=true) At) (Bg:autoParam (scope.kind=.function) At) (hs:autoParam (∀x,aaB iter X.env x=pure x) AT) :
  EX ob X (.Assign [.Name y py] (.DictComp (.Name t p2) (.List [] p3) [#[.Name t p1,iter,[],0]] scope pos) BM) (jX i fi):=by
 subst Le;exact sV i hN hy hl hi hg hk JZ hc hx C3 Bq Bg hs
variable{e:Expr}{px apos:Pos}
def qy(i:Nat){ke:Expr}{fk fv:WE}{ps Bs:Pos}(hu:X.A.units+1<cLine)(ho:PE X (.Name x px) (Bw i))(hk:Bk ob X ke fk)(hv:Bk ob X e fv)(Le:autoParam (ob=Ee X.K) At)(L9:autoParam (Lu ke) Ch)
  (BI:autoParam (abT (.Subscript (.Name x px) ke ps) "append" X.env (eval (.Subscript (.Name x px) ke ps) X.env)=eval (.Subscript (.Name x px) ke ps) X.env) At)
  (Fl:autoParam (((backTo Bs (aal [e] X.env)).all (λx=>!x.1) && (afi Bs (adX [] X.env)).all (λx=>x.1.isSome)
   && decide ([e].length+([]:List adv).length+(if ([]:List adv).isEmpty then 0 else 1)<30))=true) At)
  (BH:autoParam ((apos.endLine==Bs.line)=true) At) (EZ:autoParam (aal [e] X.env=(false,eval e X.env)::aal [] X.env) At) (C4:autoParam ((backTo Bs (aal [] X.env)).any (·.1)=false) At)
  (hs:autoParam (ab3 (.Call (.Attribute (.Subscript (.Name x px) ke ps) "append" apos) [e] [] Bs) none BM.line X.env=pure false) At) :
  EX ob X (.Expr (.Call (.Attribute (.Subscript (.Name x px) ke ps) "append" apos) [e] [] Bs) BM) (eI i fk fv):=by
 subst Le;exact sW i hu ho hk hv L9 BI Fl BH EZ C4 hs
variable{P:aaC}{w:World}{K:aag}{mg:Aaf}{base:Heap}{k:Nat}{CS:Addr}{fd:abL}{ps:A3}
variable{n:Nat}{D:Fd}
def pF{D':Fd}(F:Bi P w K mg base Cp k CS fd ps (JA #[P,w,K,ob] n D))(h:∀xs P,D' xs P->D xs P):Bi P w K mg base Cp k CS fd ps (JA #[P,w,K,ob] n D') :=
 F.imp λvs H Q E #[F,xs,P,a,b,c,d,e]=>#[F,xs,P,a,b,c,h _ _ d,e]
def uS{D D':GV}(F:Bi P w K mg base Cp k CS fd ps (Gu #[P,w,K,ob] n D))(h:∀c xs P,D' c xs P->D c xs P):Bi P w K mg base Cp k CS fd ps (Gu #[P,w,K,ob] n D') :=
 F.imp λvs H Q E q=>by obtain⟨F,a,l,c,ws,xs,P,a1,a2,a3,a4,a5,a6,a7,a8⟩:=q;exact#[F,a,l,c,ws,xs,P,a1,a2,a3,a4,a5,a6,h _ _ _ a7,a8]
open PySem L2
variable{c:WT}{b:WS}{P:Wd}{k:Nat}{env:En}
theorem dD(I:Nat->En->Prop)(step:∀(k:Nat) (e:En) (N:En->Prop),I k e->(∀k' e',k'<k->I k' e'->N e')->c e λv e1=>if v=true then b {P with nx:=N,ct:=N,bk:=P.nx} e1 else P.nx e1)(h:I k env):Dn c b P env:=by
 refine#[k+1,?_];have aux:∀n k env,k<n->I k env->Jw c b P n env:=by
  intro n;induction n with
  |zero=>omega
  |succ n ih=>intro k env hk hI;exact step k env _ hI λk' e' h1 h2=>ih k' e' #[] h2
 exact aux _ k env #[] h
def eT{a:WS}(h:∀(A B:WS),A=a->B=b->c env λk e=>if k=true then A P e else B P e):C8 c a b P env:=h _ _ rfl rfl
def dy(h:∀(C:WT) (B:WS),C=c->B=b->Dn C B P env):Dn c b P env:=h _ _ rfl rfl
variable{O:Type}
def bv{f:O->Str}{g:O->PV}:∀{l:List O} {a:O},(l.map f).Nodup->a∈l->Ct (l.map λx=>((aav (f x):Key),g x)) (aav (f a))=some (g a)
 |b::l,a,nd,h=>by
  unfold Ct;rw[aaw,abX];rw[aaw,adt]at nd;rcases List.mem_cons.mp h with rfl|h
  .simp
  .have C5:f b≠f a:=λe=>nd.1 (by rw[e];exact abo h);have:decide ((aav (f b):Key)=aav (f a))=false:=by simp_all
   simp only[this];exact bv nd.2 h
def lh{f:O->Str}{g:O->PV}:∀{l:List O} {y:Str},y∉l.map f->Ct (l.map λx=>((aav (f x):Key),g x)) (aav y)=none
 |[],_,_=>rfl
 |b::l,y,h=>by
  rw[aaw,aaY,not_or]at h;unfold Ct;rw[aaw,abX];have:decide ((aav (f b):Key)=aav y)=false:=by simp;exact λe=>h.1 e.symm
  simp only[this];exact lh h.2
variable{y:Str}
def iU{f:O->Str}{g:O->PV}{l:List O}{v:PV}(h:y∉l.map f):EM (l.map λx=>((aav (f x):Key),g x)) (aav y) v=(l.map λx=>((aav (f x):Key),g x))++[(aav y,v)]:=by unfold EM;rw[if_neg];rw[List.any_map];intro z;rw[List.any_eq_true]at z;obtain⟨x,hx,e⟩:=z;exact h #[1]
variable{ys:A3}{x:Str}
def wV:(ys.map PV.str).mapM (λy=>Br 60 y (.str x))=some (ys.map λy=>y==x):=by
 induction ys with
 |nil=>rfl
 |cons y ys ih=>rw[aaw,abh,ih];rfl
def kG:KS (.str x) (.tup (ys.map .str))=some (decide (x∈ys)):=by show ((ys.map PV.str).mapM (λy=>Br 60 y _)).map _=_;rw[wV];show some ((ys.map _).any id)=_;congr 1;rw[aaQ];simp
def uL:KS (.str x) (.lst (ys.map .str))=some (decide (x∈ys)):=kG
def aX:Cz (.str x) (.tup (ys.map .str))=some (.bl (decide (x∈ys))):=by show (KS _ _).map _=_;rw[kG];rfl
def bW:Cz (.str x) (.lst (ys.map .str))=some (.bl (decide (x∈ys))):=by show (KS _ _).map _=_;rw[uL];rfl
variable{lo hi:Option Int}
def bz{xs:List O}{y:O}(h:y∈BQ xs lo hi):y∈xs:=adk (abr h)
theorem aV(xs:List O)(lo hi:Option Int):(BQ xs lo hi).length<=xs.length:=by unfold BQ;rw[abp,ab8];omega
end Q
namespace L2
open PySem PySem.Spec PyProof.Rows
variable{X:Cx}
end L2
namespace Q
open PySem L2 PyProof.Rows
variable{ob:B3}{X:Cx}{a b c e:Expr}{es:Aai}{f g h:WE}{fa:WA}{pos p p1:Pos}{x:Str}
def xE{d:Nat}:∀(a b:A3),Br (d+2) (.tup (a.map .str)) (.tup (b.map .str))=some (decide (a=b)):=by
 intro a b;have e:((a.map PV.str).zip (b.map PV.str)).mapM (λp=>Br (d+1) p.1 p.2)=some ((a.zip b).map λp=>p.1==p.2):=by
  rw[List.zip_map];generalize a.zip b=l;induction l with
  |nil=>rfl
  |cons p l ih=>rw[aaw,abh,ih];rfl
 show (((a.map PV.str).zip _).mapM (λp=>Br _ p.1 p.2)).map _=_;rw[e,aad,aad];show some (((a.zip b).map _).all id && a.length==b.length)=_;congr 1;rw[adg,aaQ,aaM,decide_eq_true_eq,beq_iff_eq];clear e;constructor
 .rintro⟨h1,h2⟩;induction a generalizing b with
  |nil=>cases b with|nil=>rfl|cons _ _=>cases h2
  |cons x a ih=>
   cases b with
   |nil=>cases h2
   |cons y b=>
    rw[abb,List.all_cons,aaM]at h1;have Zl:x=y:=by simp_all
    rw[Zl,ih b h1.2 #[1]]
 .rintro rfl;refine#[?_,rfl];rw[abN];rintro⟨x,y⟩ hm;have:x=y:=by obtain⟨i,hi⟩:=List.getElem?_of_mem hm;rw[aaF]at hi;have:=hi.1.symm.trans hi.2;simpa using this
  simp[this]
noncomputable def Lj:PV->Option Str
 |.tup (.str s::_)=>some s
 |_=>none
def Ib(fa:WA):WE:=λenv P=>fa env λxs e=>match xs with
 |[.lst ys]=>∃nm:A3,ys.mapM Lj=some nm/\nm.Nodup/\ys.length<64/\∀ix:Aan,ix.length=ys.length->(∀i∈ix,i<ys.length)->(ix.map λi=>nm.getD i #[#v[]]).Pairwise Bv->P (.lst (ix.map λi=>ys.getD i .AZ)) e
 |_=>False
variable{K:aag}{F H:Hp}{v:V}{y:PV}
def xm(sF:dO F H)(r:Rep K F v y)(h:Lj y=some x):∃a t,v=.ref a/\Cf K H a (.str x::t):=by
 unfold Lj at h;split at h
 .cases h;cases r with
  |tup h1 h2=>cases h2 with
   |cons r1 r2=>cases r1;exact#[_,_,rfl,ap sF h1]
 .cases h
variable{vs:Aag}{ys:Aab}
def gz(r:nE K F vs ys):∀ix:Aan,(∀i∈ix,i<ys.length)->nE K F (ix.map λi=>vs.getD i .AZ) (ix.map λi=>ys.getD i .AZ)
 |[],_=>.nil
 |i::ix,h=>by refine .cons ?_ (gz r ix λj hj=>h j (aaq _ hj));have hi:=h i aaz;obtain⟨v,hv,rv⟩:=r.get (aab hi);show Rep K F (vs.getD i .AZ) (ys.getD i .AZ);rw[aau,aau,hv,aab hi];exact rv
theorem uW(hg:Gl X "sorted")(hm:X.mg "sorted" = none)(ha:GX ob X (e::es) fa)
  (he:autoParam #[8] At) (Cj:autoParam #[11] At):EY ob X (.Call (.Name "sorted" p) (e::es) [] pos) (Ib fa):=by
 obtain⟨t,ht,k⟩:=ha.ex;refine#[_,bi qE hg hm aew ht #[2] (rfl) he Cj,λZ F U H env P Q K hf kk=>k Z F U H env _ _ K hf λxs e1 vs F1 H1 p s1 K1 r1=>?_];split at p
 .obtain⟨nm,hs,nd,hl,p⟩:=p;obtain⟨v,rfl,r⟩:=r1.one;obtain⟨q,vs,rfl,h1,h2⟩:=r.lst K1.sF;have g1:=(aH hs).1;have hlen:=h2.len;refine#[q,vs,nm,rfl,.inl (.inl h1),#[],#[#[],λi v x hv hx=>?_,nd],λl ix hn i1 i2 i3 i4=>?_]
  .obtain⟨y,hy,ry⟩:=h2.J6 hv;obtain⟨y',e1,e2⟩:=nq hs i x hx;rw[hy]at e1;cases e1;exact xm K1.sF ry e2
  .exact kk _ e1 _ F1 _ (p ix #[] (λi hi=>#[1]) i4) s1 (λ_=>#[0]) (K1.own hn #[_,ah,gz h2 ix λi hi=>#[1]])
 .exact p.elim
end Q
namespace L2
open PySem PySem.Spec PyProof.Rows
variable{prog:aaC}{w:World}{A:Around}{E:Aaa}{s:Shared}
variable{X:Cx}
def pP:Bd X (.type "int") (λxs H Q=>∃b:Bool,xs=[.bl b]/\Q (.int (if b then 1 else 0)) H):=by intro pins s U H xs us Q I r h;obtain⟨b,rfl,q⟩:=h;obtain⟨u,rfl,ru⟩:=r.one;cases ru;exact call_int_bool #[.int _,H,I.tok _,#[_,rfl],q]
end L2
namespace Q
open PySem L2 PyProof.Rows
noncomputable def neT:PV->PV->Option PV
 |.tup xs,.tup ys=>(Br 60 (.tup xs) (.tup ys)).map λb=>.bl (!b)
 |_,_=>none
def PZ(K:aag):R2:=λv u H Q=>∃F xs ys k,dO F H/\Rep K F v (.tup xs)/\Rep K F u (.tup ys)/\Br 60 (.tup xs) (.tup ys)=some k/\Q (.bl (!k)) H
noncomputable def Ge:Aab->Option PV
 |[.bl b]=>some (.int (if b then 1 else 0))
 |_=>none
variable{ob:B3}{X:Cx}{a b c e:Expr}{es:Aai}{f g h:WE}{fa:WA}{pos EN p p1 p2:Pos}{x:Str}
def xY:EJ ob X (λxs H Q=>∃b:Bool,xs=[.bl b]/\Q (.int (if b then 1 else 0)) H) Ge:=by
 intro Z F U H env vs xs z Q K rv hz k;unfold Ge at hz;split at hz
 .cases hz;obtain⟨v,rfl,r⟩:=rv.one;rw[r.bl];exact#[_,rfl,k _ F H ai K (.int _)]
 .cases hz
theorem yE(hu:X.A.units+60<cLine):BX X (aa1 .NotEq) (PZ X.K):=by
 intro pins s U H x y v u Q I rx ry h;obtain⟨F,xs,ys,k,sF,r1,r2,e,hq⟩:=h;cases r1 with
 |tup h1 r1=>
 cases r2 with
 |tup h2 r2=>
 cases rx;cases ry;obtain⟨eQ,rv,p,_⟩:=I.tuple (ap sF h1);obtain⟨BO,DG,p2,_⟩:=I.tuple (ap sF h2);have l1:eQ.length=xs.length:=by rw[<- rv.length,r1.len]
 have l2:BO.length=ys.length:=by rw[<- DG.length,r2.len]
 have e':((xs.zip ys).mapM λp=>Br 59 p.1 p.2).map (λbs=>bs.all id && xs.length==ys.length)=some k:=e;rw[aas]at e';obtain⟨bs,hb,ek⟩:=e';obtain⟨Jr,Js⟩:=aH hb;have t:=SeqAt.RcNeAt.tuples (A:=X.A) (e:=λj=>bs.getD j false) p p2 #[] (λj j1 j2=>by
  simp only[aak]at j1 j2;have jx:j<xs.length:=by omega
  have jy:j<ys.length:=by omega
  have hz:(xs.zip ys)[j]?=some (xs[j],ys[j]):=by rw[aaF];exact#[by simp[jx],by simp[jy]]
  obtain⟨b,e1,e2⟩:=Js j _ hz;obtain⟨v1,q1,q2⟩:=r1.get (aab jx);obtain⟨v2,q3,q4⟩:=r2.get (aab jy);obtain⟨u1,q5,q6⟩:=rv.get q1;obtain⟨u2,q7,q8⟩:=DG.get q3;have g1:eQ.toArray[j]=u1:=by simpa[aab j1]using q5
  have g2:BO.toArray[j]=u2:=by simpa[aab j2]using q7
  rw[g1,g2,show bs.getD j false=b by simp[adu,e1]];exact(Lm I sF (A:=X.A.in1) (d:=59) (by show X.A.units+1+59<cLine;omega) q2 q4 q6 q8 e2).2)
 have e3:((aa3 (min eQ.toArray.size BO.toArray.size)).all (λj=>bs.getD j false) && eQ.toArray.size==BO.toArray.size)=k:=by
  have e4:min eQ.toArray.size BO.toArray.size=bs.length:=by rw[Jr,acC,aak,aak,l1,l2]
  rw[e4,bA (λj hj=>by simp[adu,aab hj]),aak,aak,l1,l2];exact ek
 rw[e3]at t;exact t X.prog X.w X.xe _ #[.bl (!k),H,I,rfl,hq]
def wH:Ef ob X (PZ X.K) neT:=by
 refine aZ (P:=λ_ _ _ _=>True) λF H v u x y z sF rx ry hz=>?_;unfold neT at hz;split at hz
 .rw[aas]at hz;obtain⟨k,hk,rfl⟩:=hz;exact#[_,λ_=>.bl _,λQ q=>#[F,_,_,k,sF,rx.Gp,ry.Gp,hk,q]]
 .cases hz
end Q
namespace L2
open PySem PySem.Spec PyProof.Rows PySem.W
def Fy(h:Heap)(a:Addr)(k:Int×Str):Prop:=∃o n t u,h.get? a=some o/\o.cls=.type "tuple" /\ o.data=.seq #v[.int k.1 t,.str k.2 u] n
noncomputable def JT(ks:List (Int×Str))(i j:Nat):Bool:=decide ((ks.getD i (0,#[#v[]])).1<(ks.getD j (0,#[#v[]])).1\/((ks.getD i (0,#[#v[]])).1=(ks.getD j (0,#[#v[]])).1/\Bv (ks.getD i (0,#[#v[]])).2 (ks.getD j (0,#[#v[]])).2))
variable{ks:List (Int×Str)}
theorem wX(nd:(ks.map (·.2)).Nodup):Srt.Ord (JT ks) ks.length:=by
 have inj:∀i j,i<ks.length->j<ks.length->(ks.getD i (0,#[#v[]])).2=(ks.getD j (0,#[#v[]])).2->i=j:=λi j hi hj e=>by
  have a:(ks.map (·.2))[i]'#[1]=(ks.map (·.2))[j]'#[1]:=by simp_all
  exact(abk nd).mp a
 refine#[λi _=>?_,λi j k _ _ _ a b=>?_,λi j hi hj ne e=>?_]
 .unfold JT;rw[decide_eq_false_iff_not];rintro(h|⟨_,h⟩)
  .omega
  .exact adJ _ h
 .have a:=of_decide_eq_true a;have b:=of_decide_eq_true b;refine decide_eq_true ?_;rcases a with a|⟨a1,a2⟩<;>rcases b with b|⟨b1,b2⟩
  .exact .inl #[]
  .exact .inl #[]
  .exact .inl #[]
  .exact .inr #[#[],List.lt_trans a2 b2]
 .have e:=of_decide_eq_false e;rw[not_or]at e;refine decide_eq_true ?_;rcases Int.lt_trichotomy _ _ with z|z|z
  .exact absurd z e.1
  .refine .inr #[z.symm,?_];have e2  := λh=>e.2 #[z,h];rcases List.le_iff_lt_or_eq.mp (List.not_lt.mp e2)with q|q
   .exact q
   .exfalso;refine ne (inj i j hi hj ?_);exact congrArg Str.mk (Array.toList_inj.mp q.symm)
  .exact .inl z
variable{prog:aaC}{w:World}{A:Around}{E:Aaa}{s:Shared}
variable{X:Cx}{pins:Aac}{U:St}{H:Hp}{z:Shared}{B:Around}
variable{lq d:Str}{IU:Pos}{P c:Addr}{params:Arguments}{body:Expr}{scope:Scope}
noncomputable abbrev k0:Int×Str:=(0,#[#v[]])
variable{x:Str}{p p1 p2 p3 EO pos:Pos}{e:Expr}{te:TE}{i k:Nat}
variable{h:Heap}{a:Addr}{eQ:Aad}
def g5{m:Int}{s:Str}(rv:oF [.int m,.str s] eQ)(t:IsTup h a eQ.toArray):Fy h a (m,s):=by
 obtain⟨o,g1,g2,n,g3⟩:=t;cases rv with
 |cons r1 r2=>
  cases r2 with
  |cons r2 r3=>cases r3;obtain⟨t,rfl⟩:=r1;obtain⟨u,rfl⟩:=r2;exact#[o,n,t,u,g1,g2,g3]
open PySem PySem.Spec PyProof.Rows
variable{P:aaC}{w:World}{K:aag}{mg:Aaf}{base:Heap}
end L2
namespace Q
open PySem L2 PyProof.Rows
variable{P:aaC}{w:World}{K:aag}{mg:Aaf}{base:Heap}{ob:B3}
variable{X:Cx}{k:Nat}{CS:Addr}{fd:abL}{ps:A3}{DO:GV}{x:Str}{p pos:Pos}{e:Expr}{es:Aai}{fa:WA}
open PySem L2 PyProof.Rows PySem.W
variable{X:Cx}{lq d x:Str}{IU p p1 p2 p3 EO pos:Pos}{T c:Addr}{params:Arguments}{scope:Scope}{e:Expr}{f:WE}{i j k:Nat}{ob:B3}
end Q
namespace L2
open PySem PySem.Spec PyProof.Rows
end L2
namespace Q
open PySem L2 PyProof.Rows
end Q
namespace L2
open PySem PySem.Spec PyProof.Rows
variable{X:Cx}{pins:Aac}{U:St}{H:Hp}{s:Shared}{d:Addr}{gE:List (Key×V)}{o:Obj}
def Inv.ML(I:Inv X pins U H s)(e:H d=some (.dK gE))(ho:s.heap.get? d=some o):Inv X pins U (upd H d (.Dg o (.dK gE))) s:=by
 have un:Un X.fs [] H (upd H d (.Dg o (.dK gE))) s.heap s.heap:=by
  refine#[λb u q n _ _=>q,λb u q n _ _=>#[u.slots,q],λb u q n _=>?_,λb u q _=>#[u,q],λb xs q=>?_,λb u v q=>?_,λb qs q=>#[#v[],?_]]
  .rw[aj (λz=>by rw[z,e]at n;cases n)];exact n
  .rw[aj (λz=>by rw[z,e]at q;cases q)];exact q
  .rw[aj (λz=>by rw[z,e]at q;cases q)];exact q
  .rw[aj (λz=>by rw[z,e]at q;cases q),q];simp
 have Bc:DK X.prog X.w (upd H d (.Dg o (.dK gE))) s.heap:=λb u q=>by
  have st:∀c v,H c=some v->Bm X.prog X.w (upd H d (.Dg o (.dK gE))) s.heap c v:=λc v hc=>(I.Bc c v hc).G7 (λ_ _ _ g=>g) (λx hx=>by rw[aj (λz=>by rw[z,e]at hx;cases hx)];exact hx) λx xs hx=>by rw[aj (λz=>by rw[z,e]at hx;cases hx)];exact hx
  by_cases z:b=d
  .subst z;rw[ah]at q;cases q;exact#[ho,st b _ e]
  .rw[aj z]at q;exact st b u q
 have:=I.un (t':=s.toks) un Bc;exact this
noncomputable def Vo(d:Addr)(o:Obj)(gE:List (Key×V)):It :=
 #[λi H=>H d=some (.Dg o (.dK gE))/\i<gE.length,
  λi H v H'=>∃p k x,v=.ref p/\H p=none/\H'=upd H p (.tup [kV k,x])/\gE[i]?=some (k,x),
  λi H=>H d=some (.Dg o (.dK gE))/\gE.length<=i]
variable{vs:List (Key×Value)}
def yR(r:KV gE vs):∀{i:Nat} {k:Key} {x:V},gE[i]?=some (k,x)->∃u,vs[i]?=some (k,u)/\RelV x u:=by
 induction r with
 |nil=>intro i k x e;simp at e
 |@cons p q ps qs h t ih=>
  intro i k x e;cases i with
  |zero=>simp only[ad0,aeV]at e;subst e;obtain⟨k',u⟩:=q;obtain⟨h1,h2⟩:=h;subst h1;exact#[u,rfl,h2]
  |succ i=>exact ih e
variable{P:aaC}{w:World}{K:aag}{elts:Aai}{pos:Pos}{it:Addr}{ep:Nat}
theorem pY{x1:_}{es:Array DictEntry}(r:KV gE vs)(hx:o.ExactDict)(J1:o.data=.dict es ep)(hk:KeysOf (ay P w) es)(hp:Pairs (ay P w) es.toList vs)(hn:(vs.map (·.1)).Nodup):
  Turn P w K (.Tuple elts x1 pos) (Vo d o gE) [it] it (λn h=>∃a b,IsItemIter h it d n vs.length ep a b) where
 mem:=by simp
 obj:=λn h #[a,b,Z] c hc=>by rw[List.mem_singleton.mp hc];exact#[_,Z,λv e=>by cases (show afF _=aeP v from e)]
 keep:=λn h h' #[a,b,Z] k=>#[a,b,k it #[0] _ Z]
 item:=by
  intro X hP hw hK hc n pins s U H E I hf Z hg;subst hP hw hK;obtain⟨ka,kb,Z⟩:=Z;obtain⟨hd,BU⟩:=hg;have ho:s.heap.get? d=some o:=(I.Bc d _ hd).1;have D:s.heap.DictAt (ay X.prog X.w) d vs ep:=#[o,es,ho,hx,J1,hk,hp,hn]
  obtain⟨⟨k,x⟩,Ww⟩:∃q,gE[n]?=some q:=#[_,aab BU]
  obtain⟨u,hu,ru⟩:=yR r Ww;have DS:H s.heap.objs.size=none:=I.Bc.fresh (aai _);have Q0:it<s.heap.objs.size:=aah Z;have Yt:s.heap.objs.size≠it:=abF Q0;refine wpAny_pyNext_items_item Z D hu λkey h' q1 q2 q3 q4 kk=>?_;have rk:RelV (kV k) key:=by
   rcases aJ q1 with ⟨i,t,rfl,rfl⟩|⟨y,t,rfl,rfl⟩
   .exact#[t,rfl]
   .exact#[t,rfl]
  refine#[_,rfl,wpAny_letOwnedTupleGo_items (s:={s with heap:=h'}) q2 λh2 w1 w2=>?_];have I1:Inv X pins U (upd H s.heap.objs.size (.tup [kV k,x])) {s with heap:=s.heap.push {cls:=.type "tuple",data:=.seq #v[key,u]}} :=
   I.laid (t':=s.toks) (λb u e=>aac _ e) (aai _) #[by show 2<=sizeLine;decide,[key,u],.cons rk (.cons ru .nil),#[_,aaf _ rfl,rfl,_,rfl],_,aaf _ rfl,rfl]
  have Jq:∀c∈[it],DL X pins (upd H s.heap.objs.size (.tup [kV k,x])) c:=λc hc=>by rw[List.mem_singleton.mp hc];have:=hf it #[0];exact#[by rw[aj (abz Yt)];exact this.1,this.2]
  have I2:Inv X pins U (upd H s.heap.objs.size (.tup [kV k,x])) {s with heap:=h2}:=by
   refine I1.CI (t':=s.toks) (h':=h2) (λc q hc e=>?_) Jq;have Sn:c≠it:=λe=>hc (by simp[e]);refine w2.extBut _ _ Sn ?_;by_cases Hz:c=s.heap.objs.size
   .subst Hz;have:(s.heap.push {cls:=.type "tuple",data:=.seq #v[key,u]}).get? s.heap.objs.size=some {cls:=.type "tuple",data:=.seq #v[key,u]}:=aaf _ rfl;have e':some {cls:=.type "tuple",data:=.seq #v[key,u]}=some q:=this.symm.trans e;rw[<- e'];exact q3
   .exact kk c q Sn ((adS _ _ _ Hz).symm.trans e)
  exact#[.ref s.heap.objs.size,_,I2,rfl,#[_,k,x,rfl,DS,rfl,Ww],#[_,_,w1],λc hc=>(Jq c hc).1]
 done:=by
  intro X hP hw hK hc n pins s U H E I hf Z hg;subst hP hw hK;obtain⟨ka,kb,Z⟩:=Z;obtain⟨hd,hle⟩:=hg;have ho:s.heap.get? d=some o:=(I.Bc d _ hd).1;have D:s.heap.DictAt (ay X.prog X.w) d vs ep:=#[o,es,ho,hx,J1,hk,hp,hn]
  have hl:=r.length;refine wpAny_pyNext_items_end (I.ok.hd hc) Z D (aam #[]) λh' kk=>#[rfl,I.CI (t':=s.toks) (λc q hc e=>kk c q (λz=>hc (by simp[z])) e) hf]
 self:=λ_ _ _ _ _ #[_,_,Z] h=>PySem.W.kcp_self Z h
def Nl(to:TE):TI:=λU H R=>to U H λv H1=>∃d gE,v=.ref d/\H1 d=some (.dK gE)/\∀o,R (Vo d o gE) (upd H1 d (.Dg o (.dK gE)))
variable{Dj:Pos}{to:TE}
theorem ud{x1:_}{o:Expr}{apos:Pos}(ho:PE X o to)
  (BI:autoParam (abT o "items" X.env (eval o X.env)=eval o X.env) At) (BH:autoParam ((apos.endLine==pos.line)=true) At) :
  PI X (.Tuple elts x1 Dj) (.Call (.Attribute o "items" apos) [] [] pos) (Nl to):=by
 intro pins s U H R I h;refine wpAny_Call_method0_late BI BH (Bt (ho pins s U H _ I h) λv s1 #[x,H1,I1,r1,q1]=>?_);obtain⟨d,gE,ex,hd,q1⟩:=q1;subst ex;cases r1;obtain⟨t1,t2,t3⟩:=zc I1 (.inl #[gE,.inl hd]);refine#["dict", "dict.items",PySem.F.plainAttrs_dict,PySem.F.slot_dict_items,PySem.F.type_dict_items,t1,t2,ac9 rfl (PySem.evalArgs_none ?_)];obtain⟨hz,_,vs,rel,dd⟩:=mJ I1.Bc hd;refine call_meetsIn PySem.F.slot_dict_items dd.typeIs PySem.F.entry_dict_items (PySem.F.args_dict_items_1 _) (meets_dict_items (ay X.prog X.w) d t3) #[#[vs,dd],?_];obtain⟨o,es,ep,ho,hx,J1,hk,hp,hn⟩:=dd;have D:s1.heap.DictAt (ay X.prog X.w) d vs ep:=#[o,es,ho,hx,J1,hk,hp,hn]
 refine wpAny_pyIter_items (v:=s1.heap.objs.size) (d:=d) #[_,aaf _ rfl,rfl,rfl] (D.push _) ?_;have I2:Inv X pins U H1 {s1 with heap:=(s1.heap.push {cls:=.type "dict_items",data:=.fields #v[.ref d]}).push {cls:=.type "dict_itemiterator",data:=.fields #v[.none,.bool false,.ref d,.int 0 0,.int vs.length 0,.int ep 0,.none,.none]}} :=
  I1.kept (t':=s1.toks) λb u e=>aac _ (aac _ e)
 have I3:=I2.ML hd (o:=o) (aac _ (aac _ ho));have hsz:(s1.heap.push {cls:=.type "dict_items",data:=.fields #v[.ref d]}).objs.size=s1.heap.objs.size+1:=aa9 ..;have HS:s1.heap.objs.size<=(s1.heap.push {cls:=.type "dict_items",data:=.fields #v[.ref d]}).objs.size:=by omega
 have Kw  := I1.Bc.fresh HS;refine#[_,[_],_,_,_,rfl,I3,pY rel hx J1 hk hp hn,#[_,_,aaf _ rfl],λb hb=>?_,q1 o];rw[List.mem_singleton.mp hb];exact I1.GH HS (by rw[aj (λz=>by rw[z,hd]at Kw;cases Kw)];exact Kw)
end L2
namespace Q
open PySem L2 PyProof.Rows
noncomputable def kP:Key->PV
 |.inl i=>.int i
 |.inr x=>.str x
noncomputable def Iw(q:Key×PV):PV:=.tup [kP q.1,q.2]
variable{K:aag}{F:Hp}
def yX:∀k:Key,Rep K F (kV k) (kP k)
 |.inl i=>.int i
 |.inr x=>.str x
variable{vs:List (Key×V)}{xs:List (Key×PV)}
def A0.get(h:A0 K F vs xs):∀{i:Nat} {k:Key} {x:PV},xs[i]?=some (k,x)->∃v,vs[i]?=some (k,v)/\Rep K F v x:=by
 induction h using A0.ind with
 |nil=>intro i k x e;simp at e
 |cons a r ih=>
  intro i k x e;cases i with
  |zero=>simp only[ad0,aeV,Prod.mk.injEq]at e ⊢;obtain⟨rfl,rfl⟩:=e;exact#[_,#[rfl,rfl],a]
  |succ i=>exact ih e
variable{M:Md}
def za{d:Addr}{o:Obj}(h:F d=some (.Dg o (.dK vs)))(r:A0 M.K F vs xs):EF M (Vo d o vs) F (xs.map Iw):=by
 refine#[λZ i U env F' H x s K e=>?_,λZ i U env F' H s K hl=>#[K.sF _ _ (s _ _ h),by rw[r.len];simpa using hl]];rw[aaj]at e;cases ez:xs[i]? with
 |none=>rw[ez]at e;cases e
 |some q=>
  rw[ez]at e;obtain⟨k,y⟩:=q;have e  := (aar e).symm;subst e;obtain⟨v,hv,rv⟩:=r.get ez;refine#[#[K.sF _ _ (s _ _ h),(List.getElem?_eq_some_iff.mp hv).1],λv' H' y'=>?_];obtain⟨p,k',x',rfl,hp,rfl,q⟩:=y';rw[hv]at q;cases q;have hF  := dO.none_of K.sF hp;refine#[_,ao hF,K.lay hp,.tup (.inl (.inl ah)) (.cons (yX k) (.cons ((rv.mono s).mono (ao hF)) .nil)),ao hp,λc hc=>?_];by_cases z:c=p
  .subst z;exact .inr hp
  .rw[aj z]at hc;exact .inl hc
noncomputable def hJ(i:Nat):WA:=λenv P=>match env[i]? with
 |some (some #[1,.Bp gE])=>P (gE.map Iw) (env.set i none)
 |_=>False
variable{Z:Zn}{H:Hp}{U:L2.St}{env:En}{i:Nat}
def rW.ML{gE:List (Key×PV)}(K:rW M Z F U H env)(hi:env[i]?=some (some #[1,.Bp gE])):
  ∃d vs,U[i]?=some (some (.ref d))/\H d=some (.dK vs)/\F d=none/\A0 M.K F vs gE/\∀o,rW M Z (upd F d (.Dg o (.dK vs))) U (upd H d (.Dg o (.dK vs))) (env.set i none):=by
 obtain⟨fp,L⟩:=K.sl;obtain⟨v,hv,ok⟩:=L.at' i _ hi;rcases ok with ⟨e,_⟩|⟨_,d,rfl,hf,h0,vs,hd,rk⟩|⟨e,_⟩|⟨e,_⟩
 .cases e
 .have ha:=L.al i d #[1];refine#[d,vs,hv,hd,ha.2,rk,λo=>?_];have s1:dO F (upd F d (.Dg o (.dK vs))):=ao ha.2;have ot:∀j b,j≠i->b∈fp j->b≠d:=λj b hj hb z=>L.dj j i b hj hb #[1];refine#[λb u e=>?_,λb u e hb=>?_,λb e=>?_,af K.gr s1,λb e=>?_,by simp[K.len],λj=>if j=i then []else fp j,λj s h=>?_,λj b h=>?_,λj k b HR h z=>?_,λj b t e1 e2 e3=>?_]
  .by_cases z:b=d
   .subst z;rw[ah]at e ⊢;exact e
   .rw[aj z]at e ⊢;exact K.sF b u e
  .rw[aj (λz=>#[1])];exact K.sG b u e hb
  .by_cases z:b=d
   .subst z;rw[ah];simp
   .rw[aj z];exact K.pr b e
  .by_cases z:b=d
   .subst z;exact .inr h0
   .rw[aj z]at e;exact K.nw b e
  .by_cases z:j=i
   .subst z;rw[abq]at h;simp only[if_true]at h;split at h<;>cases h
   .rw[aaD (abz z)]at h;rw[if_neg z];obtain⟨v,g1,g2⟩:=L.at' j s h;exact#[v,g1,g2.mono s1 λc hc=>aj (ot j c z hc)]
  .split at h
   .simp at h
   .rename_i z;have:=L.al j b h;rw[aj (ot j b z h),aj (ot j b z h)];exact this
  .split at h
   .simp at h
   .split at z
    .simp at z
    .exact L.dj j k b HR h z
  .by_cases z:j=i
   .subst z;rw[abq]at e2;simp only[if_true]at e2;split at e2<;>cases e2
   .rw[aaD (abz z)]at e2;exact L.oa j b t e1 e2 e3
 .rcases e with e|e<;>cases e
 .cases e
variable{ob:B3}{X:Cx}{x:Str}{p apos Dj:Pos}{elts:Aai}
def tz(i:Nat){pos:Pos}{x1:_}(ho:PE X (.Name x p) (Bw i))
  (BI:autoParam (abT (.Name x p) "items" X.env (eval (.Name x p) X.env)=eval (.Name x p) X.env) At) (BH:autoParam ((apos.endLine==pos.line)=true) At) :
  GW ob X (.Tuple elts x1 Dj) (.Call (.Attribute (.Name x p) "items" apos) [] [] pos) (hJ i):=by
 refine#[_,ud ho BI BH,λZ F U H env P R K hf kk=>?_];unfold hJ at hf;split at hf
 .rename_i gE ei;obtain⟨d,vs,hv,hd,hF,rk,kz⟩:=K.ML ei;exact#[_,hv,d,vs,rfl,hd,λo=>kk _ _ _ _ _ hf (ao hF) (kz o) (za ah (rk.mono (ao hF)))]
 .exact hf.elim
end Q
namespace L2
open PySem PySem.Spec PyProof.Rows PySem.W
variable{prog:aaC}{w:World}{A:Around}{E:Aaa}{s:Shared}
def lf:∀{ad:Aaj} {us:Aad},oF (ad.map V.ref) us->us=ad.map aba
 |[],us,h=>by cases h;rfl
 |a::ad,us,h=>by
  cases h with
  |cons r t=>cases r;rw[lf t];rfl
def lB:∀ad:Aaj,oF (ad.map V.ref) (ad.map aba)
 |[]=>.nil
 |a::ad=>.cons rfl (lB ad)
end L2
namespace Q
open PySem L2 PyProof.Rows
variable{ob:B3}{X:Cx}{e:Expr}{f:WE}{p pos EO p1:Pos}{kd:Nat}
end Q
namespace L2
open PySem PySem.Spec PyProof.Rows
def RJ(A:Around)(s:Shared)(y x:Value)(b:Bool):Prop :=
 ∀(prog:aaC) (w:World) (E:Aaa) (Q:Aaa),Q (.bool b) s->wpAny #[9] A (richCompare .Lt y x) Q E s
inductive Hv (A:Around) (s:Shared):Aad->List Value->Bool->Prop where
 |nn:Hv A s [] [] false
 |nc {y ys}:Hv A s [] (y::ys) true
 |cn {x xs}:Hv A s (x::xs) [] false
 |eq {x y xs ys b}:adO A s x y true->Hv A s xs ys b->Hv A s (x::xs) (y::ys) b
 |lt {x y xs ys b}:adO A s x y false->RJ A s x y b->Hv A s (x::xs) (y::ys) b
section
open PySem.SeqAt
open PySem.AutoSeq1 (wpAny_loadPart')
open PySem.MeetsSeq PySem.MeetsSeq2 PySem.MeetsSeq3
theorem qT(l b:Addr)(items Cv:Aak)(n n2:Nat)(dd KA:Option Addr)(sl Kq:Array (Option Value))(r:Bool):
  Meets (acP.«tuple.__lt__» #[[.ref l,.ref b],[]])
   (λA R s=>s.heap.get? l=some {cls:=.type "tuple",dict:=dd,data:=.seq items n,slots:=sl}/\s.heap.get? b=some {cls:=.type "tuple",dict:=KA,data:=.seq Cv n2,slots:=Kq}/\Hv A.in1 s items.toList Cv.toList r/\R (.ok (.ret (.bool r))) s) :=
 .of_wp λprog w A R s h=>by
  obtain⟨hp,g,d,tk,os⟩:=s;obtain⟨hl,hb,lx,h⟩:=h;have f2:=AutoSeq1.sub_tuple_tuple
  wp_walk using aci hl,aci hb,wpAny_forIn_list _ (λrest b s'=>b.1=none/\s'=#[hp,g,d,tk,os]/\∃(vs ws:Aad),rest=vs.zip ws /\
   vs.length+Cv.size=ws.length+items.size/\Hv A.in1 #[hp,g,d,tk,os] vs ws r) _
  case turn=>
   rintro⟨y,x⟩ rest b s' ⟨Jf,rfl,vs,ws,hz,hlen,hR⟩;cases hR with
   |nn=>rw[adQ]at hz;cases hz
   |nc=>rw[adQ]at hz;cases hz
   |cn=>rw[aeK]at hz;cases hz
   |eq e UK=>
    rw[abb]at hz;injection hz with hyx Hf;injection hyx with hy hx;subst hy hx;simp only[aay]at hlen;refine aaa (e prog w _ _ ?_)
    wp_walk
    exact#[rfl,rfl,_,_,Hf,#[],UK]
   |lt e e2=>
    rw[abb]at hz;injection hz with hyx Hf;injection hyx with hy hx;subst hy hx;simp only[aay]at hlen;refine aaa (e prog w _ _ ?_);have T7:=e2 prog w
    wp_walk using T7
    exact#[_,rfl,by simpa using h]
  case fin=>
   rintro⟨b1,b2⟩ s' ⟨Jf,rfl,vs,ws,hz,hlen,hR⟩;simp only at Jf;subst Jf;have hv:r=decide (items.size<Cv.size):=by
    cases hR with
    |nn=>simp only[abl]at hlen;exact(decide_eq_false #[]).symm
    |nc=>simp only[abl,aay]at hlen;exact(decide_eq_true #[]).symm
    |cn=>simp only[abl,aay]at hlen;exact(decide_eq_false #[]).symm
    |eq=>rw[abb]at hz;cases hz
    |lt=>rw[abb]at hz;cases hz
   rw[hv]at h
   wp_walk
   exact#[_,rfl,by simpa[ae2]using h]
  case h=>exact#[rfl,rfl,items.toList,Cv.toList,rfl,#[3],lx]
end
end L2
namespace Q
open PySem L2 PyProof.Rows
variable{X:Cx}{pins:Aac}{U:L2.St}{H F:Hp}{s:Shared}
variable{ob:B3}
end Q
namespace L2
open PySem PySem.Spec PyProof.Rows
variable{prog:aaC}{w:World}{A:Around}{E:Aaa}{s:Shared}{a0:Array Keyed}{d:KeyKind}
variable{X:Cx}
end L2
namespace Q
open PySem L2 PyProof.Rows
variable{ob:B3}{X:Cx}{a b c e:Expr}{es:Aai}{f g h:WE}{fa:WA}{pos p p1:Pos}{x:Str}
def Ta:V->Option Int->Option Int->Hp->VK->Prop:=λx lo hi H Q=>∃s:Str,x=.str s/\s.length<=1000/\Q (.str (adr s lo hi)) H
theorem yh:KH X Ta:=by
 intro pins s U H x v vl vu lo hi sl Q I rx hs pl pu h;obtain⟨y,rfl,hl,q⟩:=h;obtain⟨t,rfl⟩:=rx;obtain⟨l,el,rfl⟩:∃l:Option (Int×Tok),partValue l=vl/\l.map (·.1)=lo:=by
  cases pl with
  |none=>exact#[none,rfl,rfl]
  |int i t=>exact#[some (i,t),rfl,rfl]
 obtain⟨u,eu,rfl⟩:∃u:Option (Int×Tok),partValue u=vu/\u.map (·.1)=hi:=by
  cases pu with
  |none=>exact#[none,rfl,rfl]
  |int i t=>exact#[some (i,t),rfl,rfl]
 subst el eu;refine#["str",_,F.slot_str_getitem.lookup,typeIs_str _ _ _,wpAny_getItem_str_slice (l:=l) (u:=u) (st:=none) hs rfl (post_val_or_str #[?_,λt' k=>?_])]
 .exact aaK (Txt.slice_le y (l.map (·.1)) (u.map (·.1))) (by rw[aaJ];omega)
 .exact#[.str (adr y (l.map (·.1)) (u.map (·.1))),H,I.kept (t':=k) (λb o e=>e),#[t',rfl],q]
noncomputable def LF:PV->Option Int->Option Int->Option PV
 |.str s,lo,hi=>if s.length<=1000 then some (.str (adr s lo hi))else none
 |_,_,_=>none
def Lo(a:WE)(lo hi:WO):WE:=λenv P=>a env λx e1=>lo e1 λl e2=>hi e2 λu e3=>opt (LF x l u) λz=>P z e3
variable{p2:Pos}
def zB{l u:Option Expr}{lo hi:WO}(ha:Bk ob X a f)(hl:OL ob X l lo)(hu:OL ob X u hi):Bk ob X (.Subscript a (.Slice l u none p2) pos) (Lo f lo hi):=by
 obtain⟨t,ht,k⟩:=ha.ex;obtain⟨t1,JY,k1⟩:=hl.ex;obtain⟨t2,KY,k2⟩:=hu.ex;refine#[_,iW yh ht JY KY,λZ F U H env P Q K hf kk=>k Z F U H env _ _ K hf λx e1 v F1 H1 p s1 K1 r1=>?_];refine k1 Z F1 U H1 e1 _ _ K1 p λi e2 F2 H2 p2 s2 K2=>k2 Z F2 U H2 e2 _ _ K2 p2 λj e3 F3 H3 p3 s3 K3=>?_;obtain⟨z,hz,p3⟩:=p3;have r3:=(r1.mono s2).mono s3;have s4:=af s1 (af s2 s3);unfold LF at hz;split at hz
 .split at hz
  .rename_i hl;cases hz;cases r3;exact#[_,rfl,hl,kk _ e3 _ F3 H3 p3 s4 K3 (.str _)]
  .cases hz
 .cases hz
end Q
namespace L2
open PySem PySem.Spec PyProof.Rows
variable{X:Cx}{o e:Expr}{to te:TE}{apos pos:Pos}
section
open Builtin Builtin.Str
variable{prog:aaC}{w:World}{A:Around}{E:Aaa}{s:Shared}
end
def Pu(K:aag)(to te:TE):TE:=λU H Q=>to U H λx H1=>∃a:Str,x=.str a/\te U H1 λy H2=>∃(p:Addr) (ss:A3),y=.ref p/\Cr K H2 p (ss.map V.str)/\JoinOk a ss=true/\Q (.str (Txt.join a ss)) H2
def jj:∀{ss:A3} {us:Aad},oF (ss.map V.str) us->∃l:List (Str×Tok),l.map (·.1)=ss/\strValues l=us
 |[],_,h=>by cases h;exact#[[],rfl,rfl]
 |s::ss,_,h=>by
  cases h with
  |cons a b=>obtain⟨t,rfl⟩:=a;obtain⟨l,e1,e2⟩:=jj b;exact#[(s,t)::l,#[1],by rw[<- e2];rfl]
def wv(ho:PE X o to)(he:PE X e te)(BI:autoParam (abT o "join" X.env (eval o X.env)=eval o X.env) At)(hs:autoParam (aal [e] X.env=[(false,eval e X.env)]) At)(BH:autoParam ((apos.endLine==pos.line)=true) At):
  PE X (.Call (.Attribute o "join" apos) [e] [] pos) (Pu X.K to te):=by
 refine λpins s U H Q I h=>Call_method1 BI hs BH (Bt (ho pins s U H _ I h) λv s1 #[x,H1,I1,r1,a,e1,q1]=>?_);subst e1;obtain⟨t,rfl⟩:=r1;refine SB.join (Bt (he pins s1 U H1 _ I1 q1) λu s2 #[y,H2,I2,r2,p,ss,e2,hp,hj,q2]=>?_);subst e2;cases r2;obtain⟨eQ,rv,pl,_⟩:=I2.list hp;obtain⟨l,e1,e2⟩:=jj rv;refine#[p,l,rfl,by rw[e2];exact pl.isList,ss,e1,hj,λt' k=>?_];exact#[.str _,H2,I2.kept (λb o e=>e),#[t',rfl],q2]
end L2
namespace Q
open PySem L2 PyProof.Rows
variable{ob:B3}{X:Cx}{a b e:Expr}{f g:WE}{apos pos:Pos}
noncomputable def Ke(f g:WE):WE:=λenv P=>f env λx e1=>match x with
 |.str a=>g e1 λy e2=>match y with
  |.lst ys=>∃ss,ys.mapM B7=some ss/\JoinOk a ss=true/\P (.str (Txt.join a ss)) e2
  |_=>False
 |_=>False
def xw(ha:Bk ob X a f)(hb:Fz ob X b g)(BI:autoParam (abT a "join" X.env (eval a X.env)=eval a X.env) At)(hs:autoParam (aal [b] X.env=[(false,eval b X.env)]) At)(BH:autoParam ((apos.endLine==pos.line)=true) At):
  Bk ob X (.Call (.Attribute a "join" apos) [b] [] pos) (Ke f g):=by
 obtain⟨ta,ha,ka⟩:=ha.ex;obtain⟨tb,hb,kb⟩:=hb.ex;refine#[_,wv ha hb BI hs BH,λZ F U H env P Q K hf kk=>ka Z F U H env _ _ K hf λx e1 v F1 H1 p s1 K1 r1=>?_];split at p
 .cases r1;refine#[_,rfl,kb Z F1 U H1 e1 _ _ K1 p λy e2 u F2 H2 p2 s2 K2 r2=>?_];split at p2
  .obtain⟨ss,es,hj,p2⟩:=p2;obtain⟨q,vs,rfl,h1,h2⟩:=r2.lst K2.sF;have:=bw eF es h2;subst this;exact#[q,ss,rfl,.inl (.inl h1),hj,kk _ e2 _ F2 H2 p2 (af s1 s2) K2 (.str _)]
  .exact p2.elim
 .exact p.elim
end Q
namespace L2
open PySem PySem.Spec PyProof.Rows
variable{prog:aaC}{w:World}{A:Around}{E:Aaa}{s:Shared}{l b:Addr}{items Cv:Aak}{n n2:Nat}
variable{X:Cx}
end L2
namespace Q
open PySem L2 PyProof.Rows
variable{ob:B3}{X:Cx}{e:Expr}{g:WE}{pos pos':Pos}
end Q
set_option maxHeartbeats 400000
namespace L2
open PySem PySem.Spec PyProof.Rows
noncomputable def Vp(K:aag)(l:Addr):It :=
 #[λi H=>∃xs x,Cr K H l xs/\xs[i]?=some x,
  λi H v H'=>∃p x,v=.ref p/\H p=none/\H'=upd H p (.tup [.int i,x])/\∀xs,Cr K H l xs->xs[i]?=some x,
  λi H=>∃xs,Cr K H l xs/\xs.length<=i]
structure EnT(h:Heap)(e it l:Addr)(i:Nat):Prop where
 en:∃old,IsEnum h e it i old
 li:h.IsListIter it l i
variable{P:aaC}{w:World}{K:aag}{elts:Aai}{pos:Pos}
theorem qS{x1:_}(l e it:Addr)(C5:e≠it):
  Turn P w K (.Tuple elts x1 pos) (Vp K l) [e,it] e (λn h=>EnT h e it l n) where
 mem:=by simp
 obj:=λn h Z c hc=>by
  obtain⟨⟨old,ee⟩,o,eo,r1,r2⟩:=Z;simp only[aaY,aa7,or_false]at hc;rcases hc with rfl|rfl
  .exact#[_,ee,λv q=>(by cases (show afF _=aeP v from q))]
  .exact#[_,eo,λv q=>(by rw[r2]at q;cases q)]
 keep:=λn h h' Z k=>by obtain⟨⟨old,ee⟩,o,eo,r⟩:=Z;exact#[#[old,k e #[0] _ ee],o,k it #[0] _ eo,r]
 item:=by
  intro X hP hw hK hc n pins s U H E I hf Z hg;subst hP hw hK;obtain⟨⟨old,ee⟩,Hx⟩:=Z;obtain⟨xs,x,hx,ex⟩:=hg;obtain⟨eQ,rv,pl,hz⟩:=I.list hx;obtain⟨v,ev,r⟩:=rv.get ex;have DS:H s.heap.objs.size=none:=I.Bc.fresh (aai _);have ol:∀c∈[e,it],c<s.heap.objs.size:=λc hc=>by
   obtain⟨o,eo,r⟩:=Hx;simp only[aaY,aa7,or_false]at hc;rcases hc with rfl|rfl
   .exact aah ee
   .exact aah eo
  have XO:s.heap.objs.size≠e:=abF (ol e #[0]);have XN:s.heap.objs.size≠it:=abF (ol it #[0]);refine wpAny_pyNext_enum_item ee Hx pl.isList (x:=v) (by simpa using ev) C5 λh' q1 q2 q3 q4 kk=>?_;refine#[_,rfl,afG (s:={s with heap:=h',toks:=s.toks+1}) q1 λh2 w1 w2=>?_];have I1:Inv X pins U (upd H s.heap.objs.size (.tup [.int n,x])) {s with heap:=s.heap.push {cls:=.type "tuple",data:=.seq #v[.int n s.toks,v]}} :=
   I.laid (t':=s.toks) (λb u e=>aac _ e) (aai _) #[by show 2<=sizeLine;decide,[.int n s.toks,v],.cons #[s.toks,rfl] (.cons r .nil),#[_,aaf _ rfl,rfl,_,rfl],_,aaf _ rfl,rfl]
  have Jq:∀c∈[e,it],DL X pins (upd H s.heap.objs.size (.tup [.int n,x])) c:=λc hc=>#[by rw[aj (aap (ol c hc))];exact(hf c hc).1,(hf c hc).2]
  have I2:Inv X pins U (upd H s.heap.objs.size (.tup [.int n,x])) {s with heap:=h2,toks:=s.toks+1}:=by
   refine I1.CI (t':=s.toks+1) (h':=h2) (λc q hc eq=>?_) Jq;have Q5:c≠e:=λz=>hc (by simp[z]);have UG:c≠it:=λz=>hc (by simp[z]);refine w2.extBut _ _ Q5 ?_;by_cases Hz:c=s.heap.objs.size
   .subst Hz;have:(s.heap.push {cls:=.type "tuple",data:=.seq #v[.int n s.toks,v]}).get? s.heap.objs.size=some {cls:=.type "tuple",data:=.seq #v[.int n s.toks,v]}:=aaf _ rfl;have e':some {cls:=.type "tuple",data:=.seq #v[.int n s.toks,v]}=some q:=this.symm.trans eq;rw[<- e'];exact q3
   .exact kk c q Q5 UG ((adS _ _ _ Hz).symm.trans eq)
  refine#[.ref s.heap.objs.size,_,I2,rfl,#[_,x,rfl,DS,rfl,λVL g=>?_],?_,λc hc=>(Jq c hc).1]
  .rw[I.D6 g hx];exact ex
  .refine#[#[_,w1],?_];obtain⟨o,eo,r⟩:=q2;exact#[o,w2.extBut _ _ (abz C5) eo,r]
 done:=by intro X hP hw hK hc n pins s U H E I hf Z hg;subst hP hw hK;obtain⟨⟨old,ee⟩,Hx⟩:=Z;obtain⟨xs,hx,hl⟩:=hg;obtain⟨eQ,rv,pl,hz⟩:=I.list hx;have l1:=rv.length;refine wpAny_pyNext_enum_end (I.ok.hd hc) ee Hx pl.isList #[3] λh' kk=>#[rfl,I.CI (t':=s.toks) (λc q hc eq=>kk c q (λz=>hc (by simp[z])) eq) hf]
 self:=λA i s Q E Z h=>by obtain⟨⟨old,ee⟩,_⟩:=Z;exact adM ee h
variable{X:Cx}
def QK(K:aag)(ta:TA):TI:=λU H R=>ta U H λvs H1=>∃l xs,vs=[.ref l]/\Cr K H1 l xs/\R (Vp K l) H1
variable{Dj p:Pos}{a:Expr}{ta:TA}
def wt{x1:_}(hg:Gl X "enumerate")(hm:X.mg "enumerate" = none)(ha:PA X [a] ta)(hs:autoParam (aal [a] X.env=[(false,eval a X.env)]) At):
  PI X (.Tuple elts x1 Dj) (.Call (.Name "enumerate" p) [a] [] pos) (QK X.K ta):=by
 refine λpins s U H R I h=>Call_ (cw I hg hm boot_enumerate (ab5 (Bt (ha pos pins s U H _ I h) λus s1 #[vs,H1,I1,r1,q1]=>?_) (by rw[hs];rfl) rfl));obtain⟨l,xs,e,hx,q⟩:=q1;subst e;cases r1 with
 |cons ra rr=>
  cases rr;cases ra;obtain⟨eQ,rv,pl,hz⟩:=I1.list hx;refine call_enumerate_list pl.isList λh' he hi sz kk=>?_;have I2  := I1.kept (t':=s1.toks) kk;refine adM he #[_,_,_,_,H1,rfl,I2,qS l _ _ (Nat.succ_ne_self _),#[#[_,he],hi],λb' hb=>?_,q];have HS:s1.heap.objs.size<=b':=by
   simp only[aaY,aa7,or_false]at hb;rcases hb with rfl|rfl
   .exact acA _
   .exact aai _
  exact I1.GH HS (I1.Bc.fresh HS)
end L2
namespace Q
open PySem L2 PyProof.Rows
noncomputable def CL(xs:Aab):Aab:=xs.zipIdx.map λp=>.tup [.int p.2,p.1]
variable{M:Md}{F:Hp}{a:Addr}{vs:Aag}{xs:Aab}
theorem zb(h1:Cr M.K F a vs)(r1:nE M.K F vs xs):EF M (Vp M.K a) F (CL xs):=by
 refine#[λZ i U env F' H x s K e=>?_,λZ i U env F' H s K hl=>#[vs,ba K.sF (ba s h1),?_]]
 .unfold CL at e;rw[aaj,adl]at e;cases ez:xs[i]? with
  |none=>rw[ez]at e;cases e
  |some x1=>
   rw[ez]at e;have e  := (aar e).symm;rw[aaG]at e;subst e;obtain⟨v1,q1,q2⟩:=r1.get ez;have g1:=ba K.sF (ba s h1);refine#[#[vs,v1,g1,q1],λv' H' y=>?_];obtain⟨p,w1,rfl,hp,rfl,y⟩:=y;have y1:=y vs g1;rw[q1]at y1;cases y1;have hF  := dO.none_of K.sF hp;refine#[_,ao hF,K.lay hp,.tup (.inl (.inl ah)) (.cons (.int _) (.cons ((q2.mono s).mono (ao hF)) .nil)),ao hp,λc hc=>?_];by_cases z:c=p
   .subst z;exact .inr hp
   .rw[aj z]at hc;exact .inl hc
 .have:=r1.len;simp only[CL,aad,adE]at hl;omega
variable{ob:B3}{X:Cx}{a:Expr}{fa:WA}{p pos:Pos}
def iE(a:WA):WA:=λenv P=>a env λxs e=>match xs with
 |[.lst xs]=>P (CL xs) e
 |_=>False
variable{elts:Aai}{Dj:Pos}
def xN{x1:_}(hg:Gl X "enumerate")(hm:X.mg "enumerate" = none)(ha:Gm ob X [a] fa)(hs:autoParam (aal [a] X.env=[(false,eval a X.env)]) At):
  GW ob X (.Tuple elts x1 Dj) (.Call (.Name "enumerate" p) [a] [] pos) (iE fa):=by
 obtain⟨t,ht,k⟩:=ha.ex;refine#[_,wt hg hm ht hs,λZ F U H env P R K hf kk=>k Z F U H env _ _ K hf λxs e1 vs F1 H1 p _ s1 K1 r1=>?_];split at p
 .cases r1 with
  |cons r1 r2=>
   cases r2;cases r1 with
   |lst g1 g2=>exact#[_,_,rfl,ba K1.sF (.inl (.inl g1)),kk _ e1 _ F1 H1 p s1 K1 (zb (.inl (.inl g1)) g2)]
 .exact p.elim
variable{p2:Pos}{x:Str}
end Q
namespace Pre
open PySem L2
def oP:Sp:=λvs H Q _=>∃(a b:Addr) (m:Int) (f:Nat),vs=[.ref a,.int m]/\OI H a b (f+1)/\0<m/\m<1073741824/\∀(r:Int) (H':Hp),0<=r->r<m->OI H' a b f->Ik a b H H'->Q (.int r) H'
def fF(K:aag):Sp:=λvs H Q _=>∃(s:Addr) (ns:Aar),vs=[.ref s]/\Cr K H s (ns.map V.int)/\ns.length<=63/\∀(a b:Addr) (H':Hp),H a=none->H b=none->OI H' a b 1000000->dO H H'->Q (.ref a) H'
end Pre
namespace Q
open PySem L2 PyProof.Rows
def ma:GV:=λc xs P=>∃(f:Nat) (m:Int),c=.int ((f+1:Nat):Int)/\xs=[.int m]/\0<m/\m<1073741824/\∀r:Int,0<=r->r<m->P (.int r) (.int (f:Int))
variable{H:Hp}{a:Addr}
def oN{b:Addr}{f:Nat}(s:Pre.OI H a b f):H a≠none/\H b≠none:=by obtain⟨ns,_,_,_,h1,h2,_⟩:=s.st;exact#[by rw[h1];simp,by rw[h2];simp]
variable{P:aaC}{w:World}{K:aag}{mg:Aaf}{base:Heap}{k:Nat}{fd:abL}{ps:A3}
theorem sh{CS:Addr}(F:Bi P w K mg base Cp k CS fd ps Pre.oP):Bi P w K mg base Cp k CS fd ps (Kp #[P,w,K,Ee K] 2 ma):=by
 refine F.imp λvs H Q E h=>?_;obtain⟨F,a,l,c,ws,xs,P',rfl,sF,r,hl,ho,hb,⟨f,m,rfl,rfl,m0,m1,hP⟩,kk⟩:=h;obtain⟨b,rfl,S⟩:∃b,l=[a,b]/\Pre.OI H a b (f+1):=by
  rcases ho with (⟨h,_⟩|⟨g,b,h,h2,h3⟩)|⟨ks,h,_⟩|⟨_,_,_,_,h,_⟩|⟨_,_,_,_,_,h,_⟩
  .cases h
  .injection h with h;have e:f+1=g:=by omega
   subst e;exact#[b,h2,h3]
  .cases h
  .cases h
  .cases h
 cases r with
 |cons r1 r2=>
  cases r2;cases r1;refine#[a,b,m,f,rfl,S,m0,m1,λr H' r0 r1 S' hB=>?_];have two:=oN S';have keep:∀c o,H c=some o->c∉[a,b]->H' c=some o:=λc o h hn=>by simp at hn;exact hB c o h hn.1 hn.2
  refine kk (.int r) (.int (f:Int)) (.int r) F H' [a,b] (hP r r0 r1) keep (λc h=>?_) ai (λc o h=>?_) (λc h=>.inl h) (.inl (.inr #[f,b,rfl,rfl,S'])) (λc hc=>?_) (λc hc=>.inl hc) (.int r)
  .by_cases q:c∈[a,b]
   .simp at q;rcases q with rfl|rfl
    .exact two.1
    .exact two.2
   .obtain⟨o,ho⟩:=cz h;rw[keep c o ho q];simp
  .refine keep c o (sF c o h) λq=>?_;have:=(hb c q).2;rw[h]at this;cases this
  .refine#[?_,(hb c hc).2];simp at hc;rcases hc with rfl|rfl
   .exact two.1
   .exact two.2
noncomputable def eJ(i j:Nat):WS:=λP env=>match env[j]? with
 |some (some #[0,x])=>(∃ns:Aar,(x=.Cq ns\/x=.lst (ns.map .int))/\ns.length<=63)/\P.nx (env.set i (some #[4,.int ((1000000:Nat):Int)]))
 |_=>False
variable{X:Cx}{CS:Addr}{x y:Str}{p p1 pos pos':Pos}
theorem sX(i j:Nat)(hN:X.N.Nodup)(hi:X.N[i]?=some y)(hx:Loc X.env.scope y)(F:Bi X.prog X.w X.K X.mg X.base Cp k CS fd ps (Pre.fF X.K))(hr:BB k X.A)(hm:X.mg "_law_begin" = some (.ref CS))(hk:abJ X.K (.ref CS)=true)(hb:Binds X.K fd ps [])(ho:PE X (.Name x p1) (Bw j))
  (hg:autoParam (Gl X "_law_begin") At) (he:autoParam (aal [.Name x p1] X.env=(false,eval (.Name x p1) X.env)::aal [] X.env) At) (Cj:autoParam ((backTo pos (aal [] X.env)).any (·.1)=false) At)
  {BM:Pos} (hs:autoParam (ab3 (.Call (.Name "_law_begin" p) [.Name x p1] [] pos) (some (.Name y pos')) BM.line X.env=pure false) At) (hf:autoParam (X.fn y=true\/X.env.scope.names.lookup y=some .local) ge) :
  EX (Ee X.K) X (.Assign [.Name y pos'] (.Call (.Name "_law_begin" p) [.Name x p1] [] pos) BM) (eJ i j):=by
 refine#[_,bp hN hi hx (cR (E:=E0) F hr hg hm hk hb .nil FZ (aD ho aQ he) #[2] he Cj) hs hf,λZ F U H env P D K hf L=>?_];unfold eJ at hf;split at hf
 .rename_i v ej;obtain⟨⟨ns,hv,hn⟩,hp⟩:=hf;obtain⟨w,hw,r⟩:=K.val ej;obtain⟨s,rfl,hs⟩:∃s,w=.ref s/\Cr X.K H s (ns.map V.int):=by
   rcases hv with rfl|rfl
   .cases r with
    |Cq h=>exact#[_,rfl,ba K.sF h.sq]
   .cases r with
    |lst h1 h2=>have:=mW h2;subst this;exact#[_,rfl,.inl (.inl (K.sF _ _ h1))]
  refine#[_,hw,s,ns,rfl,hs,hn,λa b H' ha hb S sH=>?_];have UN:F a=none:=dO.none_of K.sF ha;have Y8:F b=none:=dO.none_of K.sF hb;have K1:rW (md (Ee X.K) X) Z F U H' env:=K.move ai (af K.sF sH) sH λ_ h=>.inl h;obtain⟨fp,L0⟩:=K.sl;have L1:Slots (md (Ee X.K) X) Z F U H' env fp:=L0.move ai (λ_ c o _ e=>sH c o e) λ_ h=>.inl h;have two:=oN S;refine L.nx _ _ F H' hp ai ?_;rcases aaS i env.length with BU|HS;case inr=>rw[abv HS,abv (by have:=K.len;omega)];exact K1
  refine K1.slots (by simp[K.len]) (L1.put (l:=[a,b]) #[0] (by have:=K.len;omega) (.inr (.inr (.inl #[.inr rfl,a,rfl,λc hc=>.inr ?_,   .inl (.inr #[1000000,b,rfl,rfl,S])]))) (λc hc=>?_) λj c _ hc hj=>?_)
  .simp at hc;rcases hc with rfl|rfl
   .exact K.h0 ha
   .exact K.h0 hb
  .simp at hc;rcases hc with rfl|rfl
   .exact#[two.1,UN]
   .exact#[two.2,Y8]
  .have:=(L0.al j c hj).1;simp at hc;rcases hc with rfl|rfl
   .exact this ha
   .exact this hb
 .exact hf.elim
variable{ob:B3}
def qz(i j:Nat)(hN:X.N.Nodup)(hi:X.N[i]?=some y)(hx:Loc X.env.scope y)(F:Bi X.prog X.w X.K X.mg X.base Cp k CS fd ps (Pre.fF X.K))(hr:BB k X.A)(hm:X.mg "_law_begin" = some (.ref CS))(hk:abJ X.K (.ref CS)=true)(hb:Binds X.K fd ps [])(ho:PE X (.Name x p1) (Bw j))
  (Le:autoParam (ob=Ee X.K) At) (hg:autoParam (Gl X "_law_begin") At) (he:autoParam (aal [.Name x p1] X.env=(false,eval (.Name x p1) X.env)::aal [] X.env) At) (Cj:autoParam ((backTo pos (aal [] X.env)).any (·.1)=false) At)
  {BM:Pos} (hs:autoParam (ab3 (.Call (.Name "_law_begin" p) [.Name x p1] [] pos) (some (.Name y pos')) BM.line X.env=pure false) At) (hf:autoParam (X.fn y=true\/X.env.scope.names.lookup y=some .local) ge) :
  EX ob X (.Assign [.Name y pos'] (.Call (.Name "_law_begin" p) [.Name x p1] [] pos) BM) (eJ i j):=by
 subst Le;exact sX i j hN hi hx F hr hm hk hb ho hg he Cj hs hf
variable{g:WG}{c:WT}{f:WE}{js:Aae}
theorem gF{P:Aal}(I:Nat->List PV->En->Prop):∀{xs:Aab} {i:Nat} {acc:Aab} {env:En},I i acc env->acc.length<=i->i+xs.length<=100000 ->
  (∀(j:Nat) (x:PV) (acc:Aab) (env:En) (R:Aat->En->Prop),xs[j]?=some x->I (i+j) acc env->(∀(o:Aat) (bY:En),I (i+j+1) (acc++o.toList) bY->R o bY)->g x (Eb js env) λb1=>c b1 λok b2=>if ok=true then f b2 λy b3=>R (some y) (BV js env b3)else R none (BV js env b2)) ->
  (∀acc env,I (i+xs.length) acc env->acc.length<=i+xs.length->P (.lst acc) env)->Cg g c f js P xs env acc
 |[],i,acc,env,h0,hl,_,_,hd=>hd acc env (by simpa using h0) (by simpa using hl)
 |x::xs,i,acc,env,h0,hl,hb,hs,hd=>by
  have Jf:i+xs.length+1<=100000:=by simpa[abZ]using hb
  refine hs 0 x acc env (λo e=>(match o with|some y=>acc.length<=100000/\Cg g c f js P xs e (acc++[y])|none=>Cg g c f js P xs e acc)) rfl h0 λo e' ho=>?_;have rest:∀Ji,I (i+1) Ji e'->Ji.length<=i+1->Cg g c f js P xs e' Ji:=λJi h1 h2=>gF I (i:=i+1) h1 h2 #[] (λj y a env R hj hI k=>hs (j+1) y a env R (by simpa using hj) (by rwa [abZ,acT 1 j]at hI) λo e h=>k o e (by rwa [abZ i 1 j,acT 1 j])) λa e h h'=>hd a e (by rwa [aay,acT xs.length 1,<- abZ]) (by rw[aay];omega);cases o with
  |none=>exact rest acc (by simpa using ho) #[]
  |some y=>exact#[#[],rest (acc++[y]) (by simpa using ho) #[3]]
variable{pins:Aac}{s:Shared}{U:L2.St}
end Q
namespace L2
open PySem PySem.Spec PyProof.Rows PySem.W
def FP(h:Heap)(a:Addr)(k:Int×Str):Prop:=∃o n t u rs,h.get? a=some o/\o.cls=.type "tuple" /\ o.data=.seq (Value.int k.1 t::aee k.2 u::rs).toArray n
variable{h h':Heap}{a:Addr}{k:Int×Str}
def FP.mono(x:FP h a k)(g:∀o,h.get? a=some o->h'.get? a=some o):FP h' a k:=by obtain⟨o,n,t,u,rs,e,r⟩:=x;exact#[o,n,t,u,rs,g o e,r]
variable{prog:aaC}{w:World}{A:Around}{E:Aaa}{s:Shared}
variable{x y:Addr}{l:Int×Str}{Q:Bool->Shared->Prop}
theorem Ap(hx:FP s.heap x k)(hy:FP s.heap y l)(C5:k.2≠l.2)(h:Q (decide (k.1<l.1\/(k.1=l.1/\Bv k.2 l.2))) s):wpAny #[9] A (keyLt' (afn true) (.ref x) (.ref y)) Q E s:=by
 obtain⟨ox,n,t,u,rs,e1,_,e2⟩:=hx;obtain⟨oy,n',t',u',rs',f1,_,f2⟩:=hy;refine kat_lt e1 e2 f1 f2 (kat_cons (wpAny_eqBool_int ?_));by_cases e:k.1=l.1
 .rw[show (k.1==l.1)=true by simp[e]];refine kat_yes (kat_cons (ae9 ?_));rw[decide_eq_false C5];refine kat_one _ _ (lt_str ?_);have:decide (k.1<l.1\/(k.1=l.1/\Bv k.2 l.2))=decide (k.2.cps.toList<l.2.cps.toList):=by
   rw[aaQ,decide_eq_true_eq,decide_eq_true_eq];constructor
   .rintro(z|⟨_,z⟩)
    .omega
    .exact z
   .exact λz=>.inr #[e,z]
  rw[this]at h;exact h
 .rw[show (k.1==l.1)=false by simp[e]];refine oneLt_int ?_;have:decide (k.1<l.1\/(k.1=l.1/\Bv k.2 l.2))=decide (k.1<l.1):=by simp_all
  rw[this]at h;exact h
def lm:∀ad:Aaj,(∀a∈ad,∃k,FP h a k)->∃fs:Aad,KatTups h (ad.map aba) fs/\fs.length=ad.length/\∀v∈fs,∃c t,v=.int c t
 |[],_=>#[[],trivial,rfl,λ_ z=>#[1]]
 |a::ad,hp=>by
  obtain⟨fs,h1,h2,h3⟩:=lm ad λb hb=>hp b (aaq _ hb);obtain⟨k,o,n,t,u,rs,e1,e2,e3⟩:=hp a aaz;refine#[.int k.1 t::fs,#[#[a,o,_,n,rfl,e1,e2,e3,rfl],h1],#[1],λv hv=>?_];rcases List.mem_cons.mp hv with rfl|hv
  .exact#[_,_,rfl]
  .exact h3 v hv
variable{n:Nat}{ks:List (Int×Str)}
theorem vU{ad:Aaj}{P:PySem.Fin->Shared->Prop}(ho:s.heap.get? a=some (seqObj "list" (ad.map aba).toArray n))(l2:ks.length=ad.length)(Gg:ad.length<64)(nd:(ks.map (·.2)).Nodup)
  (hp:∀i,i<ad.length->FP s.heap (ad.getD i 0) (ks.getD i (0,#[#v[]]))) (Yu:∀i,i<ad.length->ad.getD i 0≠a)
  (h:∀ix:Aan,ix.length=ad.length->ix.Nodup->(∀i∈ix,i<ad.length)->ix.Pairwise (λi j=>JT ks i j=true)->P (.done (.ret .none)) {s with heap:=sortedHeap s.heap a (ad.map aba) (ix.map λi=>aba (ad.getD i 0)).toArray}) :
  wpAny #[9] A (acP.«list.sort» #[[.ref a],[]]) P E s:=by
 rw[list_sort_plain];have ha:a<s.heap.objs.size:=aah ho;have lv:(ad.map aba).length=ad.length:=aad ..;have hz:(ad.map aba).length<=sizeLine:=by rw[lv,aaJ];omega
 generalize TV:ad.map aba=vs at ho lv hz h ⊢;have UX:∀i,i<ad.length->vs.getD i abP=.ref (ad.getD i 0):=λi hi=>by rw[<- TV,aau,aaj,aab hi,aau,aab hi];rfl
 refine aaa (listItems_at ho rfl ?_);refine aaa (adW ho rfl ?_ (by rw[aak];exact hz) (abg _));obtain⟨e1,Ja⟩:∃e1,(s.heap.update a (abE λ_=>#v[])).get? a=some (seqObj "list" #v[] e1):=#[_,aft ho (λ_=>#v[])]
 refine aaa (aeu Ja rfl ?_);refine aaa (afL ?_ (by show vs.length<=_;exact hz));refine aaa (acV ?_ (abg _));refine aaX ?_;have Lf:(((s.heap.update a (abE λ_=>#v[])).push (seqObj "tuple" vs.toArray 0)).push (seqObj "list" #v[] 0)).get? a=some (seqObj "list" #v[] e1) :=
  aac _ (aac _ Ja)
 have old:∀b o,b≠a->s.heap.get? b=some o->(((s.heap.update a (abE λ_=>#v[])).push (seqObj "tuple" vs.toArray 0)).push (seqObj "list" #v[] 0)).get? b=some o:=λb o hb g=>aac _ (aac _ ((acO _ _ _ _ hb).trans g))
 have sH:∀out:Aak,sortedHeap s.heap a vs out=(((s.heap.update a (abE λ_=>#v[])).push (seqObj "tuple" vs.toArray 0)).push (seqObj "list" #v[] 0)).update a (abE λ_=>out):=λ_=>rfl;simp only[sH]at h;generalize hh6:((s.heap.update a (abE λ_=>#v[])).push (seqObj "tuple" vs.toArray 0)).push (seqObj "list" #v[] 0)=h6 at Lf old h ⊢;have Ub:∀i,i<ad.length->FP h6 (ad.getD i 0) (ks.getD i (0,#[#v[]])):=λi hi=>(hp i hi).mono λo g=>old _ o (Yu i hi) g;by_cases h2:vs.toArray.size<2
 .rw[if_pos h2,if_pos h2];refine aaa (aae ?_);dsimp only;rw[StateT.run_pure];refine aaa (aae ?_);dsimp only;have eo:(arrOf (SortSt.mk' general' (vs.toArray.zip vs.toArray) #v[] 7 none)).map (·.2)=vs.toArray:=by
   show (vs.toArray.zip vs.toArray).map (·.2)=vs.toArray;apply Array.ext
   .simp
   .intro i h1 h2;simp
  rw[eo];refine aaa (aeu Lf rfl (aaa (adW Lf rfl ?_ (abg _) (by rw[aak];exact Nat.le_succ_of_le hz))));simp only[bne_self_eq_false,abA,if_false];rw[aak,lv]at h2;have ei:((aa3 ad.length).map λi=>aba (ad.getD i 0))=vs:=by
   rw[<- TV];apply abR;intro i;rw[aaj,aaj];by_cases hi:i<ad.length
   .rw[acq hi,aab hi];simp[hi]
   .rw[aam (by simpa using hi),aam #[]];rfl
  have q:=h (aa3 ad.length) #[0] ad7 (λi hi=>List.mem_range.mp hi) (by
   match hv:ad.length,h2 with
   |0,_=>simp
   |1,_=>simp[aei])
  rw[ei]at q;exact aae q
 .rw[if_neg h2,if_neg h2];rw[aak,lv]at h2;obtain⟨fs,f1,f2,f3⟩:=lm (h:=h6) ad λb hb=>by obtain⟨i,hi,rfl⟩:=List.mem_iff_getElem.mp hb;have:=Ub i hi;rw[aau,aab hi]at this;exact#[_,this]
  rw[TV]at f1;refine aaa (kat_kind (s:={s with heap:=h6}) (T:=.type "int") f1 #[] (λv hv=>?_) rfl ?_)
  .obtain⟨c,t,rfl⟩:=f3 v hv;exact Looks.of_pure rfl
  have hT:((abM "int") != (abM "tuple"))=true:=by decide
  rw[hT];have X1:(vs.toArray.zip vs.toArray).size=ad.length:=by rw[Array.size_zip,aak,lv];omega
  have Zo:SortSt.mk' (afn true) (vs.toArray.zip vs.toArray) #v[] 7 none=kas_st (afn true) (vs.toArray.zip vs.toArray) (ae7 (aa3 ad.length)):=by have q:=kas_range (vs.toArray.zip vs.toArray);rw[X1]at q;show _=SortSt.mk' (afn true) ((ae7 (aa3 ad.length)).map (aff _)) #v[] 7 none;rw[q]
  have o:Srt.Ord (JT ks) ad.length:=by have:=wX nd;rw[l2]at this;exact this
  have it:∀i,i<ad.length->aff (vs.toArray.zip vs.toArray) i=(.ref (ad.getD i 0),.ref (ad.getD i 0)):=λi hi=>by rw[kat_item rfl i,UX i hi]
  have MJ:∀i j,i<ad.length->j<ad.length->i≠j->(ks.getD i (0,#[#v[]])).2≠(ks.getD j (0,#[#v[]])).2:=λi j hi hj ne q=>by
   have a:(ks.map (·.2))[i]'(by rw[aad];omega)=(ks.map (·.2))[j]'(by rw[aad];omega):=by simp_all
   exact ne ((abk nd).mp a)
  have ask:(kas_sort ad.length).kasWp (kas_cmp prog w A (afn true) (vs.toArray.zip vs.toArray)) (λp z=>z={s with heap:=h6}/\Srt.Pm p ad.length/\Srt.Jv (JT ks) p ad.length) {s with heap:=h6}:=by refine Srt.pw_wp (lt:=JT ks) (n:=ad.length) (Q:=λp=>Srt.Pm p ad.length/\Srt.Jv (JT ks) p ad.length) (J:=λz=>z={s with heap:=h6}) ?_ (λp z hz q=>#[hz,q]) (kas_sort ad.length) _ rfl (Srt.oQ o #[] λp a b=>#[a,b]);rintro i j C z hi hj ne rfl hC;show wpAny _ _ (keyLt' (afn true) (aff _ i).1 (aff _ j).1) _ _ _;rw[it i hi,it j hj];refine Ap (Ub _ #[]) (Ub _ #[]) (MJ _ _ #[] #[] #[]) ?_;exact hC _ rfl
  have run:=kas_runs (E:=E) (Q:=λ_ FH z=>∃p:Array Nat,p.size=ad.length/\arrOf FH=p.map (aff (vs.toArray.zip vs.toArray))/\failedOf FH=none/\z={s with heap:=h6}/\Srt.Pm p ad.length/\Srt.Jv (JT ks) p ad.length)
   #[] Gg (λp' FH z a1 a2 a3 a4=>#[p',a1,a2,a3,a4]) ask
  rw[<- Zo]at run;refine aaa (aa5 run ?_ λ_ _ q=>q);rintro⟨⟨⟩,FH⟩ z ⟨p,V6,YZ,hf,rfl,Pm,As⟩;dsimp only;have BU:∀i∈p.toList,i<ad.length:=λi hi=>by obtain⟨j,hj,rfl⟩:=Array.mem_iff_getElem.mp (Array.mem_toList_iff.mp hi);have:=Pm.lt j (by rw[<- Pm.sz];exact hj);rw[Srt.aL]at this;simpa only[abW hj,ad5]using this
  have XR:p.toList.Nodup:=by
   rw[ab7,acf];intro i j hi hj EI q;have Fk:i<p.size:=by simpa using hi
   have E2:j<p.size:=by simpa using hj
   have:=Pm.nd i j (by rw[<- Pm.sz];exact Fk) (by rw[<- Pm.sz];exact E2) (by rw[Srt.aL,Srt.aL];simpa[Fk,E2]using q);omega
  have Xj:p.toList.Pairwise λi j=>JT ks i j=true:=by
   rw[acf];intro i j hi hj EI;have Fk:i<p.size:=by simpa using hi
   have E2:j<p.size:=by simpa using hj
   have:=As i j EI (by rw[<- Pm.sz];exact E2);rw[Srt.aL,Srt.aL]at this;simpa[Fk,E2]using this
  have eo:(arrOf FH).map (·.2)=(p.toList.map λi=>aba (ad.getD i 0)).toArray:=by apply Array.toList_inj.mp;rw[YZ,Array.map_map,Array.toList_map];exact abD λi hi=>by show (aff _ i).2=_;rw[it i (BU i hi)]
  rw[eo];refine aaa (aeu Lf rfl (aaa (adW Lf rfl ?_ (abg _) ?_)))
  .rw[hf];simp only[bne_self_eq_false,abA,if_false];exact aae (h _ (by rw[aaE,V6]) XR BU Xj)
  .rw[aak,aad,aaE,V6,aaJ];omega
theorem qX{l:Addr}{ad:Aaj}{Q:Aaa}(hl:s.heap.IsList l (ad.map aba).toArray)(l2:ks.length=ad.length)(Gg:ad.length<64)(nd:(ks.map (·.2)).Nodup)
  (hp:∀i,i<ad.length->FP s.heap (ad.getD i 0) (ks.getD i (0,#[#v[]])))
  (h:∀ix:Aan,ix.length=ad.length->ix.Nodup->(∀i∈ix,i<ad.length)->ix.Pairwise (λi j=>JT ks i j=true)->Q (.ref (s.heap.objs.size+1)) {s with heap:=sortedAll s.heap (ad.map aba) (ix.map λi=>aba (ad.getD i 0)).toArray}) :
  wpAny #[9] A (call (.builtin "sorted") [.ref l]) Q E s:=by
 have hz:(ad.map aba).length<=sizeLine:=by rw[aad,aaJ];omega
 refine acM afr ae3 ae4 (ae5 _) (aaa (aae ?_));refine aaa (collect_list hl (aaa (acV ?_ hz)) #[]);have hsz:((s.heap.push (seqObj "list" #v[] 0)).update s.heap.objs.size (abE (·++(ad.map aba).toArray))).objs.size=s.heap.objs.size+1:=by simp
 have I0:(((s.heap.push (seqObj "list" #v[] 0)).update s.heap.objs.size (abE (·++(ad.map aba).toArray))).push (seqObj "list" (ad.map aba).toArray 0)).get? (s.heap.objs.size+1)=some (seqObj "list" (ad.map aba).toArray 0):=by rw[<- hsz];exact aaf _ rfl
 have old:∀b o,s.heap.get? b=some o->(((s.heap.push (seqObj "list" #v[] 0)).update s.heap.objs.size (abE (·++(ad.map aba).toArray))).push (seqObj "list" (ad.map aba).toArray 0)).get? b=some o:=λb o g=>aac _ ((acO _ _ _ _ (aap (aah g))).trans (aac _ g))
 rw[hsz];refine aaa (aaX (aaT adG #[_,I0,rfl] adq (vU I0 l2 Gg nd (λi hi=>(hp i hi).mono λo g=>old _ o g) (λi hi=>?_) λix i1 i2 i3 i4=>#[_,rfl,?_]) (adI _)))
 .obtain⟨o,_,_,_,_,g,_⟩:=hp i hi;have:=aah g;exact aap (abG this)
 .exact aae #[_,rfl,h ix i1 i2 i3 i4]
structure RN(ks:List (Int×Str))(n:Nat)(ix:Aan):Prop where
 len:ix.length=n
 nd:ix.Nodup
 lt:∀i∈ix,i<n
 up:ix.Pairwise λi j=>JT ks i j=true
def MX(K:aag):Aag->Hp->VK->Prop:=λxs H Q=>∃(l:Addr) (ad:Aaj) (ks:List (Int×Str)),xs=[.ref l]/\Cr K H l (ad.map V.ref)/\ad.length<64/\ks.length=ad.length/\(ks.map (·.2)).Nodup /\
 (∀i,i<ad.length->∃r,Cf K H (ad.getD i 0) (.int (ks.getD i k0).1::.str (ks.getD i k0).2::r))/\∀D ix,H D=none->RN ks ad.length ix->Q (.ref D) (upd H D (.lst (ix.map λi=>V.ref (ad.getD i 0))))
variable{eQ:Aad}
def Aq{r:Aag}(rv:oF (.int k.1::.str k.2::r) eQ)(tp:IsTup h a eQ.toArray):FP h a k:=by
 cases rv with
 |cons a1 a2=>cases a2 with
  |cons b1 b2=>obtain⟨t,rfl⟩:=a1;obtain⟨u,rfl⟩:=b1;obtain⟨o,e1,e2,n,e3⟩:=tp;exact#[o,n,t,u,_,e1,e2,e3]
variable{X:Cx}
theorem qF:Bd X (.builtin "sorted") (MX X.K):=by
 intro pins s U H xs us Q I r h;obtain⟨l,ad,ks,rfl,hl,Gg,l2,nd,hk,hQ⟩:=h;obtain⟨u,rfl,ru⟩:=r.one;cases ru;obtain⟨eQ,rv,pl,hz⟩:=I.list hl;have:=lf rv;subst this;refine qX pl.isList l2 Gg nd (λi hi=>?_) λix i1 i2 i3 i4=>?_
 .obtain⟨r,hk⟩:=hk i hi;obtain⟨BO,Ir,Pk,_⟩:=I.tuple hk;exact Aq Ir Pk
 .have hn  := I.Bc.fresh (acA _);obtain⟨e,he⟩:=sortedAll_at s.heap _ _;refine#[.ref _,_,I.laid (o:=.lst _) (λb o q=>sortedAll_old q) (acA _) #[?_,_,e,?_,he],rfl,hQ _ ix hn #[i1,i2,i3,i4]]
  .rw[aad,i1,aaJ];omega
  .have:=lB (ix.map λi=>ad.getD i 0);rw[aax,aax]at this;exact this
end L2
namespace Q
open PySem L2 PyProof.Rows
noncomputable def HV:PV->Option (Int×Str)
 |.tup (.int c::.str s::_)=>some (c,s)
 |_=>none
def Ic(fa:WA):WE:=λenv P=>fa env λxs e=>match xs with
 |[.lst ys]=>∃ks:List (Int×Str),ys.mapM HV=some ks/\(ks.map (·.2)).Nodup/\ys.length<64/\∀ix:Aan,RN ks ys.length ix->P (.lst (ix.map λi=>ys.getD i .AZ)) e
 |_=>False
variable{K:aag}{F:Hp}{v:V}{y:PV}
def uQ{x:Int×Str}(r:Rep K F v y)(h:HV y=some x):∃a t,v=.ref a/\Cf K F a (.int x.1::.str x.2::t):=by
 unfold HV at h;split at h
 .cases h;cases r with
  |tup h1 h2=>cases h2 with
   |cons r1 r2=>cases r2 with
    |cons r3 r4=>cases r1;cases r3;exact#[_,_,rfl,h1]
 .cases h
def qW:∀{ys:Aab} {ks:List (Int×Str)} {vs:Aag},ys.mapM HV=some ks->nE K F vs ys->∃ad:Aaj,vs=ad.map V.ref/\ad.length=ys.length/\∀i,i<ad.length->∃r,Cf K F (ad.getD i 0) (.int (ks.getD i k0).1::.str (ks.getD i k0).2::r)
 |[],ks,vs,_,h=>by cases h;exact#[[],rfl,rfl,λi hi=>#[1]]
 |y::ys,ks,vs,hk,h=>by
  cases h with
  |cons r t=>
   rw[abh]at hk;cases e1:HV y with
   |none=>rw[e1]at hk;cases hk
   |some k=>
    cases e2:ys.mapM HV with
    |none=>rw[e1,e2]at hk;cases hk
    |some Tz=>
     rw[e1,e2]at hk;have hk  := (aar hk).symm;subst hk;obtain⟨ad,rfl,h1,h2⟩:=qW e2 t;obtain⟨a,w,rfl,g⟩:=uQ r e1;refine#[a::ad,rfl,#[1],λi hi=>?_];cases i with
     |zero=>exact#[w,g]
     |succ i=>exact h2 i #[1]
variable{ob:B3}{X:Cx}{e:Expr}{es:Aai}{fa:WA}{pos p:Pos}
theorem uX(hg:Gl X "sorted")(hm:X.mg "sorted" = none)(ha:GX ob X (e::es) fa)
  (he:autoParam #[8] At) (Cj:autoParam #[11] At):EY ob X (.Call (.Name "sorted" p) (e::es) [] pos) (Ic fa):=by
 obtain⟨t,ht,k⟩:=ha.ex;refine#[_,bi qF hg hm aew ht #[2] #[2] he Cj,λZ F U H env P Q K hf kk=>k Z F U H env _ _ K hf λxs e1 vs F1 H1 p s1 K1 r1=>?_];split at p
 .obtain⟨ks,hs,nd,hl,p⟩:=p;obtain⟨v,rfl,r⟩:=r1.one;obtain⟨q,vs,rfl,h1,h2⟩:=r.lst K1.sF;have g1:=(aH hs).1;obtain⟨ad,rfl,a1,a2⟩:=qW hs h2;refine#[q,ad,ks,rfl,.inl (.inl h1),#[],#[],nd,λi hi=>?_,λD ix hD ok=>?_]
  .obtain⟨r,a2⟩:=a2 i hi;exact#[r,ap K1.sF a2]
  .have rp:=gz h2 ix λi hi=>by have:=ok.lt i hi;omega
   have ev:(ix.map λi=>(ad.map V.ref).getD i .AZ)=ix.map λi=>V.ref (ad.getD i 0):=abD λi hi=>by have:=ok.lt i hi;rw[aau,aau,aaj,aab this];rfl
   rw[ev]at rp;exact kk _ e1 _ F1 _ (p ix (a1 ▸ ok)) s1 (λ_=>#[0]) (K1.own hD #[_,ah,rp])
 .exact p.elim
end Q
set_option maxHeartbeats 1000000
namespace L2
open PySem PySem.Spec PyProof.Rows
open AutoSeq1 (wpAny_loadPart')
variable{prog:aaC}{w:World}{A:Around}
def Draws.tup(hh:A.handled=none)(it l:Addr)(C5:l≠it)(items:Aak):
  Draws prog w A it [it,l] items.size (λi v=>items[i]?=some v) (λi h=>h.IsTupleIter it l i/\h.IsTuple l items) where
 live:=λ_ _ st=>let #[o,ho,_]:=st.1;#[o,ho]
 frame:=λ_ _ _ st hk=>#[by obtain⟨o,e,r⟩:=st.1;exact#[o,hk it #[0] o e,r],by obtain⟨o,e,r⟩:=st.2;exact#[o,hk l #[0] o e,r]]
 item:=λi s Q E hi st hQ=>by exact ph st.1 st.2 (x:=items[i]) (by simp[hi]) λh' Us La=>hQ _ h' s.toks (by simp[hi]) #[Us,by obtain⟨o,e,r⟩:=st.2;exact#[o,La.extBut _ _ C5 e,r]] La
 done:=λs Q E st hE=>Ia hh st.1 st.2 #[0] hE
def oA(l:Addr)(items:Aak)(n:Nat)(Ve:Option Addr)(sl:Array (Option Value)):
  Meets (acP.«enumerate.__new__» #[[.type "enumerate",.ref l],[]]) (λ_ R s=>s.heap.get? l=some {cls:=.type "tuple",dict:=Ve,data:=.seq items n,slots:=sl} /\
   R (.ok (.ret (.ref (s.heap.push {cls:=.type "tuple_iterator",data:=.fields #v[.ref l,.int 0 0]}).objs.size)))
    {s with heap:=(s.heap.push {cls:=.type "tuple_iterator",data:=.fields #v[.ref l,.int 0 0]}).push {cls:=.type "enumerate",data:=.fields #v[.none,.bool false,.ref s.heap.objs.size,rawInt 0,.none,.none]}}) :=
 .of_wp λprog w A R s h=>by
  obtain⟨hp,g,d,tk,os⟩:=s;obtain⟨hl,h⟩:=h;have IZ:=sub_enumerate;have hL:Heap.IsTuple (Shared.heap #[hp,g,d,tk,os]) l items:=#[_,hl,rfl,n,rfl]
  wp_walk using aci hl
  refine wpAny_stack_any λst=>aae ?_;split
  .rename_i c _ _ _ _ _;cases (c==abM "enumerate")
   .wp_walk using aci hl,ab9 hL
    exact#[_,rfl,h]
   .wp_walk using aci hl,ab9 hL
    exact#[_,rfl,h]
  .wp_walk using aci hl,ab9 hL
   exact#[_,rfl,h]
variable{E:Aaa}{s:Shared}
variable{l:Addr}{items:Aak}{Q:Aaa}
def fR(hL:s.heap.IsTuple l items)
  (h:∀h',IsEnum h' (s.heap.objs.size+1) s.heap.objs.size 0 .none->h'.IsTupleIter s.heap.objs.size l 0->h'.objs.size=s.heap.objs.size+2 ->
   (∀b o,s.heap.get? b=some o->h'.get? b=some o)->Q (.ref (s.heap.objs.size+1)) {s with heap:=h'}) :
  wpAny #[9] A (call (.type "enumerate") [.ref l]) Q E s:=by
 obtain⟨⟨c,Ve,dt,sl⟩,hl,hc,n,hd⟩:=hL;subst hc hd;refine callType_new F.called_enumerate (rfl) (F.typeCall_enumerate_1 _) (F.newCall_enumerate_1 _) (λobj=>F.args_object_init_2 obj _) F.entry_enumerate_new
  (oA l items n Ve sl) #[hl,?_]
 have hz:(s.heap.push {cls:=.type "tuple_iterator",data:=.fields #v[.ref l,.int 0 0]}).objs.size=s.heap.objs.size+1:=aa9 ..;rw[hz];have he  :=by
  have:=aaf (s.heap.push {cls:=.type "tuple_iterator",data:=.fields #v[.ref l,.int 0 0]})
   (o:={cls:=.type "enumerate",data:=.fields #v[.none,.bool false,.ref s.heap.objs.size,rawInt 0,.none,.none]}) rfl
  rw[hz]at this;exact this
 refine#[#[_,he,rfl],h _ he #[_,aac _ (aaf _ rfl),rfl,rfl] #[1] λb o x=>aac _ (aac _ x)]
variable{it:Addr}{i:Nat}
def tj{e:Addr}{old:Value}{Q:Aam}(hh:A.handled=none)
  (he:IsEnum s.heap e it i old) (hit:s.heap.IsTupleIter it l i) (hl:s.heap.IsTuple l items) (hx:items[i]?=none)
  (hQ:∀h',ad1 it s.heap h'->Q none {s with heap:=h'}):wpAny #[9] A (pyNext (.ref e)) Q E s:=by
 have hT:s.TypeIs (.ref e) "enumerate" := #[_,he,rfl]
 unfold pyNext;refine aaa (aeD (aa4 (name:=aao "__next__") hT F.slot_enumerate_next
  (aaT F.slot_enumerate_next hT F.entry_enumerate_next ?_ (F.args_enumerate_next_1 _))))
 show wpAny _ _ (field (.ref e) 2 >>= _) _ _ _;refine aaa (abf he rfl (x:=.ref it) rfl ?_);refine aaa (Ia hh hit hl hx λh' x YN KW=>?_);obtain⟨o,ho,hc⟩:=KW;refine aaa (ad4 (T := "StopIteration") (b:=true) #[o,ho,hc] afM ?_);exact aae (hQ _ YN)
noncomputable def Vq(K:aag)(l:Addr):It :=
 #[λi H=>∃xs x,Cf K H l xs/\xs[i]?=some x,
  λi H v H'=>∃p x,v=.ref p/\H p=none/\H'=upd H p (.tup [.int i,x])/\∀xs,Cf K H l xs->xs[i]?=some x,
  λi H=>∃xs,Cf K H l xs/\xs.length<=i]
structure Vu(h:Heap)(e it l:Addr)(i:Nat):Prop where
 en:∃old,IsEnum h e it i old
 li:h.IsTupleIter it l i
variable{P:aaC}{K:aag}{elts:Aai}{pos:Pos}
theorem pZ{x1:_}(l e it:Addr)(C5:e≠it):
  Turn P w K (.Tuple elts x1 pos) (Vq K l) [e,it] e (λn h=>Vu h e it l n) where
 mem:=by simp
 obj:=λn h Z c hc=>by
  obtain⟨⟨old,ee⟩,o,eo,r1,r2⟩:=Z;simp only[aaY,aa7,or_false]at hc;rcases hc with rfl|rfl
  .exact#[_,ee,λv q=>(by cases (show afF _=aeP v from q))]
  .exact#[_,eo,λv q=>(by rw[r2]at q;cases q)]
 keep:=λn h h' Z k=>by obtain⟨⟨old,ee⟩,o,eo,r⟩:=Z;exact#[#[old,k e #[0] _ ee],o,k it #[0] _ eo,r]
 item:=by
  intro X hP hw hK hc n pins s U H E I hf Z hg;subst hP hw hK;obtain⟨⟨old,ee⟩,Hx⟩:=Z;obtain⟨xs,x,hx,ex⟩:=hg;obtain⟨eQ,rv,pl,hz⟩:=I.tuple hx;obtain⟨v,ev,r⟩:=rv.get ex;have DS:H s.heap.objs.size=none:=I.Bc.fresh (aai _);have ol:∀c∈[e,it],c<s.heap.objs.size:=λc hc=>by
   obtain⟨o,eo,r⟩:=Hx;simp only[aaY,aa7,or_false]at hc;rcases hc with rfl|rfl
   .exact aah ee
   .exact aah eo
  have XO:s.heap.objs.size≠e:=abF (ol e #[0]);have XN:s.heap.objs.size≠it:=abF (ol it #[0]);have Uu:l≠it:=λz=>by subst z;obtain⟨o,eo,_,r2⟩:=Hx;obtain⟨o',Su,_,n',r3⟩:=pl;rw[eo]at Su;cases Su;rw[r2]at r3;cases r3
  have hle:e≠l:=λz=>by subst z;obtain⟨o',Su,r4,_⟩:=pl;have q:_=some o':=(Eq.symm ee).trans Su;cases q;exact absurd (show abM "enumerate" = abM "tuple" from r4) #[2]
  refine wpAny_pyNext_enum_itemD (n:=eQ.toArray.size) (Draws.tup (prog:=X.prog) (w:=X.w) (A:=X.A.in1) (I.ok.hd hc) it l Uu eQ.toArray) ee #[Hx,pl] (by have:=List.getElem?_eq_some_iff.mp ev;obtain⟨z,_⟩:=this;simpa using z) C5 (by simp[C5,hle]) λy h' tk q0 q1 q2 q3 q4 kk=>?_;obtain rfl:y=v:=by simp_all
  replace q2:=q2.1;refine#[_,rfl,afG (s:={s with heap:=h',toks:=tk+1}) q1 λh2 w1 w2=>?_];have I1:Inv X pins U (upd H s.heap.objs.size (.tup [.int n,x])) {s with heap:=s.heap.push {cls:=.type "tuple",data:=.seq #v[.int n tk,y]}} :=
   I.laid (t':=s.toks) (λb u e=>aac _ e) (aai _) #[by show 2<=sizeLine;decide,[.int n tk,y],.cons #[tk,rfl] (.cons r .nil),#[_,aaf _ rfl,rfl,_,rfl],_,aaf _ rfl,rfl]
  have Jq:∀c∈[e,it],DL X pins (upd H s.heap.objs.size (.tup [.int n,x])) c:=λc hc=>#[by rw[aj (aap (ol c hc))];exact(hf c hc).1,(hf c hc).2]
  have I2  :=by
   refine I1.CI (t':=tk+1) (h':=h2) (λc q hc eq=>?_) Jq;have Q5:c≠e:=λz=>hc (by simp[z]);have UG:c≠it:=λz=>hc (by simp[z]);refine w2.extBut _ _ Q5 ?_;by_cases Hz:c=s.heap.objs.size
   .subst Hz;have:(s.heap.push {cls:=.type "tuple",data:=.seq #v[.int n tk,y]}).get? s.heap.objs.size=some {cls:=.type "tuple",data:=.seq #v[.int n tk,y]}:=aaf _ rfl;have e'  := this.symm.trans eq;rw[<- e'];exact q3
   .exact kk c q Q5 UG ((adS _ _ _ Hz).symm.trans eq)
  refine#[.ref s.heap.objs.size,_,I2,rfl,#[_,x,rfl,DS,rfl,λVL g=>?_],?_,λc hc=>(Jq c hc).1]
  .rw[I.CU g hx];exact ex
  .refine#[#[_,w1],?_];obtain⟨o,eo,r⟩:=q2;exact#[o,w2.extBut _ _ (abz C5) eo,r]
 done:=by intro X hP hw hK hc n pins s U H E I hf Z hg;subst hP hw hK;obtain⟨⟨old,ee⟩,Hx⟩:=Z;obtain⟨xs,hx,hl⟩:=hg;obtain⟨eQ,rv,pl,hz⟩:=I.tuple hx;have l1:=rv.length;refine tj (I.ok.hd hc) ee Hx pl #[3] λh' kk=>#[rfl,I.CI (t':=s.toks) (λc q hc eq=>kk c q (λz=>hc (by simp[z])) eq) hf]
 self:=λA i s Q E Z h=>by obtain⟨⟨old,ee⟩,_⟩:=Z;exact adM ee h
variable{X:Cx}
def Nm(K:aag)(ta:TA):TI:=λU H R=>ta U H λvs H1=>∃l xs,vs=[.ref l]/\Cf K H1 l xs/\R (Vq K l) H1
variable{Dj p:Pos}{a:Expr}{ta:TA}
def ue{x1:_}(hg:Gl X "enumerate")(hm:X.mg "enumerate" = none)(ha:PA X [a] ta)(hs:autoParam (aal [a] X.env=[(false,eval a X.env)]) At):
  PI X (.Tuple elts x1 Dj) (.Call (.Name "enumerate" p) [a] [] pos) (Nm X.K ta):=by
 refine λpins s U H R I h=>Call_ (cw I hg hm boot_enumerate (ab5 (Bt (ha pos pins s U H _ I h) λus s1 #[vs,H1,I1,r1,q1]=>?_) (by rw[hs];rfl) rfl));obtain⟨l,xs,e,hx,q⟩:=q1;subst e;cases r1 with
 |cons ra rr=>
  cases rr;cases ra;obtain⟨eQ,rv,pl,hz⟩:=I1.tuple hx;refine fR pl λh' he hi sz kk=>?_;have I2  := I1.kept (t':=s1.toks) kk;refine adM he #[_,_,_,_,H1,rfl,I2,pZ l _ _ (Nat.succ_ne_self _),#[#[_,he],hi],λb' hb=>?_,q];have HS:s1.heap.objs.size<=b':=by
   simp only[aaY,aa7,or_false]at hb;rcases hb with rfl|rfl
   .exact acA _
   .exact aai _
  exact I1.GH HS (I1.Bc.fresh HS)
end L2
namespace Q
open PySem L2 PyProof.Rows
variable{M:Md}{F:Hp}{a:Addr}{vs:Aag}{xs:Aab}
theorem xb(h1:Cf M.K F a vs)(r1:nE M.K F vs xs):EF M (Vq M.K a) F (CL xs):=by
 refine#[λZ i U env F' H x s K e=>?_,λZ i U env F' H s K hl=>#[vs,ap K.sF (ap s h1),?_]]
 .unfold CL at e;rw[aaj,adl]at e;cases ez:xs[i]? with
  |none=>rw[ez]at e;cases e
  |some x1=>
   rw[ez]at e;have e  := (aar e).symm;rw[aaG]at e;subst e;obtain⟨v1,q1,q2⟩:=r1.get ez;have g1:=ap K.sF (ap s h1);refine#[#[vs,v1,g1,q1],λv' H' y=>?_];obtain⟨p,w1,rfl,hp,rfl,y⟩:=y;have y1:=y vs g1;rw[q1]at y1;cases y1;have hF  := dO.none_of K.sF hp;refine#[_,ao hF,K.lay hp,.tup (.inl (.inl ah)) (.cons (.int _) (.cons ((q2.mono s).mono (ao hF)) .nil)),ao hp,λc hc=>?_];by_cases z:c=p
   .subst z;exact .inr hp
   .rw[aj z]at hc;exact .inl hc
 .have:=r1.len;simp only[CL,aad,adE]at hl;omega
variable{ob:B3}{X:Cx}{a:Expr}{fa:WA}{p pos:Pos}
noncomputable def TL(a:WA):WA:=λenv P=>a env λxs e=>match xs with
 |[.tup xs]=>P (CL xs) e
 |_=>False
variable{elts:Aai}{Dj:Pos}
def u8{x1:_}(hg:Gl X "enumerate")(hm:X.mg "enumerate" = none)(ha:Gm ob X [a] fa)(hs:autoParam (aal [a] X.env=[(false,eval a X.env)]) At):
  GW ob X (.Tuple elts x1 Dj) (.Call (.Name "enumerate" p) [a] [] pos) (TL fa):=by
 obtain⟨t,ht,k⟩:=ha.ex;refine#[_,ue hg hm ht hs,λZ F U H env P R K hf kk=>k Z F U H env _ _ K hf λxs e1 vs F1 H1 p _ s1 K1 r1=>?_];split at p
 .cases r1 with
  |cons r1 r2=>
   cases r2;cases r1 with
   |tup g1 g2=>exact#[_,_,rfl,ap K1.sF g1,kk _ e1 _ F1 H1 p s1 K1 (xb g1 g2)]
 .exact p.elim
end Q
namespace L2
open PySem PySem.Spec PyProof.Rows
def oq(t:adY)(n:Nat):(t.orStandIn n).led=t.led:=by
 unfold SetTable.orStandIn afc
 split<;>rfl
def qr(t:adY)(es:Array (Int×Value))(h:Int)(x:Value):(layNew t es h x).2.1.led=t.led:=by
 unfold layNew;split
 .exact oq _ _
 .rfl
variable{t:adY}{n:Nat}
def iz{t':adY}{hs:Array Int}{o:Array Nat}(e:t.relaid hs n=some (t',o)):t'.led=t.led/\t'.plain=t.plain:=by
 unfold SetTable.relaid SetTable.laid at e;cases q:SetTable.layClean _ hs with
 |none=>rw[q]at e;cases e
 |some ow=>rw[q]at e;have e':=aar e;cases e';exact#[rfl,rfl]
def mZ(t:adY)(es:Array (Int×Value))(n:Nat):(aen t es n).2.1.led=t.led:=by
 unfold aen afc;split
 .rename_i e;dsimp only;split
  .exact(iz e).1
  .rfl
 .rfl
def jZ(t:adY)(es:Array (Int×Value))(n:Nat)(h:t.plain=false):(aen t es n).2.1.plain=false:=by
 unfold aen afc;split
 .rename_i e;dsimp only;split
  .exact(iz e).2.trans h
  .rfl
 .rfl
def Cn(P:aaC)(w:World)(h:Heap)(a:Addr)(ss:A3):Prop :=
 ∃o es ep t ks,h.get? a=some o/\o.ExactSet/\o.data=.set es ep t/\ElemsOf (strKind P w) es.toList/\acp (es.toList.map (·.2)) ks/\ks.Perm ss/\es.size<scanBound/\t.fits es.size=true /\
  (w.params.followText "set-order" = false->t.led=true)/\(es.size≠0->t.plain=false)
variable{P:aaC}{w:World}{h h':Heap}{a:Addr}{ss:A3}
def Cn.keep(x:Cn P w h a ss)(k:∀o,h.get? a=some o->h'.get? a=some o):Cn P w h' a ss:=by obtain⟨o,es,ep,t,ks,a1,r⟩:=x;exact#[o,es,ep,t,ks,k o a1,r]
variable{vs:Aad}
def bV{ks:A3}{Pe:Aad}(p:Pe.Perm vs):acp vs ks->∃Tz,acp Pe Tz/\Tz.Perm ks:=by
 induction p generalizing ks with
 |nil=>exact λh=>#[ks,h,.refl _]
 |cons x p ih=>
  intro h;cases h with
  |cons s t r=>obtain⟨k1,h1,p1⟩:=ih r;exact#[_,.cons s t h1,p1.cons _]
 |swap x y l=>
  intro h;cases h with
  |cons s t r=>cases r with|cons s' t' r'=>exact#[_,.cons s' t' (.cons s t r'),.swap ..]
 |trans p1 p2 QF QE=>intro h;obtain⟨k2,h2,q2⟩:=QE h;obtain⟨k1,h1,q1⟩:=QF h2;exact#[k1,h1,q1.trans q2]
def dP{k:Str}:∀{es:List (Int×Value)} {ks:A3},acp (es.map (·.2)) ks->(k∈ks↔∃e∈es,(strKind P w).is k e.2=true)
 |[],ks,h=>by cases h;simp
 |e::es,ks,h=>by
  obtain⟨hh,v⟩:=e;cases h with
  |cons s t r=>
   rw[aaY,dP r];constructor
   .rintro(rfl|⟨e,he,q⟩)
    .exact#[_,aaz,aem _ _ _ _]
    .exact#[e,aaq _ he,q]
   .rintro⟨e,he,q⟩;rcases List.mem_cons.mp he with rfl|he
    .obtain⟨t',e'⟩:=aex (v:=aee s t) q;cases e';exact .inl rfl
    .exact .inr #[e,he,q]
variable{prog:aaC}{A:Around}{E:Aaa}{s:Shared}
variable{o:Obj}{es:Array (Int×Value)}{ep:Nat}
def Cn.stored{ks:A3}(ho:h.get? a=some o)(hex:o.ExactSet)(hd:o.data=.set es ep t)
  {Hl:Array (Int×Value)} {t':adY} (Ny:ElemsOf (strKind prog w) Hl.toList) (Hy:acp (Hl.toList.map (·.2)) ks) (p:ks.Perm ss) (hb:Hl.size<scanBound) (hf:t'.fits Hl.size=true)
  (Eo:w.params.followText "set-order" = false->t'.led=true) (Cj:Hl.size≠0->t'.plain=false) :
  (h.update a (Obj.putSet Hl t')).get? a=some {o with data:=.set Hl (ep+1) t'}/\Cn prog w (h.update a (Obj.putSet Hl t')) a ss:=by
 have hg:=abn (Obj.putSet Hl t') ho (by rw[putSet_of Hl t' hd];rfl);rw[putSet_of Hl t' hd]at hg;exact#[hg,_,Hl,ep+1,t',ks,hg,hex,rfl,Ny,Hy,p,hb,hf,Eo,Cj]
variable{Q:Bool->Shared->Prop}
def Vg{k:Str}{tk:Tok}(hS:Cn prog w s.heap a ss)(QR:ss.length+1<scanBound)
  (h:∀b h',ab1 a s.heap h'->Cn prog w h' a (if k∈ss then ss else ss++[k])->Q b {s with heap:=h'}) :
  wpAny #[9] A (setAddHashed a (.str k tk) ((strKind prog w).hash k)) Q E s:=by
 obtain⟨o,es,ep,t,ks,ho,hex,hd,Ny,Hy,p,hb,hf,Eo,Cj⟩:=hS;have ET:(strKind prog w).is k (.str k tk)=true:=aem _ _ _ _;have hlen:es.size=ss.length:=by have:=Hy.length;rw[aad,aaE]at this;rw[this,p.length_eq]
 unfold setAddHashed setAddHashedIn;refine aaX (aaa (acF ho hd hf ?_));dsimp only;rw[byScan_of (knd:=strKind prog w) rfl hb Ny];simp only[↓reduceIte];unfold setAddByScan;refine aaa (aaa (act (aaa (wpAny_setScan_of ET ho hd hf Ny ?_))));cases hr:List.findIdx? _ es.toList with
 |some j=>obtain⟨hj,Yp,_⟩:=List.findIdx?_eq_some_iff_getElem.mp hr;have hm:k∈ss:=p.mem_iff.mp ((dP Hy).mpr #[_,aa8 hj,Yp]);have q:=h false s.heap (Heap.SameBut.refl a s.heap);rw[if_pos hm]at q;exact aae (aae (q #[o,es,ep,t,ks,ho,hex,hd,Ny,Hy,p,hb,hf,Eo,Cj]))
 |none=>
  have hm:k∉ss:=λhk=>by obtain⟨e,he,q⟩:=(dP (P:=prog) (w:=w) Hy).mp (p.mem_iff.mpr hk);have:=List.findIdx?_eq_none_iff.mp hr e he;rw[q]at this;cases this
  rw[if_neg hm]at h;dsimp only;have a1:=layNew_perm t es ((strKind prog w).hash k) (.str k tk);have a2:=layNew_fits t es ((strKind prog w).hash k) (.str k tk);have a3:=qr t es ((strKind prog w).hash k) (.str k tk);generalize layNew t es ((strKind prog w).hash k) (.str k tk)=L at a1 a2 a3 ⊢;obtain⟨Fs,t1,wd,gave⟩:=L;dsimp only at a1 a2 a3 ⊢;rw[Array.toList_push]at a1;have Q3:ElemsOf (strKind prog w) Fs.toList:=(Ny.push ET rfl).perm a1;obtain⟨k1,WB,p1⟩:=bV (ks:=ks++[k]) (a1.map (·.2)) (by
   rw[aaO];have:∀{vs:Aad} {ks:A3},acp vs ks->acp (vs++[aee k tk]) (ks++[k]):=λ{vs ks} z=>by
    induction z with
    |nil=>exact .cons _ _ .nil
    |cons s t r ih=>exact .cons s t ih
   exact this Hy)
  have p2:k1.Perm (ss++[k]):=p1.trans (p.append_right [k]);have z1:Fs.size=ss.length+1:=by rw[<- aaE,a1.length_eq,aan,aaE,hlen];rfl
  have b1:Fs.size<scanBound:=by rw[z1];exact QR
  have gw:∀(b:Bool) {sc:Shared} {Q':Unit->Shared->Prop},Q' () sc->wpAny #[9] A (match b with|true=>rule "set.scan.the-table-gave-way" |false=>pure ()) Q' E sc :=
   λb _ _ z=>by cases b<;>first|exact aae z|exact act z
  have tail:∀t2:adY,t2.fits Fs.size=true->t2.led=t.led->t2.plain=false->wpAny #[9] A (do
    storeSet a Fs t2
    if (!wd && t2.tooFull)=true then do
      (match (aen t2 Fs (acw Fs.size)).2.2 with|true=>rule "set.scan.the-table-gave-way" |false=>pure ())
      storeSet a (aen t2 Fs (acw Fs.size)).1 (aen t2 Fs (acw Fs.size)).2.1
      pure (some true)
     else pure (some true)) (λr s'=>∃h',r=some true/\s'={s with heap:=h'}/\ab1 a s.heap h'/\Cn prog w h' a (ss++[k])) E s:=by
   intro t2 f2 l2 q2;refine aaa (wpAny_storeSet_of ho hd ?_ (aeT b1));obtain⟨Ja,Y3⟩:=Cn.stored (prog:=prog) (w:=w) ho hex hd Q3 WB p2 b1 f2 (λe=>l2.trans (Eo e)) (λ_=>q2);have VX:=abi s.heap a (Obj.putSet Fs t2);split
   .have c1:=relayAll_perm t2 Fs (acw Fs.size);have c2:=relayAll_fits t2 Fs (acw Fs.size);have c3:=mZ t2 Fs (acw Fs.size);have c4:=jZ t2 Fs (acw Fs.size) q2;generalize aen t2 Fs (acw Fs.size)=Rl at c1 c2 c3 c4 ⊢;obtain⟨W5,t3,g2⟩:=Rl;dsimp only at c1 c2 c3 c4 ⊢;obtain⟨k2,YA,p3⟩:=bV (c1.map (·.2)) WB;have z2:W5.size=Fs.size:=by rw[<- aaE,c1.length_eq,aaE]
    have b2:W5.size<scanBound:=by rw[z2];exact b1
    refine aaa (gw _ ?_);refine aaa (wpAny_storeSet_of Ja rfl ?_ (aeT b2));obtain⟨_,Sq⟩:=Cn.stored (prog:=prog) (w:=w) Ja hex rfl (Q3.perm c1) YA (p3.trans p2) b2 c2 (λe=>c3.trans (l2.trans (Eo e))) (λ_=>c4);exact aae #[_,rfl,rfl,VX.trans (abi _ a _),Sq]
   .exact aae #[_,rfl,rfl,VX,Y3]
  have done:∀r s',(∃h',r=some true/\s'={s with heap:=h'}/\ab1 a s.heap h'/\Cn prog w h' a (ss++[k]))->wpAny #[9] A (match r with|some added=>pure added|none=>setAddHashedIn a (.str k tk) ((strKind prog w).hash k) 99999) Q E s':=by rintro _ _ ⟨h',rfl,rfl,sb,x⟩;exact aae (h true h' sb x)
  refine aaa (gw _ ?_);split
  .refine aaa ?_;refine aae ?_;exact aa5 (tail _ (SetTable.fits_plain_off a2) a3 rfl) done λ_ _ e=>e
  .rename_i hp;refine aaa (aae ?_);simp only[↓reduceIte];exact aa5 (tail _ a2 a3 (by simpa using hp)) done λ_ _ e=>e
noncomputable def D0(ss:A3):A3:=ss.foldl (λacc k=>if k∈acc then acc else acc++[k]) []
def fO(ss:A3)(k:Str):D0 (ss++[k])=if k∈D0 ss then D0 ss else D0 ss++[k]:=by unfold D0;rw[aeZ];rfl
variable{j:Nat}
def vb(hj:j<ss.length):D0 (ss.take (j+1))=if ss[j]∈D0 (ss.take j)then D0 (ss.take j)else D0 (ss.take j)++[ss[j]]:=by rw[abC,aab hj,Option.toList_some,fO]
variable{O:Type}
def jQ{p:List O->Prop}(h0:p [])(h1:∀xs k,p xs->p (xs++[k]))(l:List O):p l:=by
 rw[<- List.reverse_reverse l];induction l.reverse with
 |nil=>exact h0
 |cons a r ih=>rw[acj];exact h1 _ _ ih
def kR(x:Str)(ss:A3):x∈D0 ss↔x∈ss:=by
 induction ss using jQ with
 |h0=>rfl
 |h1 xs k ih=>
  rw[fO];split
  .rename_i h;rw[acB,aeL,<- ih];exact#[.inl,λq=>q.elim id λe=>e ▸ h]
  .rw[acB,acB,ih]
def lS(ss:A3):(D0 ss).Nodup:=by
 induction ss using jQ with
 |h0=>exact .nil
 |h1 xs k ih=>
  rw[fO];split
  .exact ih
  .rename_i h;rw[abH];exact#[ih,List.nodup_cons.mpr #[aa7,.nil],λa ha b hb e=>h #[1]]
def hZ(ss:A3):(D0 ss).length<=ss.length:=by
 induction ss using jQ with
 |h0=>exact aai _
 |h1 xs k ih=>
  rw[fO,aan];split
  .exact aaK ih (ad6 ..)
  .rw[aan];exact Nat.add_le_add_right ih _
variable{R:Result->Shared->Prop}{d:Addr}{fp:Aaj}
theorem lA{I:Addr}{wr:Aaj}{G:Array GenState->Array GenState->Prop}{P:Nat->Value->Prop}{St:Nat->Shared->Prop}(hb:ss.length+1<scanBound)
  (W:WalksS prog w A.in1 I fp wr G ss.length P St) (hd:d∉fp) (hP:∀i v (hi:i<ss.length),P i v->∃t,v=.str ss[i] t) :
  ∀(m j:Nat) (z:Shared),ss.length - j=m->j<=ss.length->St j z->Cn prog w z.heap d (D0 (ss.take j)) ->
   (∀z',Moved (d::wr) G z z'->Cn prog w z'.heap d (D0 (ss.take ss.length))->R (.ok (.ret .none)) z') ->
   acK #[9] A (.builtin "set.update.loop" #[[.ref d,.ref I],[]]) R z:=by
 have dw:d∉wr:=λh=>hd (W.sub _ h);have inc:∀b∈wr,b∈d::wr:=λb hb=>aaq _ hb;intro m;induction m with
 |zero=>
  intro j z hm hj st hs hR;obtain rfl:j=ss.length:=by omega
  refine abK F.entry_set_update_loop ?_;exact aaa (W.done z _ _ st λz' mv=>aae (hR z' (mv.mono inc) (hs.keep λo g=>mv.heap d _ dw g)))
 |succ m ih=>
  intro j z hm hj st hs hR;have hl:j<ss.length:=by omega
  refine abK F.entry_set_update_loop ?_;refine aaa (W.item j z _ _ hl st λv z' hv FH mv=>?_);obtain⟨t,rfl⟩:=hP j v hl hv;refine aaa (aaX ?_);unfold setAdd;refine aaX (aaa ((strKind prog w).pyHash (k:=ss[j]) (aem _ _ _ _) ?_));have lz:(D0 (ss.take j)).length+1<scanBound:=by
   have q1:=hZ (ss.take j);have q2:(ss.take j).length<=ss.length:=by rw[abp];omega
   omega
  refine Vg (hs.keep λo g=>mv.heap d _ dw g) lz λb h' sb IB=>?_;rw[<- vb hl]at IB;refine aae #[acH F.plain_set_update_loop _,ih (j+1) _ #[] hl (W.frame _ z' _ _ FH (acA _) λb hb o e=>?_) IB λXc XT Wo=>?_]
  .rw[sb.2 b λq:b=d=>hd (q ▸ hb)];exact e
  .refine hR Xc (Moved.trans W.gtrans ((mv.mono inc).then_heap (acA _) λb o hb e=>?_) XT) Wo;rw[sb.2 b λq:b=d=>hb (q ▸ aaz)];exact e
def ir(a:Value){Q:Aaa}(h:Q (.ref s.heap.objs.size) {s with heap:=s.heap.push {cls:=.type "set",dict:=none,data:=.set #v[] 0 (.fresh 0 0 (!w.params.followText "set-order"))}}):
  acK #[9] A (.call (.builtin "set.__new__") #[[.type "set",a],[]]) (wants Q E) s:=by
 refine aed (aaa (afl (F.newCall_set_1 a) (aae #[acH F.plain_set_new _,abK F.entry_set_new ?_])));have q0:=sub_set_self
 wp_walk
 refine acs (aae ?_);exact aaa (wpAny_alloc (aae (aae h)))
variable{l:Addr}{items:Aak}
theorem kW{Q:Aaa}(hh:A.handled=none)(hl:s.heap.IsList l items)(hi:acp items.toList ss)(hb:ss.length+1<scanBound)
  (h:∀(h':Heap) (tk:Nat),Cn prog w h' s.heap.objs.size (D0 ss)->(∀b o,b<s.heap.objs.size->s.heap.get? b=some o->h'.get? b=some o)->s.heap.objs.size<h'.objs.size->Q (.ref s.heap.objs.size) {s with heap:=h',toks:=tk}) :
  wpAny #[9] A (call (.type "set") [.ref l]) Q E s:=by
 obtain⟨c,tl,Uj⟩:=F.called_set.mro;have QV:=F.called_set.made;have IZ:=F.called_set.sub;have hsz:items.size=ss.length:=by rw[<- aaE];exact hi.length
 refine wpAny_call (aed (?_:wpAny _ _ (callAny (.type "set") _) _ _ _));refine aae #[Code.quiet_builtin _ (by decide +kernel),abK F.entry_type_call ?_];rw[Around.under_plain (weight_type_call_type "set" [.ref l] []) rfl];have h1:=F.called_set.notType;have h2:=F.called_set.canCreate;have YR:=F.typeCall_set_1 (.ref l)
 repeat (any_goals (first|assumption|wp_step))
 generalize Eo:(!w.params.followText "set-order")=led;refine acQ (ir (.ref l) (E:=E) (Q:=λobj z=>obj=.ref s.heap.objs.size/\z={s with heap:=s.heap.push {cls:=.type "set",dict:=none,data:=.set #v[] 0 (.fresh 0 0 led)}}) (by rw[Eo];exact#[rfl,rfl])) λr z hr=>?_;cases r with
 |error e=>exact hr
 |ok fl=>
 cases fl with
 |ret obj=>
  obtain⟨rfl,rfl⟩:=hr;have g0:(s.heap.push {cls:=.type "set",dict:=none,data:=.set #v[] 0 (.fresh 0 0 led)}).get? s.heap.objs.size=some {cls:=.type "set",dict:=none,data:=.set #v[] 0 (.fresh 0 0 led)}:=aaf _ rfl;have hT:Shared.TypeIs {s with heap:=s.heap.push {cls:=.type "set",dict:=none,data:=.set #v[] 0 (.fresh 0 0 led)}} (.ref s.heap.objs.size) "set" := #[_,g0,rfl]
  have Hx:=F.called_set.init.lookup;have YV:=F.called_set.init.bind (.ref s.heap.objs.size)
  repeat (any_goals (first|assumption|wp_step))
  refine acQ (codeAny_call_builtin (R:=wants (λr z=>r=.none/\∃h' tk,z={s with heap:=h',toks:=tk}/\Cn prog w h' s.heap.objs.size (D0 ss)/\(∀b o,b<s.heap.objs.size->s.heap.get? b=some o->h'.get? b=some o)/\s.heap.objs.size<h'.objs.size) E)
   F.called_set.init.plain F.entry_set_init (check_set_init_1 hT ?_)) λr z hr=>?_
  .have tt:(s.heap.push {cls:=.type "set",dict:=none,data:=.set #v[] 0 (.fresh 0 0 led)}).IsList l items:=by obtain⟨o,e,r⟩:=hl;exact#[o,aac _ e,r]
   obtain⟨⟨Ti,Qi,Qj,M5⟩,ho,hc,n0,hd⟩:=id tt;simp only at hc hd;subst hc hd;have a1:=F.sub_list_set;have a2:=F.sub_list_frozenset;have a3:(abM "list" == abM "dict")=false:=by decide
   unfold acP.«set.__init__» noKeywords afk;generalize UL:pyIter=PI
   wp_walk
   subst UL;refine ach (s:={s with heap:=s.heap.push {cls:=.type "set",dict:=none,data:=.set #v[] 0 (.fresh 0 0 led)}}) tt ?_;refine aaa (afK ?_);have BU:l<s.heap.objs.size:=by obtain⟨o,e,_⟩:=hl;exact aah e
   have Ou:l≠(s.heap.push {cls:=.type "set",dict:=none,data:=.set #v[] 0 (.fresh 0 0 led)}).objs.size:=by rw[aa9];exact aap (abG BU)
   have QT:s.heap.objs.size∉[(s.heap.push {cls:=.type "set",dict:=none,data:=.set #v[] 0 (.fresh 0 0 led)}).objs.size,l]:=by
    rw[aa9];intro q;rcases List.mem_cons.mp q with e|q
    .exact absurd e (aap (adh _))
    .exact absurd (List.mem_singleton.mp q) (abF BU)
   have W:=(Walks.list (prog:=prog) (w:=w) (A:=A.in1.in1.in1) (by simp[hh]) (s.heap.push {cls:=.type "set",dict:=none,data:=.set #v[] 0 (.fresh 0 0 led)}).objs.size l Ou items).toS;rw[hsz]at W;refine lA hb W QT (λi v Fk hv=>?_) (ss.length - 0) 0 _ #[] (abg _) #[#[_,aaf _ rfl,rfl,rfl],#[_,aac _ ho,rfl,n0,rfl]] ?_ ?_
   .obtain⟨t,e⟩:=hi.get i _ (aab Fk);rw[abI]at e;exact#[t,aar (hv.symm.trans e)]
   .exact#[_,#v[],0,_,[],aac _ g0,#[rfl,rfl,rfl],rfl,λe he=>by simp at he,.nil,.nil,#[2],rfl,λe=>by rw[<- Eo,e];rfl,λe=>(e rfl).elim]
   .intro z mv q;rw[aa2]at q;obtain⟨h',g',d',IL,F0⟩:=z;obtain rfl:g'=s.gens:=mv.gens;obtain rfl:d'=s.drawn:=mv.drawn;obtain rfl:F0=s.os:=mv.os;refine aae (aae #[rfl,h',IL,rfl,q,λb o hb e=>?_,?_])
    .refine mv.heap b o ?_ (aac _ (aac _ e));rw[aa9];intro q;rcases List.mem_cons.mp q with e|q
     .exact absurd e (aap hb)
     .exact absurd (List.mem_singleton.mp q) (aap (abG hb))
    .obtain⟨o,_,_,_,_,e,_⟩:=q;exact aah e
  .cases r with
   |error e=>exact hr
   |ok fl=>
   cases fl with
   |ret r=>
    obtain⟨rfl,h',tk,rfl,q1,q2,q3⟩:=hr
    repeat (any_goals (first|assumption|wp_step))
    exact h _ _ q1 q2 q3
   |_=>exact hr.elim
 |_=>exact hr.elim
def BY:Slot "set_iterator" "__next__" "set_iterator.__next__" :=
 .of (rfl) (rfl) (rfl) (rfl)
  (by first|exact .inl (rfl)|exact .inr _) (rfl)
def kK:entryFor table "set_iterator.__next__" = some acP.«set_iterator.__next__»:=entryFor_of_tree (by kernel_rfl)
def mF(a:Value):argsOk "set_iterator.__next__" #[[a],[]]:=by rfl
def kO:entryFor table "set.__iter__" = some acP.«frozenset.__iter__»:=entryFor_alias (id' := "frozenset.__iter__") (by kernel_rfl) rfl (by decide +kernel) (by kernel_rfl)
def me{src:Source}{Q:Nat->Shared->Prop}(hn:n≠0)(h:∀i,i<n->∀d,Q i {s with drawn:=d}):wpAny #[9] A (choose src n) Q E s :=
 λe p hz=>#[hn,h _ (Nat.mod_lt _ (Nat.pos_of_ne_zero hn)) _]
def i9:∀(l:List O) (i:Nat) (h:i<l.length),(l[i]::l.eraseIdx i).Perm l
 |x::r,0,_=>.refl _
 |x::r,i+1,h=>(List.Perm.swap ..).trans ((i9 r i _).cons x)
def dv:∀(n:Nat) (xs:List O) (s:Shared) (Q:List O->Shared->Prop),xs.length=n->(∀ys d,ys.Perm xs->Q ys {s with drawn:=d})->wpAny #[9] A (drawOrder n xs) Q E s
 |0,xs,s,Q,hn,h=>by have  := List.length_eq_zero_iff.mp hn;subst this;exact aae (h [] s.drawn .nil)
 |n+1,[],s,Q,hn,h=>by simp_all
 |n+1,x::r,s,Q,hn,h=>by
  have C5:(x::r).length≠0:=by simp
  refine aaa (me C5 λi hi d=>?_);rw[aab hi];have hl:((x::r).eraseIdx i).length=n:=by rw[ady hi,hn];rfl
  refine aaa (dv n _ _ _ hl λys d' p=>aae (h _ d' ?_));exact(p.cons _).trans (i9 _ _ hi)
theorem lC(f:Nat->Nat):∀(n k:Nat) (l:List O) (out:Array O),l.length=n->(pickOrder.go f n k l out).toList.Perm (out.toList++l)
 |0,k,l,out,hn=>by have  := List.length_eq_zero_iff.mp hn;subst this;unfold pickOrder.go;rw[aa0]
 |n+1,k,l,out,hn=>by unfold pickOrder.go;have hi:f k % l.length<l.length:=Nat.mod_lt _ #[];rw[aab hi];refine(lC f n _ _ _ (by rw[ady hi,hn];rfl)).trans ?_;rw[Array.toList_push,abS];exact(i9 _ _ hi).append_left _
def j6(f:Nat->Nat)(xs:Array O):(aeE f xs).toList.Perm xs.toList:=by have:=lC f xs.size 0 xs.toList #v[] (aaE ..);simpa[aeE]using this
def Co(h:Heap)(it:Addr)(f:Value)(i:Nat)(a:Addr)(n ep:Nat):Prop :=
 ∃o,h.get? it=some o/\o.cls=.type "set_iterator" /\ o.data=.fields #v[f,.int i 0,.ref a,.int n 0,.int ep 0]
variable{it:Addr}{f:Value}{i:Nat}
def Co.typeIs(x:Co s.heap it f i a n ep):s.TypeIs (.ref it) "set_iterator" := let #[o,ho,hc,_]:=x;#[o,ho,hc]
def CN(h:Heap)(a:Addr)(es:Array (Int×Value))(ep:Nat)(t:adY):Prop:=∃o,h.get? a=some o/\o.data=.set es ep t/\t.fits es.size=true
def fG{Q:Aam}(x:Co s.heap it f i a n ep)
  (h:wpAny #[9] A.in1 (acP.«set_iterator.__next__» #[[.ref it],[]]) (λfin s'=>∃v,fin=.done (.ret v)/\Q (some v) s') (λe s'=>s'.TypeIs e "StopIteration" /\ Q none s') s) :
  wpAny #[9] A (pyNext (.ref it)) Q E s:=by
 refine aaa (aeD (aa4 x.typeIs BY (aaT BY x.typeIs kK (aa5 h ?_ ?_) (mF _))))
 .rintro fin s' ⟨v,rfl,q⟩;exact#[v,rfl,aae q]
 .rintro e s' ⟨hT,q⟩;exact aaa (ad4 hT afM (aae q))
variable{slot:Nat}{v:Value}
def ly{nx:Nat}{Q:Aam}(x:Co s.heap it (.int slot 0) i a n ep)(hS:CN s.heap a es ep t)(hn:es.size=n)
  (hx:∀(Q:Option (Value×Nat)->Shared->Prop) (E:Aaa),Q (some (v,nx)) s->wpAny #[9] A.in1 (setNext a slot i ep) Q E s)
  (k:∀h',Co h' it (.int nx 0) (i+1) a n ep->ab1 it s.heap h'->Q (some v) {s with heap:=h'}):wpAny #[9] A (pyNext (.ref it)) Q E s:=by
 refine fG x ?_;obtain⟨o,ho,hc,hd⟩:=x;obtain⟨os,IC,Je,hf⟩:=hS;refine aaa (aae ?_);refine aaa (aep ho hd ?_);refine aaa (acN IC Je hf ?_);rw[if_neg #[1]];refine aaa (hx _ _ ?_);refine aaa (ab0 ho hd #[0] ?_);have h1:=abn (Obj.mapFields (·.setIfInBounds 0 (rawInt nx))) ho (acd (aa6 hd _));refine aaa (ab0 h1 (aa6 hd _) #[0] (aae #[v,rfl,k _ ?_ ?_]))
 .refine#[_,abn _ h1 (acd (aa6 (aa6 hd _) _)),(adb ..).trans ((adb ..).trans hc),?_];rw[aa6 (aa6 hd _)];simp[rawInt]
 .exact(abi ..).trans (abi ..)
def jm{h₁:Heap}{R:PySem.Fin->Shared->Prop}{Q:Aam}(hh:A.handled=none)(k:∀h',(∀b o,h₁.get? b=some o->h'.get? b=some o)->Q none {s with heap:=h'}):
  wpAny #[9] A.in1 (newExc (.type "StopIteration") [] >>= λe=>raiseNew e) R (λe s'=>s'.TypeIs e "StopIteration" /\ Q none s') {s with heap:=h₁}:=by
 refine aaa (aaa (m:=firstArgMember _ _) (afl (rfl) ?_));refine aaZ ?_ (by size_fits);refine aaa (wpAny_handled ?_);rw[hh];exact aaa (aae (wpAny_throw #[#[_,aaf _ rfl,rfl],k _ λb o e=>aac _ (aac _ e)]))
def iO{Q:Aam}(hh:A.handled=none)(x:Co s.heap it (.int slot 0) i a n ep)(hS:CN s.heap a es ep t)(hn:es.size=n)
  (hx:∀(Q:Option (Value×Nat)->Shared->Prop) (E:Aaa),Q none s->wpAny #[9] A.in1 (setNext a slot i ep) Q E s)
  (k:∀h',ad1 it s.heap h'->Q none {s with heap:=h'}):wpAny #[9] A (pyNext (.ref it)) Q E s:=by
 refine fG x ?_;obtain⟨o,ho,hc,hd⟩:=x;obtain⟨os,IC,Je,hf⟩:=hS;refine aaa (aae ?_);refine aaa (aep ho hd ?_);refine aaa (acN IC Je hf ?_);rw[if_neg #[1]];refine aaa (hx _ _ ?_);refine aaa (ab0 ho hd #[0] ?_);exact jm hh λh' e=>k h' λb o hb g=>e b o ((abi ..).extBut b o hb g)
def Jk(h:Heap)(T:Addr)(pl:Aan):Prop:=∃o m,h.get? T=some o/\o.data=.seq (pl.map λ(i:Nat)=>rawInt i).toArray m
variable{T:Addr}{pl:Aan}
def rh{p:Nat}{hv:Int}{Q:Aam}(x:Co s.heap it (.ref T) i a n ep)(hS:CN s.heap a es ep t)(hn:es.size=n)(hT:Jk s.heap T pl)
  (hp:pl[i]?=some p) (he:es[p]?=some (hv,v))
  (k:∀h',Co h' it (.ref T) (i+1) a n ep->ab1 it s.heap h'->Q (some v) {s with heap:=h'}):wpAny #[9] A (pyNext (.ref it)) Q E s:=by
 refine fG x ?_;obtain⟨o,ho,hc,hd⟩:=x;obtain⟨os,IC,Je,hf⟩:=hS;obtain⟨oT,m,Uh,UD⟩:=hT;refine aaa (aae ?_);refine aaa (aep ho hd ?_);refine aaa (acN IC Je hf ?_);rw[if_neg #[1]];refine aaa (abw Uh UD ?_);have e1:((pl.map λ(i:Nat)=>rawInt i).toArray)[(i:Int).toNat]?=some (.int p 0):=by rw[acI,List.getElem?_toArray,aaj,hp];rfl
 dsimp only;rw[e1];refine aaa (aaa (acF IC Je hf ?_));simp only[acI,bne_self_eq_false,he];refine aae (aaa (ab0 ho hd #[0] (aae #[v,rfl,k _ #[_,abn _ ho (acd (aa6 hd _)),(adb ..).trans hc,?_] (abi ..)])));rw[aa6 hd];simp[rawInt]
def tU{Q:Aam}(hh:A.handled=none)(x:Co s.heap it (.ref T) i a n ep)(hS:CN s.heap a es ep t)(hn:es.size=n)(hT:Jk s.heap T pl)
  (hp:pl[i]?=none)
  (k:∀h',ad1 it s.heap h'->Q none {s with heap:=h'}):wpAny #[9] A (pyNext (.ref it)) Q E s:=by
 refine fG x ?_;obtain⟨o,ho,hc,hd⟩:=x;obtain⟨os,IC,Je,hf⟩:=hS;obtain⟨oT,m,Uh,UD⟩:=hT;refine aaa (aae ?_);refine aaa (aep ho hd ?_);refine aaa (acN IC Je hf ?_);rw[if_neg #[1]];refine aaa (abw Uh UD ?_);have e1:((pl.map λ(i:Nat)=>rawInt i).toArray)[(i:Int).toNat]?=none:=by simp_all
 dsimp only;rw[e1];refine aaa (ab0 ho hd #[0] ?_);have h1:=abn (Obj.mapFields (·.setIfInBounds 0 (rawInt 0))) ho (acd (aa6 hd _));refine aaa (ab0 h1 (aa6 hd _) #[0] ?_);exact jm hh λh' e=>k h' λb o hb g=>e b o (((abi ..).trans (abi ..)).extBut b o hb g)
def lF{Q:Option (Value×Nat)->Shared->Prop}(ht:w.params.followText "set-order" = true)(hS:CN s.heap a es ep t)
  (h:Q (((aeE (w.params.setOrder a ep) es)[i]?).map λe=>(e.2,slot)) s):wpAny #[9] A (setNext a slot i ep) Q E s:=by
 obtain⟨o,ho,hd,hf⟩:=hS;refine aaa (acF ho hd hf ?_);refine aaa (aaa (acs (aae ?_)));rw[if_pos (show (model prog w).w.params.followText _=true from ht),if_neg #[0]];refine aaa (aaa (acF ho hd hf ?_));refine aaa (aaa (acs (aae ?_)));rw[if_pos (show (model prog w).w.params.followText _=true from ht)];exact aaa (acs (aae (aae h)))
theorem iZ{Q:Option (Value×Nat)->Shared->Prop}(ht:w.params.followText "set-order" = false)(hS:CN s.heap a es ep t)(hl:t.led=true)(hz:es.size<=1)
  (h:Q (match es[ade t.place slot]?,t.place[ade t.place slot]? with|some (_,x),some j=>some (x,j+1)|_,_=>none) s):wpAny #[9] A (setNext a slot i ep) Q E s:=by
 obtain⟨o,ho,hd,hf⟩:=hS;refine aaa (acF ho hd hf ?_);refine aaa (aaa (acs (aae ?_)));rw[if_neg (by show ¬ (w.params.followText _=true);rw[ht];exact aaN)];refine wpAny_ite_split (λ(WK:(!t.plain && decide _)=true)=>absurd WK (by rw[decide_eq_false #[],afT];exact aaN)) (λ_=>?_);refine aaa (?_:wpAny _ _ (if (!t.led && !es.isEmpty)=true then unsupported _ else pure ()) _ _ _);rw[if_neg #[1]];refine aae (aae ?_);exact h
def fY:Slot "set_iterator" "__iter__" "set_iterator.__iter__" :=
 .of (rfl) (rfl) (rfl) (rfl)
  (by first|exact .inl (rfl)|exact .inr _) (rfl)
def kN:entryFor table "set_iterator.__iter__" = some acP.«dict_keyiterator.__iter__»:=entryFor_alias (id' := "dict_keyiterator.__iter__") (by kernel_rfl) rfl (by decide +kernel) (by kernel_rfl)
def mG(a:Value):argsOk "set_iterator.__iter__" #[[a],[]]:=by rfl
def iM{Q:Aaa}(x:Co s.heap it f i a n ep)(h:Q (.ref it) s):wpAny #[9] A (pyIter (.ref it)) Q E s:=by refine adL x.typeIs fY (aaT fY x.typeIs kN ?_ (mG _));exact aae #[_,rfl,_,_,x.typeIs,BY.lookup,h]
def Co.keep(x:Co h it f i a n ep)(k:∀o,h.get? it=some o->h'.get? it=some o):Co h' it f i a n ep:=let #[o,e,r]:=x;#[o,k o e,r]
def CN.keep(x:CN h a es ep t)(k:∀o,h.get? a=some o->h'.get? a=some o):CN h' a es ep t:=let #[o,e,r]:=x;#[o,k o e,r]
def Jk.keep(x:Jk h T pl)(k:∀o,h.get? T=some o->h'.get? T=some o):Jk h' T pl:=let #[o,m,e,r]:=x;#[o,m,k o e,r]
def Pa(hh:A.handled=none)(ht:w.params.followText "set-order" = true)(C5:a≠it):
  Walks prog w A it [it,a,it] [it] ((aeE (w.params.setOrder a ep) es).toList.map (·.2)).length (λi v=>((aeE (w.params.setOrder a ep) es).toList.map (·.2))[i]?=some v)
   (λi h=>Co h it (.int ((0:Nat):Int) 0) i a es.size ep/\CN h a es ep t) where
 sub:=λb hb=>by simp_all
 frame:=λ_ _ _ st k=>#[st.1.keep λo e=>k it #[0] o e,st.2.keep λo e=>k a #[0] o e]
 item:=λi s Q E hi st k=>by
  have Fk  :=by rw[aad]at hi;exact hi
  refine ly (v:=((aeE _ es).toList[i]).2) st.1 st.2 rfl (λQ E q=>lF ht st.2 ?_) λh' x sb=>k _ h' s.toks ?_ #[x,st.2.keep λo e=>sb.extBut a o C5 e] λb o hb e=>sb.extBut b o (λz=>hb #[1]) e
  .rw[<- abI,aab Fk];exact q
  .rw[aaj,aab Fk];rfl
 done:=λs Q E st k=>by refine iO hh st.1 st.2 rfl (λQ E q=>lF ht st.2 ?_) λh' x=>k h' s.toks λb o hb e=>x b o (λz=>hb #[1]) e;rw[aad,<- abI,aam (aai _)];exact q
 self:=λi s Q E st h=>iM st.1 h
theorem x9(xs:Array Nat)(hz:xs.size<=1):ade xs 0=0:=by
 unfold ade;rcases aaS xs.size 1 with h|h
 .have:xs.size=0:=by omega
  rw[this];rfl
 .have:xs.size=1:=by omega
  rw[this];rfl
def x8(xs:Array Nat)(p:Nat)(hz:xs.size=1)(hp:xs[0]?=some p):ade xs (p+1)=1:=by
 unfold ade;rw[hz];unfold SetTable.below.go;have e:xs.getD 0 (p+1)=p:=by simp_all
 simp only[Nat.zero_lt_one];rw[e,if_pos (adh p)];rfl
theorem walk1(hh:A.handled=none)(ht:w.params.followText "set-order" = false)(C5:a≠it)(hl:t.led=true)(hz:es.size<=1)(hf:t.fits es.size=true):
  Walks prog w A it [it,a,it] [it] (es.toList.map (·.2)).length (λi v=>(es.toList.map (·.2))[i]?=some v)
   (λi h=>Co h it (.int ((if i=0 then 0 else t.place.getD 0 0+1:Nat):Int) 0) i a es.size ep/\CN h a es ep t):=by
 have hps:t.place.size=es.size:=by unfold SetTable.fits at hf;rw[aaM]at hf;exact eq_of_beq hf.1
 refine#[λb hb=>#[1],λ_ _ _ st k=>#[st.1.keep λo e=>k it #[0] o e,st.2.keep λo e=>k a #[0] o e],λi s Q E hi st k=>?_,λs Q E st k=>?_,λi s Q E st h=>iM st.1 h]
 .have h1:es.toList.length=1:=by rw[aad]at hi;rw[aaE]at hi ⊢;omega
  have T6:es.size=1:=by omega
  have YE:i=0:=by simp_all
  subst YE;have BU:0<es.toList.length:=by omega
  obtain⟨p,hp⟩:∃p,t.place[0]?=some p:=#[_,abW #[]]
  have hg:t.place.getD 0 0=p:=by simp_all
  rw[if_pos rfl]at st;refine ly (nx:=p+1) (v:=(es.toList[0]).2) st.1 st.2 rfl (λQ E q=>iZ ht st.2 hl hz ?_) λh' x sb=>k _ h' s.toks ?_ #[?_,st.2.keep λo e=>sb.extBut a o C5 e] λb o hb e=>sb.extBut b o (λz=>hb (by simp[z])) e
  .rw[x9 _ #[],hp,<- abI,aab BU];exact q
  .rw[aaj,aab BU];rfl
  .rw[hg];exact x
 .rcases aaS es.size 1 with h|h
  .have h0:es.size=0:=by omega
   rw[aad,aaE,h0,if_pos rfl]at st;refine iO hh st.1 st.2 h0 (λQ E q=>iZ ht st.2 hl hz ?_) λh' x=>k h' s.toks λb o hb e=>x b o (λz=>hb (by simp[z])) e;rw[ada #[]];exact q
  .have T6:es.size=1:=by omega
   rw[aad,aaE,T6,if_neg #[2]]at st;obtain⟨p,hp⟩:∃p,t.place[0]?=some p:=#[_,abW #[]]
   have hg:t.place.getD 0 0=p:=by simp_all
   rw[hg]at st;refine iO hh st.1 st.2 T6 (λQ E q=>iZ ht st.2 hl hz ?_) λh' x=>k h' s.toks λb o hb e=>x b o (λz=>hb (by simp[z])) e;rw[x8 _ p #[] hp,ada #[]];exact q
theorem Pb(hh:A.handled=none)(C5:a≠it)(hT:T≠it)(hv:vs.length=pl.length)(hp:∀i p:Nat,pl[i]?=some p->∃h v,es[p]?=some (h,v)/\vs[i]?=some v):
  Walks prog w A it [it,a,T] [it] vs.length (λi v=>vs[i]?=some v) (λi h=>Co h it (.ref T) i a es.size ep/\CN h a es ep t/\Jk h T pl) where
 sub:=λb hb=>by simp_all
 frame:=λ_ _ _ st k=>#[st.1.keep λo e=>k it #[0] o e,st.2.1.keep λo e=>k a #[0] o e,st.2.2.keep λo e=>k T #[0] o e]
 item:=λi s Q E hi st k=>by obtain⟨h,v,e1,e2⟩:=hp i _ (aab _);exact rh st.1 st.2.1 rfl st.2.2 (aab #[]) e1 λh' x sb=>k _ h' s.toks e2 #[x,st.2.1.keep λo e=>sb.extBut a o C5 e,st.2.2.keep λo e=>sb.extBut T o hT e] λb o hb e=>sb.extBut b o (λz=>hb #[1]) e
 done:=λs Q E st k=>tU hh st.1 st.2.1 rfl st.2.2 (aam #[]) λh' x=>k h' s.toks λb o hb e=>x b o (λz=>hb #[1]) e
 self:=λi s Q E st h=>iM st.1 h
def rz(d:O):∀l:List O,(aa3 l.length).map (λp=>l.getD p d)=l:=λl=>by
 refine abR λi=>?_;rw[aaj];rcases aaS i l.length with h|h
 .rw[acq h,aeh,aau,aab h];rfl
 .rw[aam #[1],aam h];rfl
def Cn.typeIs(x:Cn prog w s.heap a ss):s.TypeIs (.ref a) "set" := let #[o,_,_,_,_,ho,hc,_]:=x;#[o,ho,hc.1]
theorem Qx{Q:Aaa}(hh:A.handled=none)(hS:Cn prog w s.heap a ss)
  (h:∀(h':Heap) (d:Drawn) (it T:Addr) (vs:Aad) (ks:A3) (St:Nat->Heap->Prop),s.heap.objs.size<=it->s.heap.objs.size<=T->acp vs ks->ks.Perm ss->(∀b o,s.heap.get? b=some o->h'.get? b=some o) ->
   Walks prog w A it [it,a,T] [it] vs.length (λi v=>vs[i]?=some v) St->St 0 h'->Q (.ref it) {s with heap:=h',drawn:=d}):wpAny #[9] A (pyIter (.ref a)) Q E s:=by
 have hT:=hS.typeIs;obtain⟨o,es,ep,t,ks,ho,hex,hd,Ny,Hy,p,hb,hf,Eo,Cj⟩:=hS;have BU:=aah ho;refine adL hT PySem.F.slot_set_iter (aaT PySem.F.slot_set_iter hT kO ?_ (PySem.F.args_set_iter_1 _));unfold acP.«frozenset.__iter__» Builtin.Frozenset.slot0 slotArgs;simp only[List.isEmpty_nil,ad3,abA,↓reduceIte,bind_assoc,abl,bne_self_eq_false];unfold Builtin.Frozenset.addrOf Builtin.Frozenset.sizeOf;refine aaa (aae ?_);try dsimp only
 refine aaa (aae ?_);refine aaa (aaa (acN ho hd hf (aae ?_)));have hS:CN s.heap a es ep t:=#[o,ho,hd,hf]
 have YO:∀(Q:Bool->Shared->Prop) (E:Aaa),Q (!w.params.followText "set-order" && (!t.plain && decide (es.size > 1))) s->wpAny #[9] A.in1 (setDrawn a) Q E s:=λQ E q=>by unfold setDrawn;refine aaa (acF ho hd hf ?_);dsimp only;unfold setsByText;exact aaa (aaa (acs (aae (aae q))))
 refine aaa (YO _ _ ?_);have plain:∀(vs:Aad) (ks:A3) (St:Nat->Heap->Prop),acp vs ks->ks.Perm ss->Walks prog w A s.heap.objs.size [s.heap.objs.size,a,s.heap.objs.size] [s.heap.objs.size] vs.length (λi v=>vs[i]?=some v) St ->
   (∀h':Heap,Co h' s.heap.objs.size (.int ((0:Nat):Int) 0) 0 a es.size ep->CN h' a es ep t->St 0 h')->wpAny #[9] A.in1 (do
     let first <- pure (rawInt 0)
     let e <- setEpoch a;let it <- newFields "set_iterator" [first,rawInt 0,aba a,rawInt es.size,rawInt e]
     ret it) (λfin s'=>∃v,fin=.done (.ret v)/\∃T' r,s'.TypeIs v T'/\aeS (.type T') (aao "__next__")=pure (some r)/\Q v s') E s:=by
  intro vs ks St h1 h2 W EZ;refine aaa (aae ?_);refine aaa (wpAny_setEpoch_of ho hd hf ?_);refine aaa (aaZ (aae #[_,rfl, "set_iterator",_,#[_,aaf _ rfl,rfl],BY.lookup,?_]));exact h _ s.drawn _ _ vs ks St (aai _) (aai _) h1 h2 (λb o e=>aac _ e) W (EZ _ #[_,aaf _ rfl,rfl,rfl] (hS.keep λo e=>aac _ e))
 cases ht:w.params.followText "set-order" with
 |true=>rw[ad3,Bool.false_and,if_neg aaN];obtain⟨k1,a1,a2⟩:=bV ((j6 (w.params.setOrder a ep) es).map (·.2)) Hy;exact plain _ k1 _ a1 (a2.trans p) (Pa hh ht (aap BU)) λh' x y=>#[x,y]
 |false=>
  rcases aaS 1 es.size with hz|hz
  .rw[Cj #[],decide_eq_true hz];refine(?_:wpAny _ _ (if true=true then _ else _) _ _ _);rw[if_pos rfl];refine aaa (dv _ _ _ _ ack λpl d pp=>?_);refine aaa ?_;unfold newTuple;have hlen:pl.length=es.size:=by rw[pp.length_eq,ack]
   refine aaZ ?_ (by show ((pl.map λ(i:Nat)=>rawInt i).toArray).size<=sizeLine;rw[aak,aad,hlen];exact aeT hb)
   refine aaa (wpAny_setEpoch_of (aac _ ho) hd hf ?_);refine aaa (aaZ (aae #[_,rfl, "set_iterator",_,#[_,aaf _ rfl,rfl],BY.lookup,?_]));have e0:(pl.map (λp=>(es.toList.getD p (0,.none)).2)).Perm (es.toList.map (·.2)):=by have q:=pp.map (λp=>(es.toList.getD p (0,.none)).2);rw[<- aaE]at q;have e:=congrArg (List.map (·.2)) (rz ((0:Int),abP) es.toList);rw[aax]at e;exact q.trans (by rw[<- e];exact .refl _)
   obtain⟨k1,a1,a2⟩:=bV e0 Hy;refine h _ d _ s.heap.objs.size _ k1 _ ?_ (aai _) a1 (a2.trans p) (λb o e=>aac _ (aac _ e))
    (Pb (t:=t) (ep:=ep) (es:=es) (pl:=pl) hh ?_ ?_ (aad ..) λi q hq=>?_) #[#[_,aaf _ rfl,rfl,rfl],hS.keep λo e=>aac _ (aac _ e),#[_,_,aac _ (aaf _ rfl),rfl]]
   .rw[aa9];exact acA _
   .rw[aa9];exact aap (abG BU)
   .rw[aa9];exact aap (adh _)
   .have hm:q∈aa3 es.size:=pp.mem_iff.mp (aaA hq);have Hg:q<es.toList.length:=by rw[aaE];exact List.mem_range.mp hm
    refine#[_,_,(by rw[<- abI];exact aab Hg),?_];rw[aaj,hq,aeh,aau,aab Hg];rfl
  .rw[decide_eq_false #[],afT,afT,if_neg aaN];exact plain _ ks _ Hy p (walk1 hh ht (aap BU) (Eo ht) hz hf) λh' x y=>#[x,y]
open PySem PySem.Spec PyProof.Rows PySem.Calls PyProof.V
variable{prog:aaC}{w:World}{A:Around}{E:Aaa}{s:Shared}
variable{r:Addr}{Q:Bool->Shared->Prop}
def uM(hT:s.TypeIs (.ref r) "set")(h:Q false s):wpAny #[9] A (Builtin.List.listLengthHint (.ref r)) Q E s:=by
 refine aaa (wpAny_specialOf hT PySem.F.slot_set_len.lookup ?_);generalize hn : "set.__len__" = nm
 wp_delta
 subst hn;refine aaa (ad4 hT (rfl) ?_);exact aaa (acn hT (aae h))
variable{R:Result->Shared->Prop}{ss:A3}
noncomputable def xo{S:Addr}(hh:A.handled=none)(hX:Cn prog w s.heap r ss)(WR:S≠r)(res:Value)(c0:Nat)(hS:s.heap.get? S=some {cls:=.type "list",data:=.seq #v[] c0})(hn:ss.length<=sizeLine)
  (hR:∀h' tk d acc c' ks,(∀b o,b≠S->s.heap.get? b=some o->h'.get? b=some o)->h'.get? S=some {cls:=.type "list",dict:=none,data:=.seq acc c',slots:=#v[]}->acp acc.toList ks->ks.Perm ss->R (.ok (.ret res)) {s with heap:=h',toks:=tk,drawn:=d}) :
  wpAny #[9] A.in1 (adx (.ref S) (.ref r) res)
   (λfin s'=>match fin with|.done f=>R (.ok f) s'|.again c'=>c'.quiet=true/\acK #[9] A c' R s') (λe s'=>R (.error e) s') s:=by
 have Wv:=aah hS;unfold adx;refine aaa (acn (T := "set") hX.typeIs ?_);have h1:Builtin.List.listSameRef (.ref S) (.ref r)=false:=by simp[Builtin.List.listSameRef,WR]
 have h2:(abM "set" == abM "list")=false:=by decide
 have h3:(abM "set" == abM "tuple")=false:=by decide
 simp only[h1,h2,h3,Bool.or_false,abA,if_false];refine aaa (Qx hh hX λhp d it T vs ks St l1 l2 a1 a2 kp W st=>?_);have hz:vs.length<=sizeLine:=by rw[a1.length,a2.length_eq];exact hn
 have WU:S∉[it,r,T]:=by simp only[aaY,aa7,or_false,not_or];exact#[aap (aaP Wv l1),WR,aap (aaP Wv l2)]
 have key:∀(h:Heap) (c1 tk:Nat),St 0 h->(∀b o,b≠S->s.heap.get? b=some o->h.get? b=some o)->h.get? S=some {cls:=.type "list",data:=.seq #v[] c1} ->
   acK #[9] A (.builtin "list.extend.loop" #[[.ref S,.ref it,res],[]]) R {s with heap:=h,toks:=tk,drawn:=d}:=by
  intro h c1 tk EZ hk hS1;refine codeAny_extend_loopS W.toS hz S WU res vs.length 0 _ #v[] c1 rfl (abg _) EZ hS1 (ItemsOf.nil _) λs' acc c' hm NG NF=>?_;rw[Moved.eq_with hm];have YM:acc.toList=vs:=by
   refine abR λi=>?_;rcases aaS i vs.length with q|q
   .have hi:i<acc.size:=by rw[NF.1];exact q
    rw[abI,abW hi];exact(NF.2 i _ (abW hi)).symm
   .rw[aam q,aam (by rw[aaE,NF.1];exact q)]
  refine hR s'.heap s'.toks d acc c' ks (λb o hb e=>hm.heap b o (λq=>?_) (hk b o hb e)) NG (by rw[YM];exact a1) a2;rcases List.mem_cons.mp q with z|q
  .exact hb z
  .exact absurd (aah e) (by rw[List.mem_singleton.mp q];exact Nat.not_lt.mpr l1)
 have hS1:=kp _ _ hS;have Y0:Cn prog w hp r ss:=hX.keep λo e=>kp _ _ e;refine aaa (aaX (uM Y0.typeIs ?_));refine aaa (act (aaa ?_));refine(?_:wpAny _ _ (updateSeq S (·.push .none) >>= λ_=>updateSeq S (·.pop)) _ _ _);refine aaa (wpAny_updateSeq hS1 rfl ?_);have hS2:=abn (abE (·.push abP)) hS1 rfl;refine wpAny_updateSeq (hz:=by seq_fits) hS2 rfl ?_;have hS3:=abn (abE (·.pop)) hS2 rfl;have A4:∀b,b≠S->∀o,hp.get? b=some o->((hp.update S (abE (·.push abP))).update S (abE (·.pop))).get? b=some o:=λb hb o e=>(ac8 _ _ (abz hb)).trans ((ac8 _ _ (abz hb)).trans e)
 exact aae #[acH PySem.F.plain_extend_loop _,key _ _ _ (W.frame 0 _ _ st λb hb o e=>A4 b (λz=>WU (z ▸ hb)) o e) (λb o hb e=>A4 b hb o (kp _ _ e)) hS3]
def vj{R:Aad->Shared->Prop}(hh:A.handled=none)(hX:Cn prog w s.heap r ss)(hn:ss.length<=sizeLine)
  (h:∀(h':Heap) (tk:Nat) (d:Drawn) (vs:Aad) (ks:A3),(∀b o,s.heap.get? b=some o->h'.get? b=some o)->acp vs ks->ks.Perm ss->R vs {s with heap:=h',toks:=tk,drawn:=d}) :
  wpAny #[9] A (collect (.ref r)) R E s:=by
 have BU:r<s.heap.objs.size:=by obtain⟨o,_,_,_,_,e,_⟩:=hX;exact aah e
 unfold collect;refine aaa (afK (abK entry_proto_collect' ?_));rw[Around.under_plainId PySem.F.plain_proto_collect _];refine(?_:wpAny _ A.in1 (newList [] >>= λl=>again (.builtin "list.__iadd__" #[[l,.ref r],[]])) _ _ s);refine aaa (aaZ (aae #[acH PySem.F.plain_list_iadd _,abK entry_list_iadd' ?_]));rw[Around.under_plainId PySem.F.plain_list_iadd _];have e1:(s.heap.push {cls:=.type "list",data:=.seq ([]:Aad).toArray}).get? s.heap.objs.size=some {cls:=.type "list",data:=.seq #v[]}:=aaf _ rfl;refine(?_:wpAny _ A.in1 (adx (.ref s.heap.objs.size) (.ref r) (.ref s.heap.objs.size)) _ _ _);have key:=xo (A:=A) (s:={s with heap:=s.heap.push {cls:=.type "list",data:=.seq ([]:Aad).toArray}})
  (R:=λq s'=>∃h' tk d acc c' ks,q=.ok (.ret (.ref s.heap.objs.size))/\s'={s with heap:=h',toks:=tk,drawn:=d}/\(∀b o,s.heap.get? b=some o->h'.get? b=some o) /\
   h'.get? s.heap.objs.size=some {cls:=.type "list",dict:=none,data:=.seq acc c',slots:=#v[]}/\acp acc.toList ks/\ks.Perm ss)
  hh (hX.keep λo e=>aac _ e) (abF BU) (.ref s.heap.objs.size) 0 e1 hn
  λh' tk d acc c' ks k1 k2 k3 k4=>#[h',tk,d,acc,c',ks,rfl,rfl,λb o e=>k1 b o (aap (aah e)) (aac _ e),k2,k3,k4]
 refine aa5 key (λfin s' x=>?_) λe s' x=>?_
 .cases fin with
  |done f=>obtain⟨h',tk,d,acc,c',ks,e,rfl,k1,k2,k3,k4⟩:=x;cases e;exact aaa (wpAny_load k2 (aae (h h' tk d _ ks k1 k3 k4)))
  |again c1=>refine#[x.1,acQ x.2 λq st y=>?_];obtain⟨h',tk,d,acc,c',ks,rfl,rfl,k1,k2,k3,k4⟩:=y;exact aaa (wpAny_load k2 (aae (h h' tk d _ ks k1 k3 k4)))
 .obtain⟨_,_,_,_,_,_,e',_⟩:=x;cases e'
open PySem PySem.Spec PyProof.Rows
variable{prog:aaC}{w:World}{A:Around}{E:Aaa}{s:Shared}
variable{x:Value}{Q:Aaa}
theorem qa(hc:wpAny #[9] A.in1 (collect x) (λvs s1=>∃ss:A3,acp vs ss/\vs.length<64 /\
   (∀(h2:Heap) (out:Aad) (EL:A3) (n:Nat),(∀b o,s1.heap.get? b=some o->h2.get? b=some o)->h2.get? s1.heap.objs.size=some (seqObj "list" out.toArray n)->acp out EL->EL.Perm ss->sortedS EL=true->Q (.ref s1.heap.objs.size) {s1 with heap:=h2})) E s) :
  wpAny #[9] A (call (.builtin "sorted") [x]) Q E s:=by
 refine acM afr ae3 ae4 (ae5 _) ?_;unfold acP.«sorted»;refine aaa (m:=checkCount "sorted" 1 1 _) (aae (aaa (aa5 hc (λvs s1 hv=>?_) λ_ _ e=>e)));obtain⟨ss,hS,Gg,k⟩:=hv;refine aaa (acV ?_ (by rw[aaJ];omega));have NV:(s1.heap.push (seqObj "list" vs.toArray 0)).get? s1.heap.objs.size=some (seqObj "list" vs.toArray 0):=aaf _ rfl;refine aaa (aaX (aaT adG #[_,NV,rfl] adq (list_sort_treeK strKind_oneLt NV hS.keysOf (λv1 v2 rest e=>keyKind_strs (by rw[<- e];exact hS)) Gg λst p q=>#[_,rfl,?_]) (adI _)));obtain⟨EL,b1,b2,b3⟩:=sorted_out_str hS p q;obtain⟨n,at2⟩:=sortedHeap_at (out:=(arrOf st).map (·.2)) NV;refine aae #[_,rfl,k _ ((arrOf st).map (·.2)).toList EL n (λb o e=>?_) (by rw[Array.toArray_toList];exact at2) b1 b2 b3];have lt:=aah e;rw[sortedHeap_old (aap lt) (by rw[size_push'];exact abG lt)];exact aac _ e
variable{X:Cx}{pins:Aac}{H:Hp}
def Inv.ZA{U:List (Aau)}(I:Inv X pins U H s)(d:Drawn):Inv X pins U H {s with drawn:=d} :=
 #[I.ok,I.os,I.bare,I.base,I.loc,I.cell,I.free,I.Dd,I.pin,I.Bc,I.len]
noncomputable def FW(P:aaC)(w:World)(a:Addr)(ss:A3):HO:=.ext λh=>Cn P w h a ss
variable{P:aaC}{h:Heap}{a:Addr}{ss:A3}
def JB(x:Cn P w h a ss):Bm P w H h a (FW P w a ss) :=
 #[x,(by obtain⟨o,_,_,_,_,e,_⟩:=x;exact#[o,e]),λh1 h2 y k=>Cn.keep y k]
def M3(P:aaC)(w:World):Aag->Hp->VK->Prop:=λxs H Q=>∃(p:Addr) (ss:A3),xs=[.ref p]/\H p=some (.lst (ss.map V.str))/\ss.length<=1000/\∀l,H l=none->Q (.ref l) (upd H l (FW P w l (D0 ss)))
theorem qI(hc:X.calm=true):Bd X (.type "set") (M3 X.prog X.w):=by intro pins s U H xs us Q I r h;obtain⟨p,ss,rfl,hq,hl,k⟩:=h;obtain⟨u,rfl,ru⟩:=r.one;cases ru;obtain⟨_,eQ,n,rv,g⟩:=I.Bc p _ hq;exact kW (I.ok.hd hc) #[_,g,rfl,n,rfl] (by simpa using fw rv) (by unfold scanBound;omega) λh' tk q1 q2 q3=>#[.ref s.heap.objs.size,_,I.laid (λb o e=>q2 b o (aah e) e) (aai _) (JB q1),rfl,k _ (I.Bc.fresh (aai _))]
def MU(P:aaC)(w:World):Aag->Hp->VK->Prop:=λxs H Q=>∃(a:Addr) (ss:A3),xs=[.ref a]/\H a=some (FW P w a ss)/\ss.length<64 /\
 ∀(l:Addr) (ts:A3),H l=none->ts.Perm ss->ts.Pairwise (λa b=>¬ Bv b a)->Q (.ref l) (upd H l (.lst (ts.map V.str)))
theorem jI(hc:X.calm=true):Bd X (.builtin "sorted") (MU X.prog X.w):=by intro pins s U H xs us Q I r h;obtain⟨a,ss,rfl,ha,Gg,k⟩:=h;obtain⟨u,rfl,ru⟩:=r.one;cases ru;obtain⟨x,_,_⟩:=I.Bc a _ ha;refine qa (vj (I.ok.hd hc) x (by rw[aaJ];omega) λh1 tk d vs ks kk a1 a2=>?_);refine#[ks,a1,by rw[a1.length,a2.length_eq];exact Gg,λh2 out EL n k2 e2 o1 o2 o3=>?_];have I1:Inv X pins U H {s with heap:=h1,toks:=tk}:=I.kept kk;have I2:=I1.laid (t':=tk) (o:=.lst _) (λb o q=>k2 b o q) (aai _) #[by rw[aad,o2.length_eq,a2.length_eq,aaJ];omega,out,n,dA o1,e2];exact#[.ref h1.objs.size,_,I2.ZA d,rfl,k _ EL (I1.Bc.fresh (aai _)) (o2.trans a2) (dQ o3)]
end L2
namespace Q
open PySem L2 PyProof.Rows
def jb(fa:WA):WE:=λenv P=>fa env λxs e=>match xs with
 |[.lst ys]=>∃ss,ys.mapM B7=some ss/\ss.length<=1000/\(D0 ss).length<64/\∀ts,D3 (D0 ss) ts->P (.lst (ts.map .str)) e
 |_=>False
variable{ob:B3}{X:Cx}{a b c e:Expr}{es:Aai}{f g h:WE}{fa:WA}{pos EN p p1 p2:Pos}{x:Str}
def qA(hc:X.calm=true)(hg:Gl X "sorted")(hm:X.mg "sorted" = none)(Jd:Gl X "set")(QW:X.mg "set" = none)(ha:GX ob X [e] fa)(Nz:autoParam (aal [e] X.env=(false,eval e X.env)::aal [] X.env) At)
  (he:autoParam (aal [.Call (.Name "set" p2) [e] [] EN] X.env=(false,eval (.Call (.Name "set" p2) [e] [] EN) X.env)::aal [] X.env) At) (Nr:autoParam ((backTo EN (aal [] X.env)).any (·.1)=false) At) (Cj:autoParam ((backTo pos (aal [] X.env)).any (·.1)=false) At) :
  EY ob X (.Call (.Name "sorted" p) [.Call (.Name "set" p2) [e] [] EN] [] pos) (jb fa):=by
 obtain⟨t,ht,k⟩:=ha.ex;refine#[_,bi (jI hc) hg hm aew (aD (bT (qI hc) Jd QW PyProof.Rows.boot_set ht #[2] (rfl) Nz Nr) aQ he) #[2] (rfl) he Cj,λZ F U H env P Q K hf kk=>k Z F U H env _ _ K hf λxs e1 vs F1 H1 p s1 K1 r1=>?_];split at p
 .obtain⟨ss,hs,hl,Gg,p⟩:=p;obtain⟨v,rfl,r⟩:=r1.one;obtain⟨q,vs,rfl,h1,h2⟩:=r.lst K1.sF;have:=bw eF hs h2;subst this;refine#[q,ss,rfl,h1,hl,λl hn=>#[l,_,rfl,ah,Gg,λm ts hm hp hw=>?_]];have sH:dO H1 (upd H1 l (FW X.prog X.w l (D0 ss))):=ao hn;have K2:=K1.move ai (af K1.sF sH) sH λ_ h=>.inl h;exact kk _ e1 _ F1 _ (p ts #[hp,hw]) s1 (λ_=>#[0]) (K2.own hm #[_,ah,bS ts])
 .exact p.elim
end Q
namespace L2
open PySem PySem.Spec PyProof.Rows PyProof.Rows.KTD
variable{prog:aaC}{w:World}{A:Around}{E:Aaa}{s:Shared}
variable{X:Cx}
end L2
namespace Q
open PySem L2 PyProof.Rows PyProof.Rows.KTD
variable{ob:B3}{X:Cx}{e ke:Expr}{es:Aai}{fk:WE}{fa:WA}{x y tb:Str}{p p1 p2 p3 py pos XH EN XG:Pos}
end Q
namespace L2
open PySem PySem.Spec PyProof.Rows
variable{X:Cx}
end L2
namespace Q
open PySem L2 PyProof.Rows
variable{ob:B3}{X:Cx}{e ke:Expr}{es:Aai}{fa:WA}{fk:WE}{x:Str}{pos p p1 apos Bs EN:Pos}
variable{P:aaC}{w:World}{K:aag}{mg:Aaf}{base:Heap}
variable{k:Nat}{CS:Addr}{fd:abL}{ps:A3}{DO:FdOT}
end Q
namespace L2
open PySem PySem.Spec PyProof.Rows
variable{X:Cx}{e st:Expr}{te Pj:TE}{pos p2:Pos}
end L2
namespace Q
open PySem L2 PyProof.Rows
variable{ob:B3}{X:Cx}{e:Expr}{f:WE}{pos:Pos}
end Q
namespace L2
open PySem PySem.Spec PyProof.Rows
variable{X:Cx}{o e:Expr}{to te:TE}{apos pos:Pos}
end L2
namespace Q
open PySem L2 PyProof.Rows
variable{ob:B3}{X:Cx}{a b:Expr}{f g:WE}{apos pos:Pos}
end Q
namespace L2
open PySem PySem.Spec PyProof.Rows PySem.W
def RO(A:Around)(s:Shared)(y x:Value)(b:Bool):Prop :=
 ∀(prog:aaC) (w:World) (E:Aaa) (Q:Aaa),Q (.bool b) s->wpAny #[9] A (richCompare .Gt y x) Q E s
inductive Hu (A:Around) (s:Shared):Aad->List Value->Bool->Prop where
 |nn:Hu A s [] [] false
 |nc {y ys}:Hu A s [] (y::ys) false
 |cn {x xs}:Hu A s (x::xs) [] true
 |eq {x y xs ys b}:adO A s x y true->Hu A s xs ys b->Hu A s (x::xs) (y::ys) b
 |gt {x y xs ys b}:adO A s x y false->RO A s x y b->Hu A s (x::xs) (y::ys) b
section
open PySem.SeqAt
open PySem.AutoSeq1 (wpAny_loadPart')
open PySem.MeetsSeq PySem.MeetsSeq2 PySem.MeetsSeq3
theorem qU(l b:Addr)(items Cv:Aak)(n n2:Nat)(dd KA:Option Addr)(sl Kq:Array (Option Value))(r:Bool):
  Meets (acP.«tuple.__gt__» #[[.ref l,.ref b],[]])
   (λA R s=>s.heap.get? l=some {cls:=.type "tuple",dict:=dd,data:=.seq items n,slots:=sl}/\s.heap.get? b=some {cls:=.type "tuple",dict:=KA,data:=.seq Cv n2,slots:=Kq}/\Hu A.in1 s items.toList Cv.toList r/\R (.ok (.ret (.bool r))) s) :=
 .of_wp λprog w A R s h=>by
  obtain⟨hp,g,d,tk,os⟩:=s;obtain⟨hl,hb,lx,h⟩:=h;have f2:=AutoSeq1.sub_tuple_tuple
  wp_walk using aci hl,aci hb,wpAny_forIn_list _ (λrest b s'=>b.1=none/\s'=#[hp,g,d,tk,os]/\∃(vs ws:Aad),rest=vs.zip ws /\
   vs.length+Cv.size=ws.length+items.size/\Hu A.in1 #[hp,g,d,tk,os] vs ws r) _
  case turn=>
   rintro⟨y,x⟩ rest b s' ⟨Jf,rfl,vs,ws,hz,hlen,hR⟩;cases hR with
   |nn=>rw[adQ]at hz;cases hz
   |nc=>rw[adQ]at hz;cases hz
   |cn=>rw[aeK]at hz;cases hz
   |eq e UK=>
    rw[abb]at hz;injection hz with hyx Hf;injection hyx with hy hx;subst hy hx;simp only[aay]at hlen;refine aaa (e prog w _ _ ?_)
    wp_walk
    exact#[rfl,rfl,_,_,Hf,#[],UK]
   |gt e e2=>
    rw[abb]at hz;injection hz with hyx Hf;injection hyx with hy hx;subst hy hx;simp only[aay]at hlen;refine aaa (e prog w _ _ ?_);have T7:=e2 prog w
    wp_walk using T7
    exact#[_,rfl,by simpa using h]
  case fin=>
   rintro⟨b1,b2⟩ s' ⟨Jf,rfl,vs,ws,hz,hlen,hR⟩;simp only at Jf;subst Jf;have hv:r=decide (Cv.size<items.size):=by
    cases hR with
    |nn=>simp only[abl]at hlen;exact(decide_eq_false #[]).symm
    |nc=>simp only[abl,aay]at hlen;exact(decide_eq_false #[]).symm
    |cn=>simp only[abl,aay]at hlen;exact(decide_eq_true #[]).symm
    |eq=>rw[abb]at hz;cases hz
    |gt=>rw[abb]at hz;cases hz
   rw[hv]at h
   wp_walk
   exact#[_,rfl,by simpa[ae2]using h]
  case h=>exact#[rfl,rfl,items.toList,Cv.toList,rfl,#[3],lx]
end
noncomputable def gtB(k l:Int×Str):Bool:=decide (l.1<k.1\/(l.1=k.1/\Bv l.2 k.2))
variable{prog:aaC}{w:World}{A:Around}{R:Result->Shared->Prop}
variable{E:Aaa}{s:Shared}
variable{X:Cx}{lq d x:Str}{IU p p1 p2 p3 p4 EO Ga pos:Pos}{P c:Addr}{params:Arguments}{scope:Scope}{e:Expr}{te:TE}{i k:Nat}{kd:Nat}
end L2
namespace Q
open PySem L2 PyProof.Rows PySem.W
variable{X:Cx}{lq d x:Str}{IU p p1 p2 p3 p4 EO Ga pos:Pos}{T c:Addr}{params:Arguments}{scope:Scope}{e:Expr}{f:WE}{i j k:Nat}{ob:B3}{kd:Nat}
end Q
namespace L2
open PySem PySem.Spec PyProof.Rows
end L2
namespace Q
open PySem L2 PyProof.Rows PySem.W
variable{X:Cx}{lq d x:Str}{IU p p1 p2 p3 p4 EO Ga pos:Pos}{T c:Addr}{params:Arguments}{scope:Scope}{e:Expr}{f:WE}{i j k:Nat}{ob:B3}{kd:Nat}
end Q
namespace L2
open PySem PySem.Spec PyProof.Rows
variable{prog:aaC}{w:World}{A:Around}{E:Aaa}{s:Shared}
variable{X:Cx}{e l:Expr}{te:TE}{tl:TO}{pos p2 p3:Pos}{c:Int}{j:Nat}
end L2
namespace Q
open PySem L2 PyProof.Rows
end Q
namespace L2
open PySem PySem.Spec PyProof.Rows
theorem lL(k l:Int×Str):(k.1=l.1/\k.2=l.2/\gtB k l=false)\/(k.1=l.1/\k.2≠l.2/\gtB k l=decide (l.2.cps.toList<k.2.cps.toList))\/(k.1≠l.1/\gtB k l=decide (l.1<k.1)):=by
 by_cases e:k.1=l.1
 .by_cases g:k.2=l.2
  .refine .inl #[e,g,decide_eq_false ?_];rintro(z|⟨_,z⟩)
   .omega
   .rw[g]at z;exact adJ _ z
  .refine .inr (.inl #[e,g,?_]);unfold gtB;rw[aaQ,decide_eq_true_eq,decide_eq_true_eq];exact#[λz=>z.elim (λq=>#[]) λq=>q.2,λz=>.inr #[e.symm,z]]
 .refine .inr (.inr #[e,?_]);unfold gtB;rw[aaQ,decide_eq_true_eq,decide_eq_true_eq];exact#[λz=>z.elim id λq=>absurd q.1.symm e,.inl]
variable{A:Around}{s:Shared}{x y:Addr}{k l:Int×Str}
def uk(hu:A.units<cLine)(hx:Fy s.heap x k)(hy:Fy s.heap y l):RO A s (.ref x) (.ref y) (gtB k l):=λprog w E Q h=>by
 obtain⟨⟨cls,dd,data,sl⟩,n,t,u,ho,hc,hd⟩:=hx;obtain⟨⟨Rv,KA,data2,Kq⟩,n2,t2,u2,Hh,ND,hd2⟩:=hy;subst hc hd ND hd2;refine richCompare_meets_room #[_,ho,rfl] #[_,Hh,rfl] PySem.F.slot_tuple_gt PySem.F.entry_tuple_gt (PySem.F.args_tuple_gt_2 _ _) (qU x y _ _ n n2 dd KA sl Kq _)
  #[ho,Hh,?_,#[(λx=>nomatch x),h]] hu
 rcases lL k l with ⟨e,g,b⟩|⟨e,g,b⟩|⟨e,b⟩
 .rw[b];have e1:(k.1==l.1)=true:=by simp_all
  have e2:(k.2==l.2)=true:=by simp_all
  exact .eq (e1 ▸ acb k.1 t l.1 t2) (.eq (e2 ▸ acX k.2 u l.2 u2) .nn)
 .have e1:(k.1==l.1)=true:=by simp_all
  have e2:(k.2==l.2)=false:=by simp_all
  refine .eq (e1 ▸ acb k.1 t l.1 t2) (.gt (e2 ▸ acX k.2 u l.2 u2) λprog w E Q hq=>?_);rw[b]at hq;exact P.gt_str hq
 .have e1:(k.1==l.1)=false:=by simp_all
  refine .gt (e1 ▸ acb k.1 t l.1 t2) λprog w E Q hq=>?_;rw[b]at hq;exact gt_int hq
variable{prog:aaC}{w:World}{R:Result->Shared->Prop}
def uD(k l:Int×Str):(k.1=l.1/\k.2=l.2/\gtB l k=false)\/(k.1=l.1/\k.2≠l.2/\gtB l k=decide (k.2.cps.toList<l.2.cps.toList))\/(k.1≠l.1/\gtB l k=decide (k.1<l.1)):=by
 rcases lL l k with ⟨a,b,c⟩|⟨a,b,c⟩|⟨a,c⟩
 .exact .inl #[a.symm,b.symm,c]
 .exact .inr (.inl #[a.symm,abz b,c])
 .exact .inr (.inr #[abz a,c])
def uj(hu:A.units<cLine)(hx:Fy s.heap x k)(hy:Fy s.heap y l):RJ A s (.ref x) (.ref y) (gtB l k):=λprog w E Q h=>by
 obtain⟨⟨cls,dd,data,sl⟩,n,t,u,ho,hc,hd⟩:=hx;obtain⟨⟨Rv,KA,data2,Kq⟩,n2,t2,u2,Hh,ND,hd2⟩:=hy;subst hc hd ND hd2;refine richCompare_meets_room #[_,ho,rfl] #[_,Hh,rfl] PySem.F.slot_tuple_lt PySem.F.entry_tuple_lt (PySem.F.args_tuple_lt_2 _ _) (qT x y _ _ n n2 dd KA sl Kq _)
  #[ho,Hh,?_,#[(λx=>nomatch x),h]] hu
 rcases uD k l with ⟨e,g,b⟩|⟨e,g,b⟩|⟨e,b⟩
 .rw[b];have e1:(k.1==l.1)=true:=by simp_all
  have e2:(k.2==l.2)=true:=by simp_all
  exact .eq (e1 ▸ acb k.1 t l.1 t2) (.eq (e2 ▸ acX k.2 u l.2 u2) .nn)
 .have e1:(k.1==l.1)=true:=by simp_all
  have e2:(k.2==l.2)=false:=by simp_all
  refine .eq (e1 ▸ acb k.1 t l.1 t2) (.lt (e2 ▸ acX k.2 u l.2 u2) λprog w E Q hq=>?_);rw[b]at hq;exact P.lt_str hq
 .have e1:(k.1==l.1)=false:=by simp_all
  refine .lt (e1 ▸ acb k.1 t l.1 t2) λprog w E Q hq=>?_;rw[b]at hq;exact lt_int hq
end L2
namespace Q
open PySem L2 PyProof.Rows
noncomputable def FY:PV->Option (Int×Str)
 |.tup [.int a,.str b]=>some (a,b)
 |_=>none
variable{ob:B3}{X:Cx}
end Q
namespace L2
open PySem PySem.Spec PyProof.Rows PySem.W
variable{prog:aaC}{w:World}{A:Around}{E:Aaa}{s:Shared}
variable{X:Cx}{pins:Aac}{U:St}{H:Hp}
variable{k:Nat}{f:Addr}{fd:abL}{ps:A3}{sp:Sp}
variable{e:Expr}{te:TE}{x:Str}{p p1 p2 pos EO Ga:Pos}{kd:Nat}
end L2
namespace Q
open PySem L2 PyProof.Rows
variable{ob:B3}{X:Cx}{k:Nat}{fa:Addr}{fd:abL}{ps:A3}{D:Fd}{e:Expr}{f:WE}{x:Str}{p p1 p2 pos EO Ga:Pos}{kd:Nat}
open PySem L2
variable{ob:B3}{X:Cx}{k:Nat}{CS:Addr}{fd:abL}{ps:A3}{D:Fd}{x y:Str}{p p1 pos:Pos}{e:Expr}{f:WE}
end Q
namespace L2
open PySem PySem.Spec PyProof.Rows PySem.W
def Vk(tp:Bool)(h:Heap)(l:Addr)(vs:Aad):Prop:=if tp=true then h.IsTuple l vs.toArray else h.IsList l vs.toArray
def DI(tp:Bool)(h:Heap)(it l:Addr)(j:Nat):Prop:=if tp=true then h.IsTupleIter it l j else h.IsListIter it l j
variable{tp:Bool}{h:Heap}{it l:Addr}{j:Nat}
def DI.at(x:DI tp h it l j):∃o,h.get? it=some o/\(∀v,o.data≠.cell v)/\(o.cls==abM "tuple")=false/\(o.cls==abM "list")=false/\∀h':Heap,h'.get? it=some o->DI tp h' it l j:=by
 cases tp
 .obtain⟨o,e,c,d⟩:=x;exact#[o,e,(λv z=>#[1]),#[1],#[1],λh' g=>#[o,g,c,d]]
 .obtain⟨o,e,c,d⟩:=x;exact#[o,e,(λv z=>#[1]),#[1],#[1],λh' g=>#[o,g,c,d]]
variable{prog:aaC}{w:World}{A:Around}{E:Aaa}{R:Result->Shared->Prop}
variable{X:Cx}{k:Nat}{f:Addr}{fd:abL}{ps:A3}{sp:Sp}
def HB(tp:Bool)(K:aag)(H:Hp)(l:Addr)(xs:Aag):Prop:=if tp=true then Cf K H l xs else Cr K H l xs
variable{pins:Aac}{U:St}{H:Hp}{s:Shared}{xs:Aag}
def eG(I:Inv X pins U H s)(h:HB tp X.K H l xs):∃eQ,oF xs eQ/\Vk tp s.heap l eQ:=by
 cases tp
 .obtain⟨eQ,rv,pl,_⟩:=I.list (h);exact#[eQ,rv,pl.isList]
 .obtain⟨eQ,rv,tp,_⟩:=I.tuple (h);exact#[eQ,rv,tp]
variable{lq d x:Str}{IU p p1 p2 p3 p4 EO Ga pos:Pos}{P c:Addr}{params:Arguments}{scope:Scope}{e:Expr}{te:TE}{i:Nat}{kd:Nat}
end L2
namespace Q
open PySem L2 PyProof.Rows PySem.W
noncomputable def IQ:PV->Option (Bool×Aab)
 |.tup ys=>some (true,ys)
 |.lst ys=>some (false,ys)
 |_=>none
variable{X:Cx}{lq d x:Str}{IU p p1 p2 p3 p4 EO Ga pos:Pos}{T c:Addr}{params:Arguments}{scope:Scope}{e:Expr}{f:WE}{i j k:Nat}{ob:B3}{kd:Nat}
variable{fa:Addr}{fd:abL}{ps:A3}{D:Fd}
end Q
namespace L2
open PySem PySem.Spec PyProof.Rows
def DJ(tp:Bool)(h:Heap)(l:Addr)(eQ:Aak):Prop:=if tp=true then h.IsTuple l eQ else h.IsList l eQ
variable{prog:aaC}{w:World}{A:Around}{E:Aaa}{s:Shared}
variable{tp:Bool}{j t:Addr}{n:Nat}{eQ:Aak}{x:Value}{Q:Aaa}
def JS(gj:DI tp s.heap j t n)(gt:DJ tp s.heap t eQ)(gx:eQ[n]?=some x)
  (k:∀h',DI tp h' j t (n+1)->ab1 j s.heap h'->Q x {s with heap:=h'}):wpAny #[9] A (aaU (.ref j)) Q E s:=by
 cases tp
 .exact wU gj gt gx k
 .exact ph gj gt gx k
def Rp(hh:A.handled=none)(gj:DI tp s.heap j t n)(gt:DJ tp s.heap t eQ)(gx:eQ[n]?=none)
  (k:∀h' e,ad1 j s.heap h'->(∃o,h'.get? e=some o/\o.cls=.type "StopIteration")->E (.ref e) {s with heap:=h'}):wpAny #[9] A (aaU (.ref j)) Q E s:=by
 cases tp
 .exact NP hh gj gt gx k
 .exact Ia hh gj gt gx k
structure Jj(f1 f2:Bool)(h:Heap)(z u o i1 i2 t1 t2:Addr)(n:Nat):Prop where
 zz:IsZip h z u o .none
 uu:IsPair h u (.ref i1) (.ref i2)
 oo:∃a b,IsPair h o a b
 a1:DI f1 h i1 t1 n
 a2:DI f2 h i2 t2 n
variable{h h':Heap}{a:Addr}
def DJ.at(x:DJ tp h a eQ)(k:∀o,h.get? a=some o->h'.get? a=some o):DJ tp h' a eQ:=by
 cases tp
 .exact F9 (x) k
 .exact Pg (x) k
def aY(x:DI tp h a t n)(k:∀o,h.get? a=some o->h'.get? a=some o):DI tp h' a t n:=by obtain⟨o,e,_,_,_,m⟩:=x.at;exact m h' (k o e)
variable{z u o:Addr}{v:Value}
def cO(x:DJ tp h t eQ)(y:IsZip h z u o v):t≠z:=by
 cases tp
 .exact qp (x) y
 .exact p0 (x) y
variable{b:Addr}
def jp{tq:Bool}(x:DJ tp h t eQ)(y:DI tq h j b n):t≠j:=by
 rintro rfl;obtain⟨o,e,_,c1,c2,_⟩:=y.at;cases tp
 .obtain⟨q,e',c,_⟩:=(x)
  rw[e]at e';cases e';rw[c]at c2;simp at c2
 .obtain⟨q,e',c,_⟩:=(x)
  rw[e]at e';cases e';rw[c]at c1;simp at c1
variable{f1 f2:Bool}{i1 i2 t1 t2:Addr}{xs ys:Aak}
def qM{y:Value}{Q:Aam}(D:Lv z u o i1 i2)(Z:Jj f1 f2 s.heap z u o i1 i2 t1 t2 n)(Ja:t1≠o)(Hh:t2≠o)
  (g1:DJ f1 s.heap t1 xs) (g2:DJ f2 s.heap t2 ys) (e1:xs[n]?=some x) (e2:ys[n]?=some y)
  (k:∀h',IsZip h' z u o (rawInt s.heap.objs.size)->IsPair h' u (.ref i1) (.ref i2)->IsPair h' o x y->DI f1 h' i1 t1 (n+1)->DI f2 h' i2 t2 (n+1)->IsPair h' s.heap.objs.size x y->h'.objs.size=s.heap.objs.size+1 ->
   (∀c q,c∉[z,o,i1,i2]->s.heap.get? c=some q->h'.get? c=some q)->Q (some (.ref s.heap.objs.size)) {s with heap:=h'}) :
  wpAny #[9] A (pyNext (.ref z)) Q E s:=by
 obtain⟨zz,uu,⟨a,b,oo⟩,a1,a2⟩:=Z;have z1:=cO g1 zz;have z2:=cO g2 zz;have IY:s.TypeIs (.ref z) "zip" := #[_,zz,rfl]
 unfold pyNext;refine aaa (aeD (aa4 (name:=aao "__next__") IY aek (aaT aek IY F.entry_zip_next ?_ (F.args_zip_next_1 _))));refine aaa (m:=field (.ref z) 2) (abf zz rfl (x:=.bool false) rfl ?_);refine aaa (m:=field (.ref z) 3) (abf zz rfl (x:=.ref u) rfl ?_);refine aaa (abw uu rfl ?_);refine aaa (m:=ab6 (.ref z)) ?_;unfold ab6;refine aaa (abf zz rfl (x:=.none) rfl (aae ?_));simp only[if_true];refine aaa (act (aaa (abf zz rfl (x:=.ref o) rfl (aaa (acy zz #[0] λUa q1 k1=>?_)))));replace q1:IsZip Ua z u o .ellipsis:=q1;refine aaa ?_;simp only[List.zipIdx_cons,List.zipIdx_nil,afB,List.forIn_nil];refine aaa (aaa (aeC ?_));refine aaa (m:=aaU (.ref i1)) (JS (aY a1 λq e=>k1.extBut _ _ D.x1z e) (DJ.at g1 λq e=>k1.extBut _ _ z1 e) e1 λHg q2 k2=>aae ?_);have r2:IsPair Hg o a b:=k2.extBut _ _ D.o1 (k1.extBut _ _ D.oz oo);refine aaa (abw r2 rfl (aaa (aeo r2 λSg q3 k3=>?_)));replace q3:IsPair Sg o x b:=q3;refine aaa (wpAny_letGo (aae (aaa (aaa (aeC ?_)))));refine aaa (m:=aaU (.ref i2)) (JS (aY a2 λq e=>k3.extBut _ _ D.o2.symm (k2.extBut _ _ D.xx.symm (k1.extBut _ _ D.x2z e)))
  (DJ.at g2 λq e=>k3.extBut _ _ Hh (k2.extBut _ _ (jp g2 a1) (k1.extBut _ _ z2 e))) e2 λT9 q4 k4=>aae ?_)
 have r4:IsPair T9 o x b:=k4.extBut _ _ D.o2 q3;refine aaa (abw r4 rfl (aaa (aeo r4 λHQ q5 k5=>?_)));replace q5:IsPair HQ o x y:=q5;refine aaa (wpAny_letGo (aae (aae ?_)));refine aaa (abw q5 rfl (aaa (afL ?_)));have sz:HQ.objs.size=s.heap.objs.size:=by rw[k5.1,k4.1,k3.1,k2.1,k1.1]
 have Vf:∀c q,c≠z->c≠o->c≠i1->c≠i2->s.heap.get? c=some q->HQ.get? c=some q:=λc q c1 c2 c3 c4 e=>k5.extBut _ _ c2 (k4.extBut _ _ c4 (k3.extBut _ _ c2 (k2.extBut _ _ c3 (k1.extBut _ _ c1 e))));have z5:IsZip HQ z u o .ellipsis:=k5.extBut _ _ D.oz.symm (k4.extBut _ _ D.x2z.symm (k3.extBut _ _ D.oz.symm (k2.extBut _ _ D.x1z.symm q1)));have b1:DI f1 HQ i1 t1 (n+1):=aY q2 λq e=>k5.extBut _ _ D.o1.symm (k4.extBut _ _ D.xx (k3.extBut _ _ D.o1.symm e));have b2:DI f2 HQ i2 t2 (n+1):=aY q4 λq e=>k5.extBut _ _ D.o2.symm e;refine aaa (m:=aes (.ref z) (.ref HQ.objs.size)) ?_;unfold aes;have z6:IsZip (HQ.push {cls:=.type "tuple",data:=.seq #v[x,y]}) z u o .ellipsis:=aac _ z5;refine aaa (acy z6 #[0] λhq7 q7 k7=>?_);refine acy q7 #[0] λSf q8 k8=>?_;have up:∀c q,c≠z->HQ.get? c=some q->Sf.get? c=some q:=λc q c1 e=>k8.extBut _ _ c1 (k7.extBut _ _ c1 (aac _ e));have VJ:HQ.objs.size≠z:=abF (aah z5);have Qn:IsPair Sf HQ.objs.size x y:=k8.extBut _ _ VJ (k7.extBut _ _ VJ (aaf _ rfl));have s8:Sf.objs.size=HQ.objs.size+1:=by rw[k8.1,k7.1,aa9]
 rw[sz]at q8 Qn s8;refine aae #[_,rfl,aae ?_];show Q (some (.ref HQ.objs.size)) _;rw[sz];exact k Sf q8 (up _ _ D.uz (Vf _ _ D.uz D.uo D.u1 D.u2 uu)) (up _ _ D.oz q5) (aY b1 λq e=>up _ _ D.x1z e) (aY b2 λq e=>up _ _ D.x2z e) Qn s8 λc q hc e=>#[1]
def tK{Q:Aam}(hh:A.handled=none)(D:Lv z u o i1 i2)(Z:Jj f1 f2 s.heap z u o i1 i2 t1 t2 n)(Ja:t1≠o)(Hh:t2≠o)
  (g1:DJ f1 s.heap t1 xs) (g2:DJ f2 s.heap t2 ys) (e:xs[n]?=none\/ys[n]?=none)
  (k:∀h',(∀c q,c∉[z,o,i1,i2]->s.heap.get? c=some q->h'.get? c=some q)->Q none {s with heap:=h'}) :
  wpAny #[9] A (pyNext (.ref z)) Q E s:=by
 obtain⟨zz,uu,⟨a,b,oo⟩,a1,a2⟩:=Z;have z1:=cO g1 zz;have z2:=cO g2 zz;have IY:s.TypeIs (.ref z) "zip" := #[_,zz,rfl]
 unfold pyNext;have fin:∀(h':Heap) (x:Addr),(∀c q,c∉[z,o,i1,i2]->s.heap.get? c=some q->h'.get? c=some q)->(∃q,h'.get? x=some q/\q.cls=.type "StopIteration") ->
   wpAny #[9] A (do if (<- isInstance (.ref x) (.type "StopIteration"))then pure none else throw (.ref x)) Q E {s with heap:=h'}:=λh' x kk #[q,hq,hc]=>
  aaa (ad4 (T := "StopIteration") (b:=true) #[q,hq,hc] afM (aae (k _ kk)))
 refine aaa (aeD (aa4 (name:=aao "__next__") IY aek (aaT aek IY F.entry_zip_next ?_ (F.args_zip_next_1 _))));refine aaa (m:=field (.ref z) 2) (abf zz rfl (x:=.bool false) rfl ?_);refine aaa (m:=field (.ref z) 3) (abf zz rfl (x:=.ref u) rfl ?_);refine aaa (abw uu rfl ?_);refine aaa (m:=ab6 (.ref z)) ?_;unfold ab6;refine aaa (abf zz rfl (x:=.none) rfl (aae ?_));simp only[if_true];refine aaa (act (aaa (abf zz rfl (x:=.ref o) rfl (aaa (acy zz #[0] λUa q1 k1=>?_)))));replace q1:IsZip Ua z u o .ellipsis:=q1;refine aaa ?_;simp only[List.zipIdx_cons,List.zipIdx_nil,afB,List.forIn_nil];refine aaa (aaa (aeC ?_));cases e1:xs[n]? with
 |none=>
  refine aaa (m:=aaU (.ref i1)) (Rp hh (aY a1 λq e=>k1.extBut _ _ D.x1z e) (DJ.at g1 λq e=>k1.extBut _ _ z1 e) e1 λHg x k2 #[ox,x1,x2]=>?_);have q2:IsZip Hg z u o .ellipsis:=k2 _ _ D.x1z.symm q1;have xz:x≠z:=λq=>by simp_all
  refine acy q2 #[0] λSg _ k3=>fin Sg x (λc q hc e=>?_) #[ox,k3.extBut _ _ xz x1,x2];simp only[aaY,aa7,or_false,not_or]at hc;exact k3.extBut _ _ hc.1 (k2 _ _ hc.2.2.1 (k1.extBut _ _ hc.1 e))
 |some x0=>
  have e2:ys[n]?=none:=by simp_all
  refine aaa (m:=aaU (.ref i1)) (JS (aY a1 λq e=>k1.extBut _ _ D.x1z e) (DJ.at g1 λq e=>k1.extBut _ _ z1 e) e1 λHg q2 k2=>aae ?_);have r2:IsPair Hg o a b:=k2.extBut _ _ D.o1 (k1.extBut _ _ D.oz oo);refine aaa (abw r2 rfl (aaa (aeo r2 λSg q3 k3=>?_)));refine aaa (wpAny_letGo (aae (aaa (aaa (aeC ?_)))));refine aaa (m:=aaU (.ref i2)) (Rp hh (aY a2 λq e=>k3.extBut _ _ D.o2.symm (k2.extBut _ _ D.xx.symm (k1.extBut _ _ D.x2z e)))
   (DJ.at g2 λq e=>k3.extBut _ _ Hh (k2.extBut _ _ (jp g2 a1) (k1.extBut _ _ z2 e))) e2 λT9 x k4 #[ox,x1,x2]=>?_)
  have q4:IsZip T9 z u o .ellipsis:=k4 _ _ D.x2z.symm (k3.extBut _ _ D.oz.symm (k2.extBut _ _ D.x1z.symm q1));have xz:x≠z:=λq=>by simp_all
  refine acy q4 #[0] λHQ _ k5=>fin HQ x (λc q hc e=>?_) #[ox,k5.extBut _ _ xz x1,x2];simp only[aaY,aa7,or_false,not_or]at hc;exact k5.extBut _ _ hc.1 (k4 _ _ hc.2.2.2 (k3.extBut _ _ hc.2.1 (k2.extBut _ _ hc.2.2.1 (k1.extBut _ _ hc.1 e))))
noncomputable def JV(tp:Bool)(t:Addr):Obj:={cls:=.type (if tp=true then "tuple_iterator" else "list_iterator"),data:=.fields #v[.ref t,.int 0 0]}
def pD(e:h.get? a=some (JV tp t)):DI tp h a t 0:=by
 cases tp
 .exact#[_,e,rfl,rfl]
 .exact#[_,e,rfl,rfl]
noncomputable abbrev RU(f1:Bool)(h:Heap)(t1:Addr):Heap:=h.push (JV f1 t1)
noncomputable abbrev RT(f1 f2:Bool)(h:Heap)(t1 t2:Addr):Heap:=(RU f1 h t1).push (JV f2 t2)
noncomputable abbrev RS(f1 f2:Bool)(h:Heap)(t1 t2:Addr):Heap:=(RT f1 f2 h t1 t2).push {cls:=.type "tuple",data:=.seq #v[.ref h.objs.size,.ref (RU f1 h t1).objs.size]}
noncomputable abbrev RR(f1 f2:Bool)(h:Heap)(t1 t2:Addr):Heap:=(RS f1 f2 h t1 t2).push {cls:=.type "tuple",data:=.seq #v[.none,.none]}
noncomputable abbrev Mw(f1 f2:Bool)(h:Heap)(t1 t2:Addr):Heap:=(RR f1 f2 h t1 t2).push {cls:=.type "zip",data:=.fields #v[.none,.bool false,.bool false,.ref (RT f1 f2 h t1 t2).objs.size,.ref (RS f1 f2 h t1 t2).objs.size]}
def lI(g:DJ tp s.heap t eQ)(k:Q (.ref s.heap.objs.size) {s with heap:=s.heap.push (JV tp t)}):wpAny #[9] A (pyIter (.ref t)) Q E s:=by
 cases tp
 .exact ach g k
 .exact ab9 g k
def DJ.push(g:DJ tp h t eQ)(o:Obj):DJ tp (h.push o) t eQ:=g.at λ_ e=>aac _ e
def uF(f1 f2:Bool)(t1 t2:Addr)(xs ys:Aak):Meets (acP.«zip.__new__» #[[.type "zip",.ref t1,.ref t2],[]])
  (λ_ R s=>DJ f1 s.heap t1 xs/\DJ f2 s.heap t2 ys/\R (.ok (.ret (.ref (RR f1 f2 s.heap t1 t2).objs.size))) {s with heap:=Mw f1 f2 s.heap t1 t2}) :=
 .of_wp λprog w A R s q=>by
  obtain⟨hp,g,d,tk,os⟩:=s;obtain⟨g1,g2,q⟩:=q;have hs:=sub_zip;have m1  := g1;have m2:DJ f2 (Shared.heap #[hp.push (JV f1 t1),g,d,tk,os]) t2 ys:=g2.push _
  wp_walk using lI m1,lI m2
  exact#[_,rfl,q]
def x6(g1:DJ f1 s.heap t1 xs)(g2:DJ f2 s.heap t2 ys)
  (k:∀h',Jj f1 f2 h' (s.heap.objs.size+4) (s.heap.objs.size+2) (s.heap.objs.size+3) s.heap.objs.size (s.heap.objs.size+1) t1 t2 0->h'.objs.size=s.heap.objs.size+5->(∀c o,s.heap.get? c=some o->h'.get? c=some o)->Q (.ref (s.heap.objs.size+4)) {s with heap:=h'}) :
  wpAny #[9] A (call (.type "zip") [.ref t1,.ref t2]) Q E s:=by
 refine callType_new F.called_zip #[2] (F.typeCall_zip_2 _ _) (F.newCall_zip_2 _ _) (λobj=>F.args_object_init_3 obj _ _) F.entry_zip_new (uF f1 f2 t1 t2 xs ys) #[g1,g2,?_];have z1:(RU f1 s.heap t1).objs.size=s.heap.objs.size+1:=aa9 ..;have z2:(RT f1 f2 s.heap t1 t2).objs.size=s.heap.objs.size+2:=by rw[aa9,z1]
 have z3:(RS f1 f2 s.heap t1 t2).objs.size=s.heap.objs.size+3:=by rw[aa9,z2]
 have z4:(RR f1 f2 s.heap t1 t2).objs.size=s.heap.objs.size+4:=by rw[aa9,z3]
 have z5:(Mw f1 f2 s.heap t1 t2).objs.size=s.heap.objs.size+5:=by rw[aa9,z4]
 have up:∀{h:Heap} {o o':Obj} {c:Addr},h.get? c=some o'->(h.push o).get? c=some o':=λe=>aac _ e;have y5:(Mw f1 f2 s.heap t1 t2).get? (RR f1 f2 s.heap t1 t2).objs.size=some _:=aaf _ rfl;have y4:(Mw f1 f2 s.heap t1 t2).get? (RS f1 f2 s.heap t1 t2).objs.size=some _:=up (aaf _ rfl);have y3:(Mw f1 f2 s.heap t1 t2).get? (RT f1 f2 s.heap t1 t2).objs.size=some _:=up (up (aaf _ rfl));have y2:(Mw f1 f2 s.heap t1 t2).get? (RU f1 s.heap t1).objs.size=some _:=up (up (up (aaf _ rfl)));have y1:(Mw f1 f2 s.heap t1 t2).get? s.heap.objs.size=some _:=up (up (up (up (aaf _ rfl))));show _/\_;rw[z2,z3,z4]at y5;rw[z1,z2]at y3;rw[z3]at y4;rw[z1]at y2;rw[z4];exact#[#[_,y5,rfl],k _ #[y5,y3,#[_,_,y4],pD y1,pD y2] z5 λc o e=>up (up (up (up (up e))))]
def DJ.lt(g:DJ tp h t eQ):t<h.objs.size:=by
 cases tp
 .obtain⟨o,e,_⟩:=(g)
  exact aah e
 .obtain⟨o,e,_⟩:=(g)
  exact aah e
variable{X:Cx}{pins:Aac}{U:St}{H:Hp}{l:Addr}
def oO{xs ys:Aag}(I:Inv X pins U H s)(h1:HB tp X.K H l xs)(h2:HB tp X.K H l ys):xs=ys:=by
 cases tp
 .exact I.D6 h1 h2
 .exact I.CU h1 h2
noncomputable def N3(f1 f2:Bool)(K:aag)(a b:Addr):It :=
 #[λi H=>∃xs ys x y,HB f1 K H a xs/\HB f2 K H b ys/\xs[i]?=some x/\ys[i]?=some y,
  λi H v H'=>∃p x y,v=.ref p/\H p=none/\H'=upd H p (.tup [x,y])/\∀xs ys,HB f1 K H a xs->HB f2 K H b ys->xs[i]?=some x/\ys[i]?=some y,
  λi H=>∃xs ys,HB f1 K H a xs/\HB f2 K H b ys/\(xs.length<=i\/ys.length<=i)]
def qL(Z:Jj f1 f2 h z u o i1 i2 t1 t2 n)(k:∀b∈[z,u,o,i1,i2],∀q,h.get? b=some q->h'.get? b=some q):Jj f1 f2 h' z u o i1 i2 t1 t2 n:=by obtain⟨zz,uu,⟨a,b,oo⟩,a1,a2⟩:=Z;exact#[k z #[0] _ zz,k u #[0] _ uu,#[a,b,k o #[0] _ oo],aY a1 λq e=>k i1 #[0] q e,aY a2 λq e=>k i2 #[0] q e]
variable{P:aaC}{K:aag}{elts:Aai}{pos:Pos}
theorem qR{x1:_}(a b z u o i1 i2:Addr)(D:Lv z u o i1 i2)(Ja:a≠o)(Hh:b≠o):
  Turn P w K (.Tuple elts x1 pos) (N3 f1 f2 K a b) [z,u,o,i1,i2] z (λn h=>Jj f1 f2 h z u o i1 i2 a b n) where
 mem:=by simp
 obj:=λn h Z c hc=>by
  obtain⟨zz,uu,⟨p,q,oo⟩,z1,z2⟩:=Z;obtain⟨o1,e1,d1,_⟩:=z1.at;obtain⟨o2,e2,d2,_⟩:=z2.at;simp only[aaY,aa7,or_false]at hc;rcases hc with rfl|rfl|rfl|rfl|rfl
  .exact#[_,zz,λv e=>(by cases (show afF _=aeP v from e))]
  .exact#[_,uu,λv e=>(by cases (show Data.seq _ _=aeP v from e))]
  .exact#[_,oo,λv e=>(by cases (show Data.seq _ _=aeP v from e))]
  .exact#[_,e1,d1]
  .exact#[_,e2,d2]
 keep:=λn h h' Z k=>qL Z k
 item:=by
  intro X hP hw hK hc n pins s U H E I hf Z hg;subst hP hw hK;obtain⟨xs,ys,x,y,hx,hy,ex,ey⟩:=hg;obtain⟨QB,R0,p1⟩:=eG I hx;obtain⟨QA,Ir,p2⟩:=eG I hy;obtain⟨v1,e1,r1⟩:=R0.get ex;obtain⟨v2,e2,r2⟩:=Ir.get ey;have DS:H s.heap.objs.size=none:=I.Bc.fresh (aai _);refine qM D Z Ja Hh (show DJ f1 s.heap a QB.toArray from p1) (show DJ f2 s.heap b QA.toArray from p2) (x:=v1) (y:=v2) (by simpa using e1) (by simpa using e2) λh' q1 q2 q3 q4 q5 q6 q7 kk=>?_;refine#[_,rfl,wpAny_letOwnedTupleGo_zip (s:={s with heap:=h'}) q1 λh2 w1 w2=>?_];have old:∀c∈[z,u,o,i1,i2],c<s.heap.objs.size:=λc hc=>by
   obtain⟨zz,uu,⟨p,q,oo⟩,z1,z2⟩:=Z;obtain⟨o1,e1,d1,_⟩:=z1.at;obtain⟨o2,e2,d2,_⟩:=z2.at;simp only[aaY,aa7,or_false]at hc;rcases hc with rfl|rfl|rfl|rfl|rfl
   .exact aah zz
   .exact aah uu
   .exact aah oo
   .exact aah e1
   .exact aah e2
  have hnz:s.heap.objs.size≠z:=abF (old z #[0]);have I1:Inv X pins U (upd H s.heap.objs.size (.tup [x,y])) {s with heap:=s.heap.push {cls:=.type "tuple",data:=.seq #v[v1,v2]}} :=
   I.laid (t':=s.toks) (λb u e=>aac _ e) (aai _) #[by show 2<=sizeLine;decide,[v1,v2],.cons r1 (.cons r2 .nil),#[_,aaf _ rfl,rfl,_,rfl],_,aaf _ rfl,rfl]
  have Jq:∀c∈[z,u,o,i1,i2],DL X pins (upd H s.heap.objs.size (.tup [x,y])) c:=λc hc=>#[by rw[aj (aap (old c hc))];exact(hf c hc).1,(hf c hc).2]
  have I2:Inv X pins U (upd H s.heap.objs.size (.tup [x,y])) {s with heap:=h2}:=by
   refine I1.CI (t':=s.toks) (h':=h2) (λc q hc e=>?_) Jq;have Sn:c≠z:=λe=>hc (by simp[e]);refine w2.extBut _ _ Sn ?_;by_cases Hz:c=s.heap.objs.size
   .subst Hz;have:(s.heap.push {cls:=.type "tuple",data:=.seq #v[v1,v2]}).get? s.heap.objs.size=some {cls:=.type "tuple",data:=.seq #v[v1,v2]}:=aaf _ rfl;have e':some {cls:=.type "tuple",data:=.seq #v[v1,v2]}=some q:=this.symm.trans e;rw[<- e'];exact q6
   .refine kk c q (λz=>hc ?_) ?_
    .simp only[aaY,aa7,or_false]at z ⊢;rcases z with z|z|z|z
     .exact .inl z
     .exact .inr (.inr (.inl z))
     .exact .inr (.inr (.inr (.inl z)))
     .exact .inr (.inr (.inr (.inr z)))
    .exact(adS _ _ _ Hz).symm.trans e
  refine#[.ref s.heap.objs.size,_,I2,rfl,#[_,x,y,rfl,DS,rfl,λVL ys' g1 g2=>?_],?_,λc hc=>(Jq c hc).1]
  .rw[oO I g1 hx,oO I g2 hy];exact#[ex,ey]
  .exact#[w1,w2.extBut _ _ D.uz q2,#[_,_,w2.extBut _ _ D.oz q3],aY q4 λq e=>w2.extBut _ _ D.x1z e,aY q5 λq e=>w2.extBut _ _ D.x2z e]
 done:=by
  intro X hP hw hK hc n pins s U H E I hf Z hg;subst hP hw hK;obtain⟨xs,ys,hx,hy,hl⟩:=hg;obtain⟨QB,R0,p1⟩:=eG I hx;obtain⟨QA,Ir,p2⟩:=eG I hy;have l1:=R0.length;have l2:=Ir.length;refine tK (I.ok.hd hc) D Z Ja Hh (show DJ f1 s.heap a QB.toArray from p1) (show DJ f2 s.heap b QA.toArray from p2) ?_ λh' kk=>#[rfl,I.CI (t':=s.toks) (λc q hc e=>kk c q (λz=>hc ?_) e) hf]
  .rcases hl with h|h
   .exact .inl #[3]
   .exact .inr #[3]
  .simp only[aaY,aa7,or_false]at z ⊢;rcases z with z|z|z|z
   .exact .inl z
   .exact .inr (.inr (.inl z))
   .exact .inr (.inr (.inr (.inl z)))
   .exact .inr (.inr (.inr (.inr z)))
 self:=λ_ _ _ _ _ Z h=>wpAny_pyIter_zip Z.zz h
def QH(K:aag)(ta:TA):TI:=λU H R=>ta U H λvs H1=>∃a b,∃f1 f2:Bool,vs=[.ref a,.ref b]/\(∃xs,HB f1 K H1 a xs)/\(∃ys,HB f2 K H1 b ys)/\R (N3 f1 f2 K a b) H1
variable{Dj p:Pos}{ta:TA}
def wo{x1:_}{a b:Expr}(hg:Gl X "zip")(hm:X.mg "zip" = none)(ha:PA X [a,b] ta)(hs:autoParam (aal [a,b] X.env=[(false,eval a X.env),(false,eval b X.env)]) At)(IB:autoParam (aal [b] X.env=[(false,eval b X.env)]) At):
  PI X (.Tuple elts x1 Dj) (.Call (.Name "zip" p) [a,b] [] pos) (QH X.K ta):=by
 refine λpins s U H R I h=>Call_ (cw I hg hm boot_zip (ab5 (Bt (ha pos pins s U H _ I h) λus s1 #[vs,H1,I1,r1,q1]=>?_) #[1] (by rw[IB];rfl)));obtain⟨c,d,f1,f2,e,⟨xs,hx⟩,⟨ys,hy⟩,q⟩:=q1;subst e;cases r1 with
 |cons ra rr=>
  cases rr with
  |cons rb rr=>
   cases rr;cases ra;cases rb;obtain⟨QB,R0,p1⟩:=eG I1 hx;obtain⟨QA,Ir,p2⟩:=eG I1 hy;have g1:DJ f1 s1.heap c QB.toArray:=p1;have g2:DJ f2 s1.heap d QA.toArray:=p2;have lc  := g1.lt;have ld  := g2.lt;refine x6 g1 g2 λh' Z sz kk=>?_;have I2  := I1.kept (t':=s1.toks) kk;refine wpAny_pyIter_zip Z.zz #[_,_,_,_,H1,rfl,I2,qR c d _ _ _ _ _ (U2 s1.heap.objs.size) (aap (aaP lc (ad6 _ _))) (aap (aaP ld (ad6 _ _))),Z,λb' hb=>?_,q];have HS:s1.heap.objs.size<=b':=by simp only[aaY,aa7,or_false]at hb;rcases hb with rfl|rfl|rfl|rfl|rfl;all_goals first|exact aai _|exact ad6 _ _
   exact I1.GH HS (I1.Bc.fresh HS)
end L2
namespace Q
open PySem L2
variable{K:aag}{F F':Hp}{a:Addr}{xs:Aag}
def bh{tp:Bool}(s:dO F F')(h:HB tp K F a xs):HB tp K F' a xs:=by
 cases tp
 .exact ba s (h)
 .exact ap s (h)
variable{ob:B3}{X:Cx}{a b:Expr}{fa:WA}{pos p:Pos}
variable{M:Md}{vs ws:Aag}{ys:Aab}
theorem xa{f1 f2:Bool}{a b:Addr}{xs:Aab}(h1:HB f1 M.K F a vs)(r1:nE M.K F vs xs)(h2:HB f2 M.K F b ws)(r2:nE M.K F ws ys):EF M (N3 f1 f2 M.K a b) F (Eh xs ys):=by
 refine#[λZ i U env F' H x s K e=>?_,λZ i U env F' H s K hl=>#[vs,ws,bh K.sF (bh s h1),bh K.sF (bh s h2),?_]]
 .unfold Eh at e;rw[aaj]at e;cases ez:(xs.zip ys)[i]? with
  |none=>rw[ez]at e;cases e
  |some q=>
   rw[ez]at e;rw[aaF]at ez;have e  := (aar e).symm;subst e;obtain⟨v1,q1,q2⟩:=r1.get ez.1;obtain⟨v2,q3,q4⟩:=r2.get ez.2;have g1:=bh K.sF (bh s h1);have g2:=bh K.sF (bh s h2);refine#[#[vs,ws,v1,v2,g1,g2,q1,q3],λv' H' y=>?_];obtain⟨p,w1,w2,rfl,hp,rfl,y⟩:=y;obtain⟨y1,y2⟩:=y vs ws g1 g2;rw[q1]at y1;cases y1;rw[q3]at y2;cases y2;have hF  := dO.none_of K.sF hp;refine#[_,ao hF,K.lay hp,.tup (.inl (.inl ah)) (.cons ((q2.mono s).mono (ao hF)) (.cons ((q4.mono s).mono (ao hF)) .nil)),ao hp,λc hc=>?_];by_cases z:c=p
   .subst z;exact .inr hp
   .rw[aj z]at hc;exact .inl hc
 .have:=r1.len;have:=r2.len;simp only[Eh,aad,acC]at hl;omega
noncomputable def Nj(a:WA):WA:=λenv P=>a env λxs e=>match xs with
 |[x,y]=>match IQ x,IQ y with
  |some (_,xs),some (_,ys)=>P (Eh xs ys) e
  |_,_=>False
 |_=>False
variable{v:V}{x:PV}
def oW{b:Bool}(h:IQ x=some (b,ys))(r:Rep K F v x):∃a vs,v=.ref a/\HB b K F a vs/\nE K F vs ys:=by
 cases r with
 |tup g1 g2=>cases h;exact#[_,_,rfl,g1,g2]
 |lst g1 g2=>cases h;exact#[_,_,rfl,.inl (.inl g1),g2]
 |_=>cases h
variable{elts:Aai}{Dj:Pos}
def xM{x1:_}(hg:Gl X "zip")(hm:X.mg "zip" = none)(ha:Gm ob X [a,b] fa)(hs:autoParam (aal [a,b] X.env=[(false,eval a X.env),(false,eval b X.env)]) At)(IB:autoParam (aal [b] X.env=[(false,eval b X.env)]) At):
  GW ob X (.Tuple elts x1 Dj) (.Call (.Name "zip" p) [a,b] [] pos) (Nj fa):=by
 obtain⟨t,ht,k⟩:=ha.ex;refine#[_,wo hg hm ht hs IB,λZ F U H env P R K hf kk=>k Z F U H env _ _ K hf λxs e1 vs F1 H1 p _ s1 K1 r1=>?_];split at p;case h_2=>exact p.elim
 cases r1 with
 |cons r1 r2=>
  cases r2 with
  |cons r2 r3=>
   cases r3;split at p;case h_2=>exact p.elim
   rename_i h1 h2;obtain⟨a1,vs1,rfl,g1,g2⟩:=oW h1 r1;obtain⟨a2,vs2,rfl,g3,g4⟩:=oW h2 r2;exact#[_,_,_,_,rfl,#[_,bh K1.sF g1],#[_,bh K1.sF g3],kk _ e1 _ F1 H1 p s1 K1 (xa g1 g2 g3 g4)]
end Q
namespace L2
open PySem PySem.Spec PyProof.Rows
def mC(elt tg iter De Bf:Expr)(scope:Scope)(pos:Pos)(it acc:Value)(env:Env):
  compTurn #[10] 0 it acc env=(aec iter.pos >>= λ_=>pyNext it >>= λr=>match r with
   |none=>pure (.done .next)
   |some v=>acW tg it v >>= λ_=>assign tg env v >>= λ_=>eval Bf env >>= λx=>aec Bf.pos >>= λ_=>aaB Bf env x >>= λx=>adp [x] (pyIter x) >>= λQz=>
    runOwn (.compStart #[10] 1 Qz acc env) env >>= λ_=>again (.compLoop #[10] 0 it acc env)):=by rfl
def mB(elt tg iter De Bf:Expr)(scope:Scope)(pos:Pos)(it acc:Value)(env:Env):
  compTurn #[10] 1 it acc env=(aec Bf.pos >>= λ_=>pyNext it >>= λr=>match r with
   |none=>pure (.done .next)
   |some v=>acW De it v >>= λ_=>assign De env v >>= λ_=>
    (eval elt env >>= λx=>call (.builtin "list.append") [acc,x] >>= λ_=>pure ()) >>= λ_=>again (.compLoop #[10] 1 it acc env)):=by rfl
variable{prog:aaC}{w:World}{A:Around}{R:Result->Shared->Prop}{s:Shared}{tg:Expr}{scope:Scope}{pos:Pos}{env:Env}
def dZ{elt iter De Bf:Expr}{it acc:Value}
  (h0:acK #[9] A (.compLoop #[10] 1 it acc env) R s)
  (h:wpAny #[9] A (pyIter it) (λR9 s'=>acK #[9] A (.compLoop #[10] 1 R9 acc env) R s')
   (notedBy #[9] A env λx s'=>R (.error x) s') s) :
  acK #[9] A (.compStart #[10] 1 it acc env) R s:=by
 refine aed (wpAny_notedAt ?_);refine aaa (acs (wpAny_ite ?_));split
 .first
   |exact aaa _
   |exact aae (And.intro rfl h0)
 .first
   |exact aaa _
   |(refine aaa (act ?_);exact aaa (aco (aaa (aa5 h (λR9 s' h'=>aae (And.intro rfl h')) λ_ _ x=>x))))
def Pr(wi:TI)(g:TG)(wi2:TI)(kk:Nat)(te:TE)(js:Aae):TE:=λU H Q=>wi U H λJ H1=>∀l,H1 l=none ->
 ∃W:Nat->Nat->List V->Hp->Prop,(∃m,W 0 m [] (upd H1 l (.lst [])))/\∀i m ys H2,W i m ys H2 ->
  (J.stop i H2/\Q (.ref l) H2)\/(J.go i H2/\∀x H3,J.yld i H2 x H3->g x (BR js U) H3 λsb H4=>sb[kk]?=some none/\wi2 sb H4 λJ2 H5=>
   ∃W2:Nat->Nat->List V->Hp->Prop,(∃m2,W2 0 m2 ys H5)/\∀i2 m2 zs H6,W2 i2 m2 zs H6 ->
    (J2.stop i2 H6/\∃m',m'<m/\W (i+1) m' zs H6)\/(J2.go i2 H6/\∀x2 H7,J2.yld i2 H6 x2 H7->By kk x2 sb H7 λsd H8=>te sd H8 (λy H9=>H9 l=some (.lst zs)/\zs.length<sizeLine/\∃LV,LV<m2/\W2 (i2+1) LV (zs++[y]) (upd H9 l (.lst (zs++[y]))))/\sd=sb.set kk (some x2)))
variable{X:Cx}{elt iter De Bf:Expr}{wi wi2:TI}{g:TG}{te:TE}{N:A3}{js:Aae}{kk:Nat}
variable{use:Option (Value->Sem Unit)}{pins:Aac}{U:St}{H:Hp}{Q:VK}{QQ E:Aaa}{pos':Pos}
def uH(hc:X.calm=true)(hx:X.xe=λ_ _=>False)(hi:PI X tg iter wi)
  (hg:∀C s0 H0 ex pn,PG #[5] tg g) (Nx:∀C s0 H0 ex pn,PI #[5] De Bf wi2) (Jd:∀C s0 H0 ex pn,PG #[5] De (By kk)) (IB:∀C s0 H0 ex pn x,aaB Bf (lT X scope N C s0 H0 ex pn).env x=pure x) (he:∀C s0 H0 ex pn,PE #[5] elt te) (Hi:C2 js g)
  (C3:Dm X.env scope=true) (Bq:Ce X.N scope N js=true) (Bg:scope.kind=.function) (hs:∀x,aaB iter X.env x=pure x)
  (I:Inv X pins U H s) (h:Pr wi g wi2 kk te js U H Q)
  (fin:∀(l C:Addr) (H':Hp) (s':Shared),Inv X pins U H' s'->Q (.ref l) H'->H' C=none->C≠X.env.locals->X.s0.heap.objs.size<=C->(∀x c,X.env.cells.lookup x=some c->c≠C)->(∀p∈X.pn++pins,p.1≠C)->(∃m,s'.heap.Ns C m)->afh #[6] X.A E use QQ (.ref l) C (.ok .next) s') :
  wpAny #[6] X.A (aeF #[10] scope X.env pos' (newList []) false (eval iter X.env) use) QQ E s:=by
 refine jd (γ:=List V) (z0:=[]) (u0:=.lst []) (em:=λacc env=>eval Bf env >>= λx=>aec Bf.pos >>= λ_=>aaB Bf env x >>= λx=>adp [x] (pyIter x) >>= λQz=>runOwn (.compStart #[10] 1 Qz (.ref acc) env) env >>= λ_=>pure ())
  (ev:=λl ys sb H4 k=>sb[kk]?=some none/\wi2 sb H4 λJ2 H5=>∃W2:Nat->Nat->List V->Hp->Prop,(∃m2,W2 0 m2 ys H5)/\∀i2 m2 zs H6,W2 i2 m2 zs H6 ->
    (J2.stop i2 H6/\k zs H6)\/(J2.go i2 H6/\∀x2 H7,J2.yld i2 H6 x2 H7->By kk x2 sb H7 λsd H8=>te sd H8 (λy H9=>H9 l=some (.lst zs)/\zs.length<sizeLine/\∃LV,LV<m2/\W2 (i2+1) LV (zs++[y]) (upd H9 l (.lst (zs++[y]))))/\sd=sb.set kk (some x2))) rfl
  (λq=>aaZ q) (λ_ _ _ _ _=>#[by show 0<=_;exact abg _,[],_,.nil,aaf _ rfl]) (λ_ _ _ _ _=>rfl) (λ_ _ _ _=>rfl) (λ_ _ _=>by rw[mC];simp only[bind_assoc,pure_bind]<;>rfl) codeAny_compStart_list hc hx hi hg (λC s0 H0 ex pn pins s8 sd H8 l ys k I8 q8=>?_) Hi C3 Bq Bg hs I h fin
 generalize hY:lT X scope N C s0 H0 ex pn=Y at I8;have eC:Y.calm=true:=by subst hY;exact hc
 obtain⟨q0,q8⟩:=q8;have Uv:PI Y De Bf wi2:=by subst hY;exact Nx _ _ _ _ _
 have Ux:PG Y De (By kk):=by subst hY;exact Jd _ _ _ _ _
 have T5:∀x,aaB Bf Y.env x=pure x:=by subst hY;exact IB _ _ _ _ _
 have UA:PE Y elt te:=by subst hY;exact he _ _ _ _ _
 refine aaa (Bt (Uv _ s8 sd H8 _ I8 q8) λv s9 h9=>?_);refine aaa (aco (aaa ?_));rw[T5];refine aae (aaa (aaX (Bt h9 λR8 Og UU=>?_)));obtain⟨Qz,U1,Xn,J2,N7,rfl,N6,T2,PL,W1,W2,⟨m2,w2⟩,Pf⟩:=UU;refine aaa (wpAny_runOwn ?_);have LW:∀R:Result->Shared->Prop,(∀zs H' s',Inv Y pins sd H' s'->k zs H'->R (.ok .next) s')->acK (model Y.prog Y.w) Y.A (.compLoop #[10] 1 (.ref Qz) (.ref l) Y.env) R Og:=by
  intro R hR;have Jm:∀(x:Value) (s:Shared) (P:Prop),Y.xe x s->P:=λx s P z=>by subst hY;exact z.elim
  refine codeAny_loop rfl (λn2 s'=>∃i2 zs H',Inv Y pins sd H' s'/\Xn i2 s'.heap/\(∀b∈U1,H' b=none)/\W2 i2 n2 zs H') (λn2 s' hI=>?_) m2 #[0,ys,_,N6,PL,λb hb=>(W1 b hb).1,w2];obtain⟨i2,zs,OK,N5,PK,Rn,SH⟩:=hI;have NL:∀{H':Hp},(∀b∈U1,H' b=none)->∀b∈U1,DL Y pins H' b:=λhn b hb=>#[hn b hb,(W1 b hb).2]
  refine wpAny_noted ?_;rw[mB];refine aaa (aco (aaa ?_));rcases Pf i2 n2 zs OK SH with ⟨stop,w9⟩|⟨go,PJ⟩
  .refine aa5 (T2.done Y rfl rfl rfl eC i2 _ s' _ OK Y.xe N5 (NL Rn) PK stop) (λr Of #[hr,I12]=>?_) λx s z=>Jm x s _ z;subst hr;exact aae (hR zs OK Of I12 w9)
  .refine aa5 (T2.item Y rfl rfl rfl eC i2 _ s' _ OK Y.xe N5 (NL Rn) PK go) (λr Of UT=>?_) λx s z=>Jm x s _ z;obtain⟨u,hr,UT⟩:=UT;subst hr;dsimp only;refine aaa (aa5 UT (λ_ Xx Zi=>?_) λx s z=>Jm x s _ z);obtain⟨x2,Xb,I13,XC,Xd,MI,UY⟩:=Zi;have Vs:=I13.pinned (NL UY) (T2.obj _ _ MI);refine aaa (aa5 (Ux _ Xx sd Xb x2 u _ Vs XC (PJ x2 Xb Xd)) (λ_ Xw Zh=>?_) λx s z=>Jm x s _ z);obtain⟨s14,H14,I14,XE,rfl⟩:=Zh;refine aaa (aaa (aa5 (UA _ Xw _ H14 _ I14 XE) (λy Xv Rj=>?_) λx s z=>Jm x s _ z));obtain⟨yv,Xa,I15,XB,Zy,z15,m3,Yv,Xg⟩:=Rj;refine aaa (aa5 (dF (X:=Y) _ Xv _ Xa (.ref l) [yv] (.ref l) [y] (λ_ H'=>H'=upd Xa l (.lst (zs++[yv]))) I15 rfl (.cons XB .nil) #[_,zs,yv,rfl,rfl,Zy,z15,rfl]) (λ_ s16 Zg=>?_) λx s z=>Jm x s _ z);obtain⟨_,H16,Vr,_,Zx⟩:=Zg;subst Zx;refine aae (aae #[rfl,m3,Yv,i2+1,zs++[yv],_,(Vr.Di).weak (by rw[List.length_set]) λk' v' e=>?_,T2.keep _ _ _ MI λb hb o e=>(Vr.pin (b,o) (aaH _ (aaH _ (bC hb e)))).1,λb hb=>?_,Xg])
   .by_cases z:k'=kk
    .rw[z,q0]at e;cases e
    .rw[aaD (abz z)];exact e
   .obtain⟨o,e,d⟩:=T2.obj _ _ MI b hb;exact(Vr.pin (b,o) (aaH _ (aaH _ (bC hb e)))).2.1
 have Ro:=λ(zs:Aag) (H':Hp) (s':Shared) (I':Inv Y pins sd H' s') (w:k zs H')=>(#[zs,H',I',w]:∃zs H',Inv Y pins sd H' s'/\k zs H')
 exact dZ (LW _ λzs H' s' I' w=>aae (Ro zs H' s' I' w)) (T2.self Y.A 0 _ _ _ PL (LW _ λzs H' s' I' w=>aae (Ro zs H' s' I' w)))
def yy(hi:PI X tg iter wi)(hg:∀C s0 H0 ex pn,PG #[5] tg g)(Nx:∀C s0 H0 ex pn,PI #[5] De Bf wi2)(Jd:∀C s0 H0 ex pn,PG #[5] De (By kk))(IB:∀C s0 H0 ex pn x,aaB Bf (lT X scope N C s0 H0 ex pn).env x=pure x)(he:∀C s0 H0 ex pn,PE #[5] elt te)(Hi:C2 js g)
  (hc:autoParam (X.calm=true) At) (hx:autoParam (X.xe=(λ_ _=>False)) At) (C3:autoParam (Dm X.env scope=true) At) (Bq:autoParam (Ce X.N scope N js=true) At) (Bg:autoParam (scope.kind=.function) At) (hs:autoParam (∀x,aaB iter X.env x=pure x) AT) :
  PE X #[10] (Pr wi g wi2 kk te js):=by
 intro pins s U H Q I h;refine uH hc hx hi hg Nx Jd IB he Hi C3 Bq Bg hs I h λl C H' s' I' q f0 f1 f2 f3 f4 #[m,hm]=>#[m,hm,λh' sb=>#[.ref l,H',?_,rfl,q]]
 exact I'.turned (λb o hb e=>sb.extBut b o hb e) f0 f1 (.inr f2) f3 f4
end L2
namespace Q
open PySem L2 PyProof.Rows
def S7(M:Md)(fi:WA):TI:=λU H R=>∃(Z:Zn) (F:Hp) (env:En) (P:Aab->En->Prop),rW M Z F U H env/\fi env P/\∀xs bY J F' H',P xs bY->dO F F'->rW M Z F' U H' bY->EF M J F' xs->R J H'
variable{ob:B3}{X:Cx}
def GW.pi{tg iter:Expr}{fi:WA}(h:GW ob X tg iter fi):PI X tg iter (S7 #[14] fi):=by obtain⟨wi,IW,k⟩:=h.ex;rintro pins s U H R I ⟨Z,F,env,P,K,hf,kk⟩;exact IW pins s U H R I (k Z F U H env P R K hf kk)
def KR(k:Nat)(f:WE)(K:Aab->En->Prop):Aab->En->List PV->Prop
 |[],b,acc=>K acc b
 |y::ys,b,acc=>f (b.set k (some #[0,y])) λz b2=>acc.length<=100000/\KR k f K ys (b2.set k none) (acc++[z])
def He(g:WG)(HX:WA)(k:Nat)(f:WE)(js:Aae)(P:Aal):Aab->En->List PV->Prop
 |[],env,acc=>P (.lst acc) env
 |x::xs,env,acc=>g x (Eb js env) λb1=>HX b1 λys b2=>KR k f (λJi b3=>He g HX k f js P xs (BV js env b3) Ji) ys b2 acc
def NR(fi:WA)(T:IJ)(HX:WA)(k:Nat)(f:WE)(js:Aae):WE:=λenv P=>fi env λxs e=>He (G3 T) HX k f js P xs e []
variable{M:Md}{Z:Zn}{F H:Hp}{U:L2.St}{env:En}
variable{O:Type}{k:Nat}
def tV{l:List (Option O)}(h:l[k]?=some none):l.set k none=l:=by
 apply abR;intro i;by_cases e:i=k
 .subst e;have  := (List.getElem?_eq_some_iff.mp h).1;rw[h,abq,if_pos rfl,if_pos this]
 .rw[aaD (abz e)]
def rW.forget(K:rW M Z F U H env)(k:Nat):rW M Z F (U.set k none) H (env.set k none):=by
 obtain⟨fp,L⟩:=K.sl;have get:∀{j:Nat} {s:Sl},(env.set k none)[j]?=some (some s)->j≠k/\env[j]?=some (some s):=λ{j s} e=>by
  by_cases z:j=k
  .subst z;rw[abq]at e;simp only[if_true]at e;split at e<;>cases e
  .rw[aaD (abz z)]at e;exact#[z,e]
 refine#[K.sF,K.sG,K.pr,K.gr,K.nw,by simp[K.len],λj=>if j=k then []else fp j,λj s e=>?_,λj a h=>?_,λi j a EI h z=>?_,λj a s e1 e2 e3=>?_]
 .obtain⟨z,e⟩:=get e;obtain⟨v,h1,h2⟩:=L.at' j s e;exact#[v,by rw[aaD (abz z)];exact h1,by rw[if_neg z];exact h2]
 .split at h
  .simp at h
  .exact L.al j a h
 .split at h
  .simp at h
  .split at z
   .simp at z
   .exact L.dj i j a EI h z
 .obtain⟨z,e⟩:=get e2;rw[aaD (abz z)];exact L.oa j a s e1 e e3
def Ao:∀{Z Z':Zn},Z.H0=Z'.H0->Z.F0=Z'.F0->Z.S=Z'.S->Z.oa=Z'.oa->Z=Z'
 |#[_,_,_,_,_],#[_,_,_,_,_],rfl,rfl,rfl,rfl=>rfl
variable{l:Addr}
def mP(Z:Zn){o2:HO}:∀b∈Z.S,(upd Z.H0 l o2) b≠none:=λb hb=>by
 by_cases z:b=l
 .subst z;rw[ah];simp
 .rw[aj z];exact Z.sS b hb
def rW.MB{o1 o2:HO}(K:rW M Z F U H env)(h0:Z.H0 l=some o1)(hS:l∉Z.S)(hF:F l=none):rW M {Z with H0:=upd Z.H0 l o2,sS:=mP Z} F U (upd H l o2) env:=by
 obtain⟨fp,L⟩:=K.sl;have ln:∀{i:Nat} {s:Sl} {v:V},EW M Z F H v s (fp i)->l∉fp i:=λ{i s v} h z=>by
  rcases h with ⟨_,e,_⟩|⟨_,a,_,e,h1,_⟩|⟨_,a,_,h1,_⟩|⟨_,a,_,e,h1,_⟩
  .rw[e]at z;simp at z
  .rw[e]at z;rw[<- List.mem_singleton.mp z,h0]at h1;cases h1
  .rcases h1 l z with q|q
   .exact hS q
   .rw[h0]at q;cases q
  .exact hS #[1]
 refine#[λb o e=>?_,λb o e hb=>?_,λb e=>?_,K.gr,λa e=>?_,K.len,λi=>(fp i).filter λa=>decide (a≠l),λi s e=>?_,λi a h=>?_,λi j a EI h z=>?_,L.oa]
 .rw[aj (av e hF)];exact K.sF b o e
 .by_cases z:b=l
  .subst z;have e:upd Z.H0 b o2 b=some o:=e;rw[ah]at e ⊢;exact e
  .have e:upd Z.H0 l o2 b=some o:=e;rw[aj z]at e ⊢;exact K.sG b o e hb
 .by_cases z:b=l
  .subst z;rw[ah];simp
  .have e:upd Z.H0 l o2 b≠none:=e;rw[aj z]at e ⊢;exact K.pr b e
 .rcases K.nw a e with q|q
  .exact .inl q
  .exact .inr (by show upd Z.H0 l o2 a=none;rw[aj λz=>#[1]];exact q)
 .obtain⟨v,h1,h2⟩:=L.at' i s e;have nl:=ln h2;have ef:(fp i).filter (λa=>decide (a≠l))=fp i:=List.filter_eq_self.mpr λa ha=>decide_eq_true λz=>nl (z ▸ ha);refine#[v,h1,?_];rw[ef];have h3:=h2.mono (H':=upd H l o2) ai λc hc=>aj λz=>nl (z ▸ hc);rcases h3 with h3|⟨a1,a,a2,a3,a4,a5⟩|⟨a1,a,a2,a3,a4⟩|h3
  .exact .inl h3
  .refine .inr (.inl #[a1,a,a2,a3,?_,a5]);show upd Z.H0 l o2 a=none;rw[aj λz=>#[1]];exact a4
  .refine .inr (.inr (.inl #[a1,a,a2,λc hc=>?_,a4]));rcases a3 c hc with q|q
   .exact .inl q
   .exact .inr (by show upd Z.H0 l o2 c=none;rw[aj λz=>#[1]];exact q)
  .exact .inr (.inr (.inr h3))
 .obtain⟨m,d⟩:=List.mem_filter.mp h;have:=L.al i a m;exact#[by rw[aj (of_decide_eq_true d)];exact this.1,this.2]
 .exact L.dj i j a EI (List.mem_filter.mp h).1 (List.mem_filter.mp z).1
variable{tg elt iter De Bf:Expr}{scope:Scope}{pos:Pos}{fi HX:WA}{T:IJ}{f:WE}{N:A3}{js:Aae}{kk:Nat}
variable{P:Aal}{xs:Aab}{J:It}
theorem uG{Q:VK}(hj:FL js=true)(hT:CC (js.set kk (some 0)) T=true)(hk:js[kk]?=some none)(K:rW #[14] Z F U H env)(I1:EF #[14] J F xs)(hf:He (G3 T) HX kk f js P xs env [])
  (kq:∀x bY v F' H',P x bY->dO F F'->(∀xs,x≠.set xs)->rW #[14] Z F' (U++[some v]) H' (bY++[some #[1,x]])->Q v H') (l:Addr) (hl:H l=none) :
  ∃W:Nat->Nat->List V->Hp->Prop,(∃m,W 0 m [] (upd H l (.lst [])))/\∀i m ys H2,W i m ys H2 ->
  (J.stop i H2/\Q (.ref l) H2)\/(J.go i H2/\∀x H3,J.yld i H2 x H3->G4 X.K T x (BR js U) H3 λsb H4=>sb[kk]?=some none/\S7 #[14] HX sb H4 λJ2 H5=>
   ∃W2:Nat->Nat->List V->Hp->Prop,(∃m2,W2 0 m2 ys H5)/\∀i2 m2 zs H6,W2 i2 m2 zs H6 ->
    (J2.stop i2 H6/\∃m',m'<m/\W (i+1) m' zs H6)\/(J2.go i2 H6/\∀x2 H7,J2.yld i2 H6 x2 H7->By kk x2 sb H7 λsd H8=>Kr #[14] f sd H8 (λy H9=>H9 l=some (.lst zs)/\zs.length<sizeLine/\∃LV,LV<m2/\W2 (i2+1) LV (zs++[y]) (upd H9 l (.lst (zs++[y]))))/\sd=sb.set kk (some x2))):=by
 refine#[λi m ys H'=>m=xs.length - i/\H' l=some (.lst ys)/\∃F' bY FC fp,dO F F'/\rW #[14] Z F' U H' bY/\Slots #[14] Z F' U H' bY fp/\F' l=none/\(∀i,l∉fp i)/\nE X.K F' ys FC/\He (G3 T) HX kk f js P (xs.drop i) bY FC,?_,?_]
 .obtain⟨fp,L⟩:=K.sl;have hF:F l=none:=dO.none_of K.sF hl;have hn:∀i,l∉fp i:=λi h=>(L.al i l h).1 hl;obtain⟨K1,L1⟩:=K.Dk (o:=.lst []) L hF (K.h0 hl) hn;exact#[_,rfl,ah,F,env,[],fp,ai,K1,L1,hF,hn,.nil,hf]
 rintro i m ys H2 ⟨rfl,Gf,F',bY,FC,fp,s,K',L',Ky,hn,ry,hg⟩;have h0:Z.H0 l=none:=K.h0 hl;by_cases BU:i<xs.length
 .rw[abU BU]at hg;obtain⟨h1,h2⟩:=I1.go Z i U bY F' H2 xs[i] s K' (by simp[BU]);refine .inr #[h1,λv H3 y=>?_];obtain⟨F2,s2,K2,r2,sH,nw⟩:=h2 v H3 y;have Ms:Slots #[14] Z F2 U H3 bY fp:=L'.move s2 (λ_ c o _ e=>sH c o e) nw;have OB:F2 l=none:=by
   cases e:F2 l with
   |none=>rfl
   |some o=>
    rcases nw l (by rw[e];simp)with q|q
    .exact absurd Ky q
    .rw[Gf]at q;cases q
  have Jb:H3 l=some (.lst ys):=sH _ _ Gf;have Kb:=jf hj K2 Ms;have Oc:=bO (K:=X.K) (js:=js.set kk (some 0)) hT v (BR js U) H3 _ (mQ (M:=md ob X) (Q:=λsb H4=>H4=H3/\∃b1,rW #[14] (Zb js bY fp F2 H3) F2 sb H3 b1/\HX b1 _) Kb r2 hg λe4 sb p4 K4=>#[rfl,e4,K4,p4]);have mono:∀(Q1 Q2:L2.St->Hp->Prop),(∀a b,Q1 a b->Q2 a b)->G4 X.K T v (BR js U) H3 Q1->G4 X.K T v (BR js U) H3 Q2:=by
   have Hd:∀(l:Aan),∀x U H (Q Q':L2.St->Hp->Prop),(∀a b,Q a b->Q' a b)->EK l x U H Q->EK l x U H Q':=by
    intro l;induction l with
    |nil=>exact λx U H Q Q' h q=>#[q.1,h _ _ q.2]
    |cons i l ih=>exact hU eU ih
   intro Q1 Q2 hq q;cases T with
   |nm i=>exact hq _ _ q
   |tp l=>obtain⟨a,xs,e1,e2,e3,e4⟩:=q;exact#[a,xs,e1,e2,e3,Hd l _ _ _ _ _ hq e4]
  refine mono _ _ ?_ Oc;rintro sb H4 ⟨⟨rfl,b1,K4,p4⟩,hlen,Mc⟩;have Wx:kk<js.length:=by
   rcases aaS kk js.length with z|z
   .exact z
   .rw[aam z]at hk;cases hk
  have Bq:∀(k j:Nat),js[k]?=some (some j)->sb[k]?=(BR js U)[k]?:=λk j ej=>by
   have ne:k≠kk:=λz=>by rw[z,hk]at ej;cases ej
   exact Mc k j (by rw[aaD (abz ne)];exact ej)
  have hsk:sb[kk]?=some none:=by rw[Mc kk 0 (by rw[abq];simp[Wx])];unfold BR;rw[aaj,hk];rfl
  refine#[hsk,_,F2,b1,_,K4,p4,λOb b2 J2 F5 H5 p5 s5 K5 I5=>?_];have Wo:(Zb js bY fp F2 H4).H0 l=some (.lst ys):=Jb;have Wt:l∉Dz js bY fp H4:=λz=>by obtain⟨_,j,_,_,_,hm⟩:=b5 z;exact hn j hm
  have eZ:∀o,Dz js bY fp (upd H4 l o)=Dz js bY fp H4:=λo=>by
   unfold Dz;refine acl λb _=>?_;by_cases z:b=l
   .subst z;rw[ah,Jb];rfl
   .rw[aj z]
  have e4:upd H4 l (.lst ys)=H4:=by
   funext a;by_cases z:a=l
   .subst z;rw[ah,Jb]
   .rw[aj z]
  have Rc:∀{F6:Hp} {H6:Hp} {sw:L2.St} {b3:En} {o:HO},rW #[14] (Zb js bY fp F2 (upd H4 l o)) F6 sw H6 b3->F6 l=none/\H6 l=some o:=λ{F6 H6 sw b3 o} K6=>by
   refine#[?_,K6.sG l _ ah (by show l∉Dz js bY fp (upd H4 l o);rw[eZ];exact Wt)];cases e:F6 l with
   |none=>rfl
   |some o'=>
    rcases K6.nw l (by rw[e];simp)with q|q
    .exact absurd OB q
    .exact absurd q (by show upd H4 l o l≠none;rw[ah];simp)
  refine#[λi2 m2 zs H'=>m2=Ob.length - i2/\∃F' b' O9,dO F5 F'/\rW #[14] (Zb js bY fp F2 (upd H4 l (.lst zs))) F' sb H' b'/\nE X.K F' zs O9/\KR kk f _ (Ob.drop i2) b' O9,#[_,rfl,F5,b2,FC,ai,by rw[e4];exact K5,(ry.mono s2).mono s5,p5],?_];rintro i2 m2 zs H6 ⟨rfl,F6,b6,O9,s6,K6,r6,p6⟩;obtain⟨NH,Li⟩:=Rc K6;by_cases Nv:i2<Ob.length
  .rw[abU Nv]at p6;obtain⟨g1,g2⟩:=I5.go _ i2 sb b6 F6 H6 Ob[i2] s6 K6 (by simp[Nv]);refine .inr #[g1,λv7 H7 y7=>?_];obtain⟨F7,s7,K7,r7,_,_⟩:=g2 v7 H7 y7;refine#[#[_,F7,b6.set kk (some #[0,Ob[i2]]),_,K7.put r7,p6,λy b8 v8 F8 H8 p8 s8 K8 r8=>?_],rfl];obtain⟨Y9,Yy⟩:=Rc K8;refine#[Yy,?_,_,#[],rfl,F8,b8.set kk none,O9++[y],af s6 (af s7 s8),?_,((r6.mono s7).mono s8).app (.cons r8 .nil),p8.2]
   .have:=p8.1;rw[r6.len,aaJ];omega
   .have K9:=K8.forget kk;rw[List.set_set,tV hsk]at K9;have K10:=K9.MB (l:=l) (o2:=.lst (zs++[v8])) (o1:=.lst zs) (by show upd H4 l (.lst zs) l=_;rw[ah]) (by show l∉Dz js bY fp (upd H4 l (.lst zs));rw[eZ];exact Wt) Y9;have eq:({Zb js bY fp F2 (upd H4 l (.lst zs))with H0:=upd (upd H4 l (.lst zs)) l (.lst (zs++[v8])),sS:=mP (Zb js bY fp F2 (upd H4 l (.lst zs)))}:Zn)=Zb js bY fp F2 (upd H4 l (.lst (zs++[v8]))):=by
     have:upd (upd H4 l (.lst zs)) l (.lst (zs++[v8]))=upd H4 l (.lst (zs++[v8])):=by
      funext a;by_cases z:a=l
      .subst z;rw[ah,ah]
      .rw[aj z,aj z,aj z]
     exact Ao this rfl ((eZ _).trans (eZ _).symm) rfl
    rw[<- eq];exact K10
  .have en:Ob.drop i2=[]:=acx #[];rw[en]at p6;refine .inl #[I5.stop _ i2 sb b6 F6 H6 s6 K6 #[],_,#[],rfl,Li,?_];obtain⟨K2',Vm⟩:=K2.Dk (o:=.lst zs) Ms OB h0 hn;obtain⟨HW,L6,RM,Du⟩:=gP hj K2' Vm K6 Bq;have Lg:∀i,l∉HW i:=λi h=>by
    rcases Du i l h with ⟨i',q⟩|q
    .exact hn i' q
    .rw[ah]at q;cases q
   exact#[F6,_,O9,HW,af s (af s2 (af s5 s6)),RM,L6,NH,Lg,r6,p6]
 .rw[acx #[]]at hg;refine .inl #[I1.stop Z i U bY F' H2 s K' #[],kq _ bY _ F' H2 hg s (λ_=>#[0]) ?_];refine K'.slots (by simp[K'.len]) (L'.push (l:=[l]) #[0] K'.len (.inr (.inl #[rfl,l,rfl,rfl,h0,ys,Gf,ry])) (λa ha=>?_) λj a ha=>?_)
  .simp at ha;subst ha;exact#[by rw[Gf];simp,Ky]
  .simp at ha;subst ha;exact hn j
def zM(hi:GW ob X tg iter fi)(hg:∀C s0 H0 ex pn,PG #[5] tg (G4 X.K T))(Nx:∀C s0 H0 ex pn,GW ob #[5] De Bf HX)(Jd:∀C s0 H0 ex pn,PG #[5] De (By kk))(he:∀C s0 H0 ex pn,Bk ob #[5] elt f)
  (hj:autoParam (FL js=true) At) (hT:autoParam (CC (js.set kk (some 0)) T=true) At) (Y2:autoParam (CC js T=true) At) (hk:autoParam (js[kk]?=some none) At) (IB:autoParam (∀C s0 H0 ex pn x,aaB Bf (lT X scope N C s0 H0 ex pn).env x=pure x) Cl)
  (hc:autoParam (X.calm=true) At) (hx:autoParam (X.xe=(λ_ _=>False)) At) (C3:autoParam (Dm X.env scope=true) At) (Bq:autoParam (Ce X.N scope N js=true) At) (Bg:autoParam (scope.kind=.function) At) (hs:autoParam (∀x,aaB iter X.env x=pure x) AT) :
  EY ob X #[10] (NR fi T HX kk f js):=by
 obtain⟨wi,IW,k⟩:=hi.ex;refine#[_,yy (wi2:=S7 #[14] HX) (te:=Kr #[14] f) IW hg (λC s0 H0 ex pn=>(Nx C s0 H0 ex pn).pi) Jd IB (λC s0 H0 ex pn=>(he C s0 H0 ex pn).pe) (bO Y2) hc hx C3 Bq Bg hs,λZ F U H env P Q K hf XZ=>?_];exact k Z F U H env _ _ K hf λxs e1 J F1 H1 p s1 K1 I1 l hl=>uG hj hT hk K1 I1 p (λx e2 v F2 H2 p2 s2 HP K2=>XZ x e2 v F2 H2 p2 (af s1 s2) HP K2) l hl
end Q
namespace L2
open PySem PySem.Spec PyProof.Rows
variable{X:Cx}{pos:Pos}
end L2
namespace Q
open PySem L2
variable{ob:B3}{X:Cx}{a b c:Expr}{fa:WA}{pos:Pos}
end Q
namespace L2
open PySem PySem.Spec PyProof.Rows
variable{X:Cx}{pins:Aac}{U:St}{H:Hp}{s:Shared}
variable{tg elt iter:Expr}{ifs:Aai}{scope:Scope}{pos:Pos}{wi:TI}{g:TG}{tc:TT}{te:TE}{N:A3}{js:Aae}{cx:Str}
end L2
namespace Q
open PySem L2
variable{ob:B3}{X:Cx}{tg elt iter kx vx:Expr}{ifs:Aai}{scope:Scope}{pos:Pos}{fi:WA}{T:IJ}{c:WT}{f fk:WE}{N:A3}{js:Aae}
end Q
namespace L2
open PySem PySem.Spec PyProof.Rows PySem.W
variable{prog:aaC}{w:World}{A:Around}{R:Result->Shared->Prop}
variable{X:Cx}{p p4 EO pos:Pos}{e:Expr}{te:TE}{n:Int}{kd:Nat}
end L2
namespace Q
open PySem L2 PyProof.Rows PySem.W
variable{X:Cx}{p p4 EO pos:Pos}{e:Expr}{f:WE}{n:Int}{ob:B3}{kd:Nat}
end Q
namespace L2
open PySem PySem.Spec PyProof.Rows
variable{X:Cx}
end L2
namespace Q
open PySem L2 PyProof.Rows
variable{ob:B3}{X:Cx}{a b c e:Expr}{es:Aai}{f g h:WE}{fa:WA}{pos p:Pos}{x:Str}
end Q
namespace L2
open PySem PySem.Spec PyProof.Rows
variable{X:Cx}{tg:Expr}
end L2
namespace Q
open PySem L2 PyProof.Rows
variable{ob:B3}{X:Cx}{tg elt iter kx vx:Expr}{ifs:Aai}{scope:Scope}{pos:Pos}{fi:WA}{T:IJ}{c:WT}{f fk:WE}{N:A3}{js:Aae}
open PySem L2 PyProof.Rows PySem.W
open PySem L2 PyProof.Rows
noncomputable def Oj(x y:PV):Aat:=(Br 60 x y).map λb=>.bl (!b)
def P2(K:aag):R2:=λv u H Q=>∃F x y k,dO F H/\Rep K F v x/\Rep K F u y/\Br 60 x y=some k/\Q (.bl (!k)) H
variable{ob:B3}{X:Cx}{pins:Aac}{U:L2.St}{F H:Hp}{s:Shared}
variable{A:Around}{vs ws:Aag}{xs ys:Aab}
theorem LY(I:Inv X pins U H s)(sF:dO F H)(hu:A.units+60<cLine){eQ BO:Aad}{bs:List Bool}(r1:nE X.K F vs xs)(r2:nE X.K F ws ys)(rv:oF vs eQ)(DG:oF ws BO)
  (hb:(xs.zip ys).mapM (λp:PV×PV=>Br 59 p.1 p.2)=some bs) (j:Nat) (j1:j<eQ.toArray.size) (j2:j<BO.toArray.size):adO A.in1 s eQ.toArray[j] BO.toArray[j] (bs.getD j false):=by
 have Js:=(aH hb).2;have l1:eQ.length=xs.length:=by rw[<- rv.length,r1.len]
 have l2:BO.length=ys.length:=by rw[<- DG.length,r2.len]
 simp only[aak]at j1 j2;have jx:j<xs.length:=by omega
 have jy:j<ys.length:=by omega
 obtain⟨b,e1,e2⟩:=Js j (xs[j],ys[j]) (by rw[aaF];exact#[by simp[jx],by simp[jy]]);obtain⟨v1,q1,q2⟩:=r1.get (aab jx);obtain⟨v2,q3,q4⟩:=r2.get (aab jy);obtain⟨u1,q5,q6⟩:=rv.get q1;obtain⟨u2,q7,q8⟩:=DG.get q3;have g1:eQ.toArray[j]=u1:=by simpa[aab j1]using q5
 have g2:BO.toArray[j]=u2:=by simpa[aab j2]using q7
 rw[g1,g2,show bs.getD j false=b by simp[adu,e1]];exact(Lm I sF (A:=A.in1) (d:=59) (by show A.units+1+59<cLine;omega) q2 q4 q6 q8 e2).2
variable{v:V}{x y:PV}
theorem Tr(I:Inv X pins U H s)(sF:dO F H){u:V}{a b:Value}{k:Bool}(hu:A.units+60<cLine)(rx:Rep X.K F v x)(ry:Rep X.K F u y)(ra:RelV v a)(rb:RelV u b)(h:Br 60 x y=some k):SeqAt.RcNeAt A s a b (!k):=by
 have B6:A.units<cLine:=by omega
 have tp:∀{p:Addr} {vs:Aag},Cf X.K F p vs->∃eQ:Aad,oF vs eQ/\s.heap.IsTuple p eQ.toArray:=λh1=>by obtain⟨eQ,rv,p,_⟩:=I.tuple (ap sF h1);exact#[eQ,rv,p]
 have ls:∀{p:Addr} {vs:Aag},F p=some (.lst vs)->∃eQ:Aad,oF vs eQ/\s.heap.IsList p eQ.toArray:=λh1=>by obtain⟨eQ,rv,p,_⟩:=I.list (.inl (.inl (sF _ _ h1)));exact#[eQ,rv,p.isList]
 cases rx with
 |AZ=>
  cases ra;cases ry with
  |AZ=>cases rb;cases h;exact SeqAt.RcNeAt.none_none
  |bl b=>cases rb;cases h;exact SeqAt.RcNeAt.none_bool b
  |int b=>obtain⟨t,rfl⟩:=rb;cases h;exact SeqAt.RcNeAt.none_int b t
  |str b=>obtain⟨t,rfl⟩:=rb;cases h;exact SeqAt.RcNeAt.none_str b t
  |tup h1 r1=>cases rb;cases h;obtain⟨_,_,p⟩:=tp h1;exact SeqAt.RcNeAt.none_tuple p B6
  |lst h1 r1=>cases rb;cases h;obtain⟨_,_,p⟩:=ls h1;exact SeqAt.RcNeAt.none_list p B6
  |Bp=>cases h
  |Cq=>cases h
 |bl a=>
  cases ra;cases ry with
  |AZ=>cases rb;cases h;exact SeqAt.RcNeAt.bool_none a
  |bl b=>cases rb;cases h;exact SeqAt.RcNeAt.bool_bool a b
  |int b=>obtain⟨t,rfl⟩:=rb;cases h;exact SeqAt.RcNeAt.bool_int a b t
  |str b=>obtain⟨t,rfl⟩:=rb;cases h;exact SeqAt.RcNeAt.bool_str a b t
  |tup h1 r1=>cases rb;cases h;obtain⟨_,_,p⟩:=tp h1;exact SeqAt.RcNeAt.bool_tuple a p B6
  |lst h1 r1=>cases rb;cases h;obtain⟨_,_,p⟩:=ls h1;exact SeqAt.RcNeAt.bool_list a p B6
  |Bp=>cases h
  |Cq=>cases h
 |int a=>
  obtain⟨t',rfl⟩:=ra;cases ry with
  |AZ=>cases rb;cases h;exact SeqAt.RcNeAt.int_none a t'
  |bl b=>cases rb;cases h;exact SeqAt.RcNeAt.int_bool a t' b
  |int b=>obtain⟨t,rfl⟩:=rb;cases h;exact SeqAt.RcNeAt.int_int a t' b t
  |str b=>obtain⟨t,rfl⟩:=rb;cases h;exact SeqAt.RcNeAt.int_str a t' b t
  |tup h1 r1=>cases rb;cases h;obtain⟨_,_,p⟩:=tp h1;exact SeqAt.RcNeAt.int_tuple a t' p B6
  |lst h1 r1=>cases rb;cases h;obtain⟨_,_,p⟩:=ls h1;exact SeqAt.RcNeAt.int_list a t' p B6
  |Bp=>cases h
  |Cq=>cases h
 |str a=>
  obtain⟨t',rfl⟩:=ra;cases ry with
  |AZ=>cases rb;cases h;exact SeqAt.RcNeAt.str_none a t'
  |bl b=>cases rb;cases h;exact SeqAt.RcNeAt.str_bool a t' b
  |int b=>obtain⟨t,rfl⟩:=rb;cases h;exact SeqAt.RcNeAt.str_int a t' b t
  |str b=>obtain⟨t,rfl⟩:=rb;cases h;exact SeqAt.RcNeAt.str_str a t' b t
  |tup h1 r1=>cases rb;cases h;obtain⟨_,_,p⟩:=tp h1;exact SeqAt.RcNeAt.str_tuple a t' p B6
  |lst h1 r1=>cases rb;cases h;obtain⟨_,_,p⟩:=ls h1;exact SeqAt.RcNeAt.str_list a t' p B6
  |Bp=>cases h
  |Cq=>cases h
 |@tup pa vs xs h1 r1=>
  cases ra;obtain⟨eQ,rv,p⟩:=tp h1;cases ry with
  |AZ=>cases rb;cases h;exact SeqAt.RcNeAt.tuple_none p B6
  |bl b=>cases rb;cases h;exact SeqAt.RcNeAt.tuple_bool b p B6
  |int b=>obtain⟨t,rfl⟩:=rb;cases h;exact SeqAt.RcNeAt.tuple_int b t p B6
  |str b=>obtain⟨t,rfl⟩:=rb;cases h;exact SeqAt.RcNeAt.tuple_str b t p B6
  |@tup pb ws ys h2 r2=>
   cases rb;obtain⟨BO,DG,p2⟩:=tp h2;have e':((xs.zip ys).mapM λp=>Br 59 p.1 p.2).map (λbs=>bs.all id && xs.length==ys.length)=some k:=h;rw[aas]at e';obtain⟨bs,hb,ek⟩:=e';have l1:eQ.length=xs.length:=by rw[<- rv.length,r1.len]
   have l2:BO.length=ys.length:=by rw[<- DG.length,r2.len]
   have t:=SeqAt.RcNeAt.tuples (A:=A) (e:=λj=>bs.getD j false) p p2 B6 (LY I sF hu r1 r2 rv DG hb)
   rwa [show min eQ.toArray.size BO.toArray.size=bs.length by rw[(aH hb).1,acC,aak,aak,l1,l2],bA (λj hj=>by simp[adu,aab hj]),aak,aak,l1,l2,ek]at t
  |lst h2 r2=>cases rb;cases h;obtain⟨_,_,p2⟩:=ls h2;exact SeqAt.RcNeAt.tuple_list p p2 B6
  |Bp=>cases h
  |Cq=>cases h
 |@lst pa vs xs h1 r1=>
  cases ra;obtain⟨eQ,rv,p⟩:=ls h1;cases ry with
  |AZ=>cases rb;cases h;exact SeqAt.RcNeAt.list_none p B6
  |bl b=>cases rb;cases h;exact SeqAt.RcNeAt.list_bool b p B6
  |int b=>obtain⟨t,rfl⟩:=rb;cases h;exact SeqAt.RcNeAt.list_int b t p B6
  |str b=>obtain⟨t,rfl⟩:=rb;cases h;exact SeqAt.RcNeAt.list_str b t p B6
  |tup h2 r2=>cases rb;cases h;obtain⟨_,_,p2⟩:=tp h2;exact SeqAt.RcNeAt.list_tuple p p2 B6
  |@lst pb ws ys h2 r2=>
   cases rb;obtain⟨BO,DG,p2⟩:=ls h2;have l1:eQ.length=xs.length:=by rw[<- rv.length,r1.len]
   have l2:BO.length=ys.length:=by rw[<- DG.length,r2.len]
   replace h:(if xs.length=ys.length then aeW (λbs:List Bool=>bs.all id) (afA (λp:PV×PV=>Br 59 p.1 p.2) (xs.zip ys))else some false)=some k:=h;split at h
   .rename_i hl;rw[aas]at h;obtain⟨bs,hb,ek⟩:=h;have t:=SeqAt.RcNeAt.lists (A:=A) (e:=λj=>bs.getD j false) p p2 (by rw[aak,aak];omega) B6 (LY I sF hu r1 r2 rv DG hb)
    rwa [show eQ.toArray.size=bs.length by rw[(aH hb).1,acC,aak,l1];omega,bA (λj hj=>by simp[adu,aab hj]),ek]at t
   .rename_i hl;cases h;exact afH p p2 (by simp only[aak];simpa[l1,l2]using hl) B6
  |Bp=>cases h
  |Cq=>cases h
 |Bp h1 r1=>cases y<;>cases h
 |Cq h1=>cases y<;>cases h
def yF(hu:X.A.units+60<cLine):BX X (aa1 .NotEq) (P2 X.K):=by intro pins s U H x y v u Q I rx ry h;obtain⟨F,p,q,k,sF,r1,r2,e,hq⟩:=h;exact Tr I sF hu r1 r2 rx ry e X.prog X.w X.xe _ #[.bl (!k),H,I,rfl,hq]
def wI:Ef ob X (P2 X.K) Oj:=by
 refine aZ (P:=λ_ _ _ _=>True) λF H v u x y z sF rx ry hz=>?_;obtain⟨k,hk,rfl⟩:=Option.map_eq_some_iff.mp hz;have nx:∀xs,x≠.set xs:=λxs e=>by subst e;cases y<;>cases hk
 have ny:∀xs,y≠.set xs:=λxs e=>by subst e;cases x<;>cases hk
 obtain⟨F1,s1,s2,r1⟩:=rx.Dg sF nx;have S6:Vw #[14] F1 H u y:=by
  rcases ry with r|⟨a,e,r⟩
  .exact .inl (r.mono s1)
  .exact .inr #[a,e,r.mono s1 rfl]
 obtain⟨F2,s3,s4,r2⟩:=S6.Dg s2 ny;exact#[_,λ_=>.bl _,λQ q=>#[F2,x,y,k,s4,r1.mono s3,r2,hk,q]]
end Q
namespace L2
open PySem PySem.Spec PyProof.Rows
variable{prog:aaC}{w:World}{A:Around}{E:Aaa}{s:Shared}
variable{l:Addr}{items:Aak}{ss:A3}{Q:Aaa}
theorem jJ(hh:A.handled=none)(hl:s.heap.IsTuple l items)(hi:acp items.toList ss)(hb:ss.length+1<scanBound)
  (h:∀(h':Heap) (tk:Nat),Cn prog w h' s.heap.objs.size (D0 ss)->(∀b o,b<s.heap.objs.size->s.heap.get? b=some o->h'.get? b=some o)->s.heap.objs.size<h'.objs.size->Q (.ref s.heap.objs.size) {s with heap:=h',toks:=tk}) :
  wpAny #[9] A (call (.type "set") [.ref l]) Q E s:=by
 obtain⟨c,tl,Uj⟩:=F.called_set.mro;have QV:=F.called_set.made;have IZ:=F.called_set.sub;have hsz:items.size=ss.length:=by rw[<- aaE];exact hi.length
 refine wpAny_call (aed (?_:wpAny _ _ (callAny (.type "set") _) _ _ _));refine aae #[Code.quiet_builtin _ (by decide +kernel),abK F.entry_type_call ?_];rw[Around.under_plain (weight_type_call_type "set" [.ref l] []) rfl];have h1:=F.called_set.notType;have h2:=F.called_set.canCreate;have YR:=F.typeCall_set_1 (.ref l)
 repeat (any_goals (first|assumption|wp_step))
 generalize Eo:(!w.params.followText "set-order")=led;refine acQ (ir (.ref l) (E:=E) (Q:=λobj z=>obj=.ref s.heap.objs.size/\z={s with heap:=s.heap.push {cls:=.type "set",dict:=none,data:=.set #v[] 0 (.fresh 0 0 led)}}) (by rw[Eo];exact#[rfl,rfl])) λr z hr=>?_;cases r with
 |error e=>exact hr
 |ok fl=>
 cases fl with
 |ret obj=>
  obtain⟨rfl,rfl⟩:=hr;have g0:(s.heap.push {cls:=.type "set",dict:=none,data:=.set #v[] 0 (.fresh 0 0 led)}).get? s.heap.objs.size=some {cls:=.type "set",dict:=none,data:=.set #v[] 0 (.fresh 0 0 led)}:=aaf _ rfl;have hT:Shared.TypeIs {s with heap:=s.heap.push {cls:=.type "set",dict:=none,data:=.set #v[] 0 (.fresh 0 0 led)}} (.ref s.heap.objs.size) "set" := #[_,g0,rfl]
  have Hx:=F.called_set.init.lookup;have YV:=F.called_set.init.bind (.ref s.heap.objs.size)
  repeat (any_goals (first|assumption|wp_step))
  refine acQ (codeAny_call_builtin (R:=wants (λr z=>r=.none/\∃h' tk,z={s with heap:=h',toks:=tk}/\Cn prog w h' s.heap.objs.size (D0 ss)/\(∀b o,b<s.heap.objs.size->s.heap.get? b=some o->h'.get? b=some o)/\s.heap.objs.size<h'.objs.size) E)
   F.called_set.init.plain F.entry_set_init (check_set_init_1 hT ?_)) λr z hr=>?_
  .have tt:(s.heap.push {cls:=.type "set",dict:=none,data:=.set #v[] 0 (.fresh 0 0 led)}).IsTuple l items:=by obtain⟨o,e,r⟩:=hl;exact#[o,aac _ e,r]
   obtain⟨⟨Ti,Qi,Qj,M5⟩,ho,hc,n0,hd⟩:=id tt;simp only at hc hd;subst hc hd;have a1:=F.sub_tuple_set;have a2:=F.sub_tuple_frozenset;have a3:(abM "tuple" == abM "dict")=false:=by decide
   unfold acP.«set.__init__» noKeywords afk;generalize UL:pyIter=PI
   wp_walk
   subst UL;refine ab9 (s:={s with heap:=s.heap.push {cls:=.type "set",dict:=none,data:=.set #v[] 0 (.fresh 0 0 led)}}) tt ?_;refine aaa (afK ?_);have BU:l<s.heap.objs.size:=by obtain⟨o,e,_⟩:=hl;exact aah e
   have Ou:l≠(s.heap.push {cls:=.type "set",dict:=none,data:=.set #v[] 0 (.fresh 0 0 led)}).objs.size:=by rw[aa9];exact aap (abG BU)
   have QT:s.heap.objs.size∉[(s.heap.push {cls:=.type "set",dict:=none,data:=.set #v[] 0 (.fresh 0 0 led)}).objs.size,l]:=by
    rw[aa9];intro q;rcases List.mem_cons.mp q with e|q
    .exact absurd e (aap (adh _))
    .exact absurd (List.mem_singleton.mp q) (abF BU)
   have W:=(Walks.tuple (prog:=prog) (w:=w) (A:=A.in1.in1.in1) (by simp[hh]) (s.heap.push {cls:=.type "set",dict:=none,data:=.set #v[] 0 (.fresh 0 0 led)}).objs.size l Ou items).toS;rw[hsz]at W;refine lA hb W QT (λi v Fk hv=>?_) (ss.length - 0) 0 _ #[] (abg _) #[#[_,aaf _ rfl,rfl,rfl],#[_,aac _ ho,rfl,n0,rfl]] ?_ ?_
   .obtain⟨t,e⟩:=hi.get i _ (aab Fk);rw[abI]at e;exact#[t,aar (hv.symm.trans e)]
   .exact#[_,#v[],0,_,[],aac _ g0,#[rfl,rfl,rfl],rfl,λe he=>by simp at he,.nil,.nil,#[2],rfl,λe=>by rw[<- Eo,e];rfl,λe=>(e rfl).elim]
   .intro z mv q;rw[aa2]at q;obtain⟨h',g',d',IL,F0⟩:=z;obtain rfl:g'=s.gens:=mv.gens;obtain rfl:d'=s.drawn:=mv.drawn;obtain rfl:F0=s.os:=mv.os;refine aae (aae #[rfl,h',IL,rfl,q,λb o hb e=>?_,?_])
    .refine mv.heap b o ?_ (aac _ (aac _ e));rw[aa9];intro q;rcases List.mem_cons.mp q with e|q
     .exact absurd e (aap hb)
     .exact absurd (List.mem_singleton.mp q) (aap (abG hb))
    .obtain⟨o,_,_,_,_,e,_⟩:=q;exact aah e
  .cases r with
   |error e=>exact hr
   |ok fl=>
   cases fl with
   |ret r=>
    obtain⟨rfl,h',tk,rfl,q1,q2,q3⟩:=hr
    repeat (any_goals (first|assumption|wp_step))
    exact h _ _ q1 q2 q3
   |_=>exact hr.elim
 |_=>exact hr.elim
variable{X:Cx}
def MZ(P:aaC)(w:World)(K:aag):Aag->Hp->VK->Prop:=λxs H Q=>∃(p:Addr) (ss:A3),xs=[.ref p]/\Cf K H p (ss.map V.str)/\ss.length<=1000/\∀l,H l=none->Q (.ref l) (upd H l (FW P w l (D0 ss)))
theorem qH(hc:X.calm=true):Bd X (.type "set") (MZ X.prog X.w X.K):=by intro pins s U H xs us Q I r h;obtain⟨p,ss,rfl,hq,hl,k⟩:=h;obtain⟨u,rfl,ru⟩:=r.one;cases ru;obtain⟨eQ,rv,tp,_⟩:=I.tuple hq;exact jJ (I.ok.hd hc) tp (by simpa using fw rv) (by unfold scanBound;omega) λh' tk q1 q2 q3=>#[.ref s.heap.objs.size,_,I.laid (λb o e=>q2 b o (aah e) e) (aai _) (JB q1),rfl,k _ (I.Bc.fresh (aai _))]
end L2
namespace Q
open PySem L2 PyProof.Rows
def lR(fa:WA):WE:=λenv P=>fa env λxs e=>match xs with
 |[.tup ys]=>∃ss,ys.mapM B7=some ss/\ss.length<=1000/\(D0 ss).length<64/\∀ts,D3 (D0 ss) ts->P (.lst (ts.map .str)) e
 |_=>False
variable{ob:B3}{X:Cx}{a b c e:Expr}{es:Aai}{f g h:WE}{fa:WA}{pos EN p p1 p2:Pos}{x:Str}
def oG(hc:X.calm=true)(hg:Gl X "sorted")(hm:X.mg "sorted" = none)(Jd:Gl X "set")(QW:X.mg "set" = none)(ha:GX ob X [e] fa)(Nz:autoParam (aal [e] X.env=(false,eval e X.env)::aal [] X.env) At)
  (he:autoParam (aal [.Call (.Name "set" p2) [e] [] EN] X.env=(false,eval (.Call (.Name "set" p2) [e] [] EN) X.env)::aal [] X.env) At) (Nr:autoParam ((backTo EN (aal [] X.env)).any (·.1)=false) At) (Cj:autoParam ((backTo pos (aal [] X.env)).any (·.1)=false) At) :
  EY ob X (.Call (.Name "sorted" p) [.Call (.Name "set" p2) [e] [] EN] [] pos) (lR fa):=by
 obtain⟨t,ht,k⟩:=ha.ex;refine#[_,bi (jI hc) hg hm aew (aD (bT (qH hc) Jd QW PyProof.Rows.boot_set ht #[2] (rfl) Nz Nr) aQ he) #[2] (rfl) he Cj,λZ F U H env P Q K hf kk=>k Z F U H env _ _ K hf λxs e1 vs F1 H1 p s1 K1 r1=>?_];split at p
 .obtain⟨ss,hs,hl,Gg,p⟩:=p;obtain⟨v,rfl,r⟩:=r1.one;obtain⟨q,vs,rfl,h1,h2⟩:=r.tup K1.sF;have:=bw eF hs h2;subst this;refine#[q,ss,rfl,h1,hl,λl hn=>#[l,_,rfl,ah,Gg,λm ts hm hp hw=>?_]];have sH:dO H1 (upd H1 l (FW X.prog X.w l (D0 ss))):=ao hn;have K2:=K1.move ai (af K1.sF sH) sH λ_ h=>.inl h;exact kk _ e1 _ F1 _ (p ts #[hp,hw]) s1 (λ_=>#[0]) (K2.own hm #[_,ah,bS ts])
 .exact p.elim
noncomputable def Nc(x y:PV):Aat:=(FY x).bind λk=>(FY y).map λl=>.bl (gtB l k)
def P4(K:aag):R2:=λv u H Q=>∃(p q:Addr) (k l:Int×Str),v=.ref p/\u=.ref q/\Cf K H p [.int k.1,.str k.2]/\Cf K H q [.int l.1,.str l.2]/\Q (.bl (gtB l k)) H
def gY{x:PV}{k:Int×Str}(h:FY x=some k):x=.tup [.int k.1,.str k.2]:=by
 unfold FY at h;split at h
 .cases h;rfl
 .cases h
variable{K:aag}{F:Hp}{v:V}
def fJ{a:Int}{b:Str}(h:Rep K F v (.tup [.int a,.str b])):∃p,v=.ref p/\Cf K F p [.int a,.str b]:=by
 cases h with
 |tup h1 h2=>
  cases h2 with
  |cons h2 h3=>
   cases h3 with
   |cons h3 h4=>cases h4;cases h2;cases h3;exact#[_,rfl,h1]
theorem yG(hu:X.A.units+60<cLine):BX X (aa1 .Lt) (P4 X.K):=by intro pins s U H x y v u Q I rx ry h;obtain⟨p,q,k,l,rfl,rfl,h1,h2,hq⟩:=h;cases rx;cases ry;obtain⟨_,rv,tp,_⟩:=I.tuple h1;obtain⟨_,Ir,Pk,_⟩:=I.tuple h2;exact uj #[] (g5 rv tp) (g5 Ir Pk) X.prog X.w X.xe _ #[.bl _,H,I,rfl,hq]
def wK:Ef ob X (P4 X.K) Nc:=by refine aZ (P:=λ_ _ _ _=>True) λF H v u x y z sF rx ry hz=>?_;obtain⟨k,hk,hz⟩:=Option.bind_eq_some_iff.mp hz;obtain⟨l,hl,rfl⟩:=Option.map_eq_some_iff.mp hz;have ek:=gY hk;have el:=gY hl;subst ek el;obtain⟨p,h1⟩:=fJ rx.Gp;obtain⟨q,h2⟩:=fJ ry.Gp;exact#[_,λ_=>.bl _,λQ hq=>#[p,q,_,_,h1.1,h2.1,ap sF h1.2,ap sF h2.2,hq]]
end Q
namespace PySem
open Sem (wp)
def mq:aeS (.type "tuple") "keys" = pure none:=rfl
variable{sl:Array (Option Value)}
def jz{prog:aaC}{w:World}{A:Around}{E:Aaa}{s:Shared}{a:Addr}{xs:Aak}{k:Nat}{Q:Aam}
  (hx:s.heap.get? a=some {cls:=.type "tuple",dict:=none,data:=.seq xs k,slots:=sl}) (hA:A.handled=none)
  (h:∀h' tk e,Heap.NewExcOf s.heap h' e "AttributeError" -> Q none {s with heap:=h',toks:=tk}) :
  wpAny #[9] A (afg (.ref a) "keys") Q E s:=by
 obtain⟨hp,g,d,tk,os⟩:=s;have hT:∀IL,(#[hp,g,d,IL,os]:Shared).TypeIs (.ref a) "tuple" := λ_=>#[_,hx,rfl]
 have f1:=sub_AttributeError;have f3:=F.slot_tuple_getattribute.lookup;have f4:=F.slot_tuple_getattribute.bind (.ref a);have f5:=am_tuple_getattr_none;unfold afg getAttrBy? getAttrBy
 repeat (any_goals (first|assumption|exact hT _|((with_reducible show wpAny _ _ (call (Value.builtin "tuple.__getattribute__") _ _) _ _ _);refine adN F.slot_tuple_getattribute (hT _) am_entry_tuple_getattribute (F.args_tuple_getattribute_2 _ _) (meets_getattribute_miss_tuple a xs k sl "keys" _ mq (by decide +kernel) (by size_fits)) #[hx,hA,λh' IL e KW=>?_])|wp_step))
 obtain⟨t',u',he⟩:=KW.there;show wpAny _ _ (adC _ _ _ _ _ _ _) _ _ _;unfold adC
 repeat (any_goals (first|assumption|exact hTe _|wp_step))
 exact h _ _ _ KW.of
open PySem.Spec PyProof.Rows
section
variable{prog:aaC}{w:World}{K:Type}[DecidableEq K]{knd:KeyKind prog w K}{A:Around}{R:Result->Shared->Prop}
theorem jF{d it l:Addr}{items:Aak}(ks:Nat->K)(vs:Nat->Value)(hsz:items.size<=1000)(NA:d≠it)(UB:d≠l)(Q0:l≠it)(hA:A.in1.handled=none):
  ∀(k i:Nat) (s:Shared) (gE:List (K×Value)),items.size - i=k->i<=items.size->gE.length<=i->s.heap.DictOf knd d gE->s.heap.IsTupleIter it l i->s.heap.IsTuple l items ->
  (∀j,j<items.size->∃p key,items[j]?=some (.ref p)/\p≠d/\p≠it/\s.heap.IsTuple p #v[key,vs j]/\knd.is (ks j) key=true) ->
  (∀h' tk,h'.DictOf knd d ((aey i k).foldl (λgE j=>stored gE (ks j) (vs j)) gE)->(∀b o,b≠d->b≠it->s.heap.get? b=some o->h'.get? b=some o)->R (.ok (.ret .none)) {s with heap:=h',toks:=tk}) ->
  acK #[9] A (.builtin "dict.update.loop" #[[.ref d,.ref it,rawInt i,.none],[]]) R s:=by
 intro k;induction k with
 |zero=>intro i s gE hk hi hlen hD hI hL hP hR;refine abK F.B2 ?_;refine aaa (wpAny_pyNext_tuple_end hA hI hL (by rw[ada];omega) λh' kk=>?_);refine aaa (aae (aae (hR h' s.toks (bj hD λo e=>kk _ _ NA e) λb o h1 h2 e=>kk _ _ h2 e)))
 |succ k ih=>
  intro i s gE hk hi hlen hD hI hL hP hR;have BU:i<items.size:=by omega
  obtain⟨p,key,ep,pd,pt,hp,ET⟩:=hP i BU;refine abK F.B2 ?_;refine aaa (wpAny_pyNext_tuple_item hI hL ep λh1 I1 k1=>?_);have e1:∀b o,b≠it->s.heap.get? b=some o->h1.get? b=some o:=λb o h e=>k1.extBut _ _ h e;have Ud:h1.IsTuple p #v[key,vs i]:=by obtain⟨o,e,r⟩:=hp;exact#[o,e1 _ _ pt e,r]
  refine aaa (aaX ?_);refine aaa (wpAny_tryCatch ?_);obtain⟨op,Qh,Tg,XM,Tf⟩:=id Ud;refine aaa (acn #[op,Qh,Tg] ?_);refine aaa (abw Qh Tf (aae ?_));have UP  := bj hD λo e=>e1 _ _ NA e;refine aaX (aet ET UP (λh2 D2 k2=>?_) (by rw[aaJ];omega));have e2:∀b o,b≠d->b≠it->s.heap.get? b=some o->h2.get? b=some o:=λb o h h' e=>k2.extBut _ _ h (e1 _ _ h' e);refine aae #[acH F.B0 _,ih (i+1) _ _ #[] BU ?_ D2 ?_ ?_ ?_ ?_]
  .exact aaK (stored_length_le gE (ks i) (vs i)) #[]
  .obtain⟨o,e,r⟩:=I1;exact#[o,k2.extBut _ _ NA.symm e,r]
  .obtain⟨o,e,r⟩:=hL;exact#[o,e2 _ _ UB.symm Q0 e,r]
  .intro j hj;obtain⟨p',Ng,q1,q2,q3,⟨o,e,r⟩,q5⟩:=hP j hj;exact#[p',Ng,q1,q2,q3,#[o,e2 _ _ q2 q3 e,r],q5]
  .intro h' tk D' kk;refine hR h' tk ?_ λb o h h3 e=>kk _ _ h h3 (e2 _ _ h h3 e);exact D'
end
section
variable{prog:aaC}{w:World}{K:Type}[DecidableEq K]{knd:KeyKind prog w K}{A:Around}{E:Aaa}{s:Shared}
theorem je{l:Addr}{items:Aak}{n:Nat}{sl:Array (Option Value)}{Q:Aaa}(ks:Nat->K)(vs:Nat->Value)(hsz:items.size<=1000)(hA:A.handled=none)
  (hx:s.heap.get? l=some {cls:=.type "tuple",dict:=none,data:=.seq items n,slots:=sl})
  (hP:∀j,j<items.size->∃p key,items[j]?=some (.ref p)/\s.heap.IsTuple p #v[key,vs j]/\knd.is (ks j) key=true)
  (hQ:∀h' tk,h'.DictOf knd s.heap.objs.size ((aey 0 items.size).foldl (λgE j=>stored gE (ks j) (vs j)) [])->(∀b o,s.heap.get? b=some o->h'.get? b=some o)->Q (.ref s.heap.objs.size) {s with heap:=h',toks:=tk}) :
  wpAny #[9] A (call (.type "dict") [.ref l]) Q E s:=by
 refine callType_codes (Q₁:=λobj sc=>obj=.ref s.heap.objs.size/\sc={s with heap:=s.heap.push {cls:=.type "dict",data:=.dict #v[]}}) F.kt_called_dict (F.kt_typeCall_dict_1 _) F.entry_dict_init (kt_code_dict_new _ #[rfl,rfl]) ?_;rintro obj sc ⟨rfl,rfl⟩;have Du:(s.heap.push {cls:=.type "dict",data:=.dict #v[]}).DictOf knd s.heap.objs.size []:=afD s.heap;have QM:(s.heap.push {cls:=.type "dict",data:=.dict #v[]}).get? l=some {cls:=.type "tuple",dict:=none,data:=.seq items n,slots:=sl}:=aac _ hx;refine#[Du.typeIs,F.args_dict_init_2 _ _,?_];unfold acP.«dict.__init__»;refine aaa ?_;unfold Builtin.Dict.selfAndRest;refine aaa (wpAny_notOrdered_dict Du.typeIs ?_);show wpAny _ _ (pure (s.heap.objs.size,[aba l])) _ _ _;refine aae ?_;show wpAny _ _ (ac6 "dict.__init__" s.heap.objs.size (.ref l) [] .none) _ _ _;unfold ac6;refine aaa (acn (T := "tuple") #[_,QM,rfl] ?_);rw[if_pos #[2]];refine aaa (m:=afg (.ref l) "keys") (jz QM hA λh2 tk e ne=>?_);rw[if_pos #[4]];have up:∀b o,s.heap.get? b=some o->h2.get? b=some o:=λb o q=>ne.keeps _ _ (aac _ q);have HP:=up _ _ hx;have Ri:h2.DictOf knd s.heap.objs.size []:=bj Du λo q=>ne.keeps _ _ q;have Gf:h2.IsTuple l items:=#[_,HP,rfl,n,rfl]
 have Vc:s.heap.objs.size≠l:=abF (aah hx);have Vd:s.heap.objs.size≠h2.objs.size:=by obtain⟨_,_,_,ho,_⟩:=Ri;exact aap (aah ho)
 have Vb:l≠h2.objs.size:=aap (aah HP);refine aaa (act (aaa (ab9 (s:={s with heap:=h2,toks:=tk}) Gf ?_)));refine aae #[acH F.B0 _,?_];refine jF (A:=A.in1) (knd:=knd) (it:=h2.objs.size) ks vs hsz Vd Vc Vb hA items.size 0 _ [] #[] (abg _) (aai _) (bj Ri λo q=>aac _ q) #[_,aaf _ rfl,rfl,rfl] #[_,aac _ HP,rfl,n,rfl] ?_ ?_
 .intro j hj;obtain⟨p,key,q1,⟨o,q2,r⟩,q3⟩:=hP j hj;exact#[p,key,q1,aap (aah q2),aap (aah (up _ _ q2)),#[o,aac _ (up _ _ q2),r],q3]
 .intro h' IL D kk;exact#[rfl,hQ h' IL D λb o q=>kk b o (aap (aah q)) (aap (aah (up _ _ q))) (aac _ (up _ _ q))]
end
end PySem
namespace Q
open PySem L2 PyProof.Rows
noncomputable def GR:Aab->Option PV
 |[.tup xs]=>if xs.length<=1000 then (xs.mapM D5).map λgE=>.Bp (DT gE)else none
 |_=>none
variable{ob:B3}{X:Cx}
def JN(K:aag):Aag->Hp->VK->Prop:=λxs H Q=>∃(l:Addr) (ys:Aag) (BL:List (Str×V)),xs=[.ref l]/\Cf K H l ys/\ys.length=BL.length/\BL.length<=1000 /\
  (∀j (hj:j<BL.length),∃p,ys[j]?=some (.ref p)/\Cf K H p [.str BL[j].1,BL[j].2])/\∀d,H d=none->Q (.ref d) (upd H d (.dK (BL.foldl (λgE kv=>putK gE (aav kv.1:Key) kv.2) [])))
theorem ve(hc:X.calm=true):Bd X (.type "dict") (JN X.K):=by
 intro pins s U H xs us Q I r h;obtain⟨l,ys,BL,rfl,hl,hlen,hsz,hp,q⟩:=h;obtain⟨u,rfl,ru⟩:=r.one;cases ru;obtain⟨eQ,rv,⟨⟨c0,d0,da0,sl0⟩,g,e0,n,e1⟩,_⟩:=I.tuple hl;obtain⟨o1,g1,e2⟩:=I.MA hl;rw[g]at g1;cases g1;subst e0 e1 e2;have each:∀j,∃vv:Value,∀hj:j<BL.length,∃(p:Addr) (t:Tok),eQ[j]?=some (.ref p)/\s.heap.IsTuple p #v[.str BL[j].1 t,vv]/\RelV BL[j].2 vv:=λj=>by
  by_cases hj:j<BL.length
  .obtain⟨p,ey,hP⟩:=hp j hj;obtain⟨v1,e1,r1⟩:=rv.get ey;cases r1;obtain⟨Xi,Ir,g2,_⟩:=I.tuple hP;cases Ir with
   |cons ra rr=>
    cases rr with
    |cons rb rr=>cases rr;obtain⟨t,rfl⟩:=ra;exact#[_,λ_=>#[p,t,e1,g2,rb]]
  .exact#[.none,λh=>absurd h hj]
 obtain⟨vf,hv⟩:=Classical.skolem.mp each;have Hx:eQ.length=BL.length:=by rw[<- hlen];exact rv.length.symm
 refine je (knd:=ay X.prog X.w) (items:=eQ.toArray) (n:=n) (λj=>(aav ((BL[j]?.getD (Str.empty,V.AZ)).1):Key)) vf #[3] (I.ok.hd hc) g (λj hj=>?_) λh' tk D kk=>?_
 .have E2:j<BL.length:=by simp at hj;omega
  obtain⟨p,t,e1,g2,_⟩:=hv j E2;refine#[p,.str BL[j].1 t,by simpa using e1,g2,?_];rw[aab E2,ad5];exact dW _ _ _ _
 .have hk:=kD BL vf (λj hj=>(hv j hj).choose_spec.choose_spec.2.2) BL.length (aai _);rw[aa2]at hk;have ez:eQ.toArray.size=BL.length:=by simp;exact Hx
  rw[ez]at D;refine#[.ref s.heap.objs.size,_,I.laid (a:=s.heap.objs.size) (t':=tk) (o:=.dK (BL.foldl (λgE kv=>putK gE (aav kv.1:Key) kv.2) [])) kk (aai _) #[?_,beq_eq_false_iff_ne.mpr (abz (aap I.RA)),_,hk,D],rfl,q _ (I.Bc.fresh (aai _))];refine aaK (nM BL []) ?_;rw[aaJ,abl];omega
def vh:FA ob X (JN X.K) GR:=by
 intro Z F U H env vs xs z Q K rv hz k;unfold GR at hz;split at hz
 .split at hz
  .rename_i hlen;rw[aas]at hz;obtain⟨gE,hk,rfl⟩:=hz;obtain⟨v,rfl,r⟩:=rv.one;obtain⟨q,vs,rfl,h1,h2⟩:=r.tup K.sF;obtain⟨BL,q1,q2,q3⟩:=iX hk h2;refine#[q,vs,BL,rfl,h1,q1.symm,by rw[q1,h2.len];exact hlen,λj hj=>?_,λd hd=>?_]
   .obtain⟨p,e1,e2⟩:=q2 j hj;exact#[p,e1,ap K.sF e2]
   .refine k _ _ (λ_=>#[0]) (K.own hd #[_,ah,?_]);rw[cI];exact gD q3 .nil
  .cases hz
 .cases hz
end Q
namespace L2
open PySem PySem.Spec PyProof.Rows
variable{X:Cx}{a b:Expr}{rest:Aai}{pos:Pos}{ta tb:TE}
def yu(ha:PE X a ta)(hb:PE X (.BoolOp .Or (b::rest) pos) tb):PE X (.BoolOp .Or (a::b::rest) pos) (λU H Q=>ta U H λx H1=>∃k,Lr X.K x H1 k/\if k=true then Q x H1 else tb U H1 Q):=by
 intro pins s U H Q I h;refine BoolOp_or (Bt (ha pins s U H _ I h) λv s1 #[x,H1,I1,r1,q1]=>?_);refine Bt (qV pins s1 U H1 x v (λk' H'=>if k'=true then Q x H' else tb U H' Q) I1 r1 q1) λk' s2 #[H2,I2,q2]=>?_;cases k' with
 |false=>exact hb pins s2 U H2 Q I2 q2
 |true=>exact#[x,H2,I2,r1,q2]
end L2
namespace Q
open PySem L2 PyProof.Rows
def Rr(a b:WE):WE:=λenv P=>a env λx e=>opt (FR x) λk=>if k=true then P x e else b e P
noncomputable def UW(x y:PV):Aat:=(FY x).bind λk=>(FY y).map λl=>.bl (gtB k l)
def Qb(K:aag):R2:=λv u H Q=>∃(p q:Addr) (k l:Int×Str),v=.ref p/\u=.ref q/\Cf K H p [.int k.1,.str k.2]/\Cf K H q [.int l.1,.str l.2]/\Q (.bl (gtB k l)) H
variable{ob:B3}{X:Cx}{a b:Expr}{rest:Aai}{pos:Pos}{f g:WE}
variable{M:Md}{F H:Hp}{v:V}{x:PV}
theorem vT{z:Bool}(r1:Vw M F H v x)(sF:dO F H)(hz:FR x=some z):Lr M.K v H z:=by
 have NQ:∀{O w:Type} {l:List O} {m:List w},l.length=m.length->l.isEmpty=m.isEmpty:=λ{O w l m} h=>by cases l<;>cases m<;>simp at h⊢
 cases x<;>simp only[FR]at hz
 .cases hz;rw[r1.AZ];rfl
 .cases hz;rw[r1.bl];rfl
 .cases hz;rw[r1.int];rfl
 .split at hz
  .cases hz;rw[r1.str];exact#[by rw[aaJ];omega,rfl]
  .cases hz
 .cases hz;obtain⟨p,vs,rfl,h1,h2⟩:=r1.tup sF;exact .inr (.inl #[vs,h1,by rw[NQ h2.len]])
 .cases hz;obtain⟨p,vs,rfl,h1,h2⟩:=r1.lst sF;exact .inl #[vs,.inl (.inl h1),by rw[NQ h2.len]]
 .cases hz;obtain⟨p,vs,rfl,h1,h2⟩:=r1.Bp sF;exact .inr (.inr #[vs,h1,by rw[NQ h2.len]])
 .cases hz
 .cases hz
def zE(ha:Bk ob X a f)(hb:Bk ob X (.BoolOp .Or (b::rest) pos) g):Bk ob X (.BoolOp .Or (a::b::rest) pos) (Rr f g):=by
 obtain⟨ta,ha,ka⟩:=ha.ex;obtain⟨tb,hb,kb⟩:=hb.ex;refine#[_,yu ha hb,λZ F U H env P Q K hf kk=>ka Z F U H env _ _ K hf λx e1 v F1 H1 p s1 K1 r1=>?_];obtain⟨z,hz,p⟩:=p;refine#[z,vT (M:=md ob X) (.inl r1) K1.sF hz,?_];cases z with
 |true=>exact Fj (kk _ e1 _ F1 H1 p s1 K1 r1)
 |false=>exact ES (kb Z F1 U H1 e1 P Q K1 p λx e2 v F2 H2 p2 s2 K2 r2=>kk x e2 v F2 H2 p2 (af s1 s2) K2 r2)
theorem yH(hu:X.A.units+60<cLine):BX X (aa1 .Gt) (Qb X.K):=by intro pins s U H x y v u Q I rx ry h;obtain⟨p,q,k,l,rfl,rfl,h1,h2,hq⟩:=h;cases rx;cases ry;obtain⟨_,rv,tp,_⟩:=I.tuple h1;obtain⟨_,Ir,Pk,_⟩:=I.tuple h2;exact uk #[] (g5 rv tp) (g5 Ir Pk) X.prog X.w X.xe _ #[.bl _,H,I,rfl,hq]
def wL:Ef ob X (Qb X.K) UW:=by refine aZ (P:=λ_ _ _ _=>True) λF H v u x y z sF rx ry hz=>?_;obtain⟨k,hk,hz⟩:=Option.bind_eq_some_iff.mp hz;obtain⟨l,hl,rfl⟩:=Option.map_eq_some_iff.mp hz;have ek:=gY hk;have el:=gY hl;subst ek el;obtain⟨p,h1⟩:=fJ rx.Gp;obtain⟨q,h2⟩:=fJ ry.Gp;exact#[_,λ_=>.bl _,λQ hq=>#[p,q,_,_,h1.1,h2.1,ap sF h1.2,ap sF h2.2,hq]]
noncomputable def Kf(D:Fd)(f:WE)(i:Nat):WE:=λenv P=>f env λx e=>match e[i]? with
 |some (some #[1,.lst xs])=>D [x,.lst xs] λr=>(∃ss:A3,r=.lst (ss.map .str))/\P r e
 |_=>False
def lr:∀ss:A3,(ss.map PV.str).mapM B7=some ss
 |[]=>rfl
 |s::ss=>by rw[aaw,abh,lr ss];rfl
variable{p p1:Pos}{x y:Str}{CS:Addr}{fd:abL}{ps:A3}{k:Nat}{D:Fd}
def u4(i:Nat)(F:Bi X.prog X.w X.K X.mg X.base Cp k CS fd ps (JA #[14] 2 D))(hr:BB k X.A)(hm:X.mg x=some (.ref CS))(hk:abJ X.K (.ref CS)=true)(hb:Binds X.K fd ps [])(ha:Bk ob X a f)(ho:PE X (.Name y p1) (Bw i))(hg:autoParam (Gl X x) At)
  (DH:autoParam #[12] on) (he:autoParam (aal (a::[.Name y p1]) X.env=(false,eval a X.env)::aal [.Name y p1] X.env) At) (Nz:autoParam (aal [.Name y p1] X.env=(false,eval (.Name y p1) X.env)::aal [] X.env) At) (Cj:autoParam ((backTo pos (aal [.Name y p1] X.env)).any (·.1)=false) At) :
  EY ob X (.Call (.Name x p) [a,.Name y p1] [] pos) (Kf D f i):=by
 obtain⟨t,ht,kt⟩:=ha.ex;refine#[_,cR F hr hg hm hk hb .nil FZ (aD ht (aD ho aQ Nz) he) DH he Cj,λZ F U H env P Q K hf kk=>kt Z F U H env _ _ K hf λz e1 v F1 H1 p s1 K1 r1=>?_];split at p
 .rename_i xs ei;obtain⟨fp,L⟩:=K1.sl;obtain⟨w,hw,ok⟩:=L.at' i _ ei;rcases ok with ⟨e,_⟩|⟨_,q,rfl,hf,h0,vs,hq,rv⟩|⟨e,_⟩|⟨e,_⟩
  .cases e
  .refine#[_,hw,?_];show JA #[14] 2 D ([v,.ref q]++[]) H1 Q E0;rw[aa0];have Za:F1 q=none:=(L.al i q (by rw[hf];simp)).2;have MS:dO F1 (upd F1 q (.lst vs)):=ao Za;refine#[upd F1 q (.lst vs),[z,.lst xs],_,λb o e=>?_,.cons (r1.mono MS) (.cons (.lst ah (rv.mono MS)) .nil),rfl,p,λr a F' H' pr sH sF JF nw hx ho hF ha=>?_]
   .by_cases eb:b=q
    .subst eb;rw[ah]at e;cases e;exact hq
    .rw[aj eb]at e;exact K1.sF b o e
   obtain⟨⟨ss,rfl⟩,pr⟩:=pr;have V1:=af MS sF;have K2:=K1.move ai (af V1 JF) sH λa h=>.inl h;have L2:=L.move ai (λ_ c o _ e=>sH c o e) (λa h=>.inl h:∀a,F1 a≠none->F1 a≠none\/H1 a=none);have UN:F1 a=none:=by
    cases e:F1 a with
    |none=>rfl
    |some o=>have:=V1 a o e;rw[hF]at this;cases this
   obtain⟨us,hu,ru⟩:=ho;have eu:=bw eF (lr ss) ru;subst eu;refine kk _ e1 _ F1 H' pr s1 hx (K2.slots (by simp[K2.len]) (L2.push #[0] K2.len (.inr (.inl #[rfl,a,rfl,rfl,K1.h0 ha,_,hu,bS ss])) (λb hb=>?_) λj b hb hj=>?_))
   .simp at hb;subst hb;exact#[by rw[hu];simp,UN]
   .simp at hb;subst hb;exact(L.al j b hj).1 ha
  .rcases e with e|e<;>cases e
  .cases e
 .exact p.elim
end Q
namespace Pre
open PySem L2
noncomputable def top(i:Nat):Stmt:=PySem.Challenge.pw_cheaptree_k23_shown_by_ways.main.body.getD i (.Pass #[0,0,0,0])
noncomputable abbrev jU:Stmt:=top 2
noncomputable abbrev gn:Stmt:=top 3
noncomputable abbrev gv:Stmt:=top 4
noncomputable abbrev jV:Stmt:=top 5
noncomputable abbrev gm:Stmt:=top 6
noncomputable abbrev HG:Stmt:=top 7
noncomputable abbrev iR:Stmt:=top 8
noncomputable abbrev dR:Stmt:=top 10
noncomputable abbrev jY:Stmt:=top 11
noncomputable abbrev iQ:Stmt:=top 12
noncomputable abbrev jT:Stmt:=top 13
noncomputable abbrev JE:Stmt:=top 15
noncomputable abbrev gq:Stmt:=top 16
noncomputable abbrev MN:Stmt:=top 17
noncomputable abbrev jR:Stmt:=top 19
noncomputable abbrev gp:Stmt:=top 21
noncomputable abbrev dS:Stmt:=top 22
noncomputable abbrev da:Stmt:=top 23
noncomputable abbrev Gw:Stmt:=top 25
noncomputable abbrev Iq:Stmt:=top 26
noncomputable abbrev HF:Stmt:=top 27
noncomputable abbrev JG:Stmt:=top 28
noncomputable abbrev JH:Stmt:=top 29
noncomputable abbrev MQ:Stmt:=top 30
noncomputable abbrev JD:Stmt:=top 31
noncomputable abbrev JI:Stmt:=top 32
noncomputable abbrev gu:Stmt:=top 33
noncomputable abbrev JC:Stmt:=top 34
noncomputable abbrev fH:Stmt:=top 35
noncomputable abbrev db:Stmt:=top 36
noncomputable abbrev gk:Stmt:=top 37
noncomputable abbrev jS:Stmt:=top 38
noncomputable abbrev HH:Stmt:=top 39
noncomputable abbrev MR:Stmt:=top 40
structure Named(K:aag)(mg:Aaf)(x:Str)(f:Addr):Prop where
 mg:mg x=some (.ref f)
 kp:abJ K (.ref f)=true
structure Df(K:aag)(mg:Aaf)(name:Str)(st:Stmt)(ps:A3) where
 f:Addr
 fd:abL
 F:Jl K name name st f fd
 b:Binds K fd ps []
 n:Named K mg name f
section
set_option genInjectivity false
set_option genSizeOf false
structure Ev(K:aag)(mg:Aaf) where
 GL:Df K mg "is_word" jU ["thing"]
 Et:Df K mg "is_rising" gn ["words"]
 Ey:Df K mg "are_words" gv ["thing"]
 GN:Df K mg "is_open" jV ["net", "tie"]
 Es:Df K mg "open_ties" gm ["net"]
 HY:Df K mg "ranks" HG ["net"]
 Fq:Df K mg "cheaper" iR ["net", "name", "other"]
 Dw:Df K mg "neighbours" dR ["net"]
 GP:Df K mg "came_by" jY ["beside", "start"]
 Fp:Df K mg "reached" iQ ["beside", "start"]
 GK:Df K mg "pieces" jT ["net"]
 J9:Df K mg "only" JE ["net", "names"]
 Ew:Df K mg "is_forest" gq ["net", "thing"]
 NN:Df K mg "way" MN ["net", "forest", "one", "other"]
 GI:Df K mg "ways_in" jR ["net", "tree"]
 Eu:Df K mg "is_pair_of" gp ["name", "thing"]
 Dx:Df K mg "are_pairs_of" dS ["names", "thing"]
 C6:Df K mg "shows_by_ways" da ["net", "tree", "thing"]
 DZ:Df K mg "_law_begin" Gw ["_law_script"]
 IE:Df K mg "_law_next" Iq ["_law_state", "_law_many"]
 Ep:Df K mg "_law_words" HF ["_law_state", "_law_many"]
 Ka:Df K mg "_law_ends" JG ["_law_state", "_law_words_here", "_law_style", "_law_k"]
 Kc:Df K mg "_law_cost" JH ["_law_state", "_law_style"]
 NO:Df K mg "_law_net" MQ ["_law_state", "_law_most", "_law_ties"]
 Gh:Df K mg "_law_open" JD ["_law_net_here"]
 D8:Df K mg "_law_came" JI ["_law_place", "_law_ties"]
 Ex:Df K mg "_law_cheapest" gu ["_law_net_here"]
 J8:Df K mg "_law_way" JC ["_law_ties", "_law_one", "_law_other"]
 DY:Df K mg "_law_is_forest" fH ["_law_net_here", "_law_thing"]
 C7:Df K mg "_law_shown_by_ways" db ["_law_net_here", "_law_tree", "_law_thing"]
 Er:Df K mg "_law_some_tree" gk ["_law_state", "_law_net_here", "_law_tree"]
 GJ:Df K mg "_law_spoilt" jS ["_law_state", "_law_pairs"]
 HZ:Df K mg "_law_paper" HH ["_law_net_here", "_law_tree"]
 H0:Df K mg "law" MR ["_law_script"]
 Mo:mg "abs" = none
 Mn:mg "all" = none
 Mm:mg "any" = none
 Kl:mg "bool" = none
 Ig:mg "dict" = none
 DB:mg "enumerate" = none
 Kk:mg "int" = none
 CA:mg "isinstance" = none
 Kj:mg "len" = none
 Ie:mg "list" = none
 RD:mg "max" = none
 IH:mg "range" = none
 IG:mg "set" = none
 C1:mg "sorted" = none
 Ml:mg "str" = none
 GU:mg "tuple" = none
 Mk:mg "zip" = none
 DA:∃t,mg "LONGEST_WORD" = some (.int 8 t)
end
noncomputable abbrev kC:Key:=.inr (aao "cells")
noncomputable abbrev kL:Key:=.inr (aao "left")
noncomputable abbrev kS:Key:=.inr (aao "seed")
noncomputable abbrev kM:Key:=.inr (aao "many")
variable{b:Addr}{l s m v:Int}
def vC:CO (stK b l s m) kC=some (.ref b):=cX rfl
def vL:CO (stK b l s m) kL=some (.int l):=rfl
def vS:CO (stK b l s m) kS=some (.int s):=rfl
def vM:CO (stK b l s m) kM=some (.int m):=rfl
def pL:putK (stK b l s m) kL (.int v)=stK b v s m:=rfl
def pM:putK (stK b l s m) kM (.int v)=stK b l s v:=rfl
def PU(x:String):TE:=E6 _root_.Q.M4 (Bw 0) (tC (V.str (aao x)))
def Pp:TS:=Gq
   (Pw
    (Io
     (E6 (Gy λi j=>V.bl (decide (j<i))) (PU "left")
      (tC (V.int 0))))
    (Gq
     (FG
      (E6 (rI (λx j=>0<j) λi j=>V.int (i % j))
       (PU "left") (Bw 1))
      (By 3))
     (Gq
      (FG
       (E6 (rI Oa λi j=>V.int (i / j)) (PU "left")
        (Bw 1))
       (NJ (Bw 0) (tC (V.str (aao "left"))) _root_.Q.Iu))
      (ME (Bw 3))))
    LD)
   (Gq
    (FG
     (E6 (Gy λi j=>V.int (i+j)) (PU "many")
      (tC (V.int 1)))
     (By 4))
    (Gq (FG (Bw 4) (NJ (Bw 0) (tC (V.str (aao "many"))) _root_.Q.Iu))
     (Gq
      (FG
       (E6 (rI (λx j=>0<j) λi j=>V.int (i % j))
        (E6 (rI Hw λi j=>V.int (i*j))
         (E6 (Gy λi j=>V.int (i+j))
          (E6 (Gy λi j=>V.int (i+j)) (PU "seed")
           (E6 (rI Hw λi j=>V.int (i*j)) (E6 (rI Hw λi j=>V.int (i*j)) (Bw 4) (Bw 4))
            (tC (V.int 104729))))
          (tC (V.int 11)))
         (tC (V.int 48271)))
        (tC (V.int 2305843009213693921)))
       (By 5))
      (Gq
       (FG
        (E6 (rI (λx j=>0<j) λi j=>V.int (i % j))
         (E6 (rI Hw λi j=>V.int (i*j)) (Bw 5)
          (E6 (Gy λi j=>V.int (i+j))
           (E6 (rI (λx j=>0<j) λi j=>V.int (i % j)) (Bw 5) (tC (V.int 1000003)))
           (tC (V.int 39373))))
         (tC (V.int 2305843009213693907)))
        (By 5))
       (ME
        (E6 (rI (λx j=>0<j) λi j=>V.int (i % j))
         (E6 (rI Oa λi j=>V.int (i / j)) (Bw 5) (tC (V.int 8191))) (Bw 1)))))))
variable{P:aaC}{w:World}{K:aag}{mg:Aaf}{base:Heap}
def Ej:au ["_law_state", "_law_many", "_law_cell", "_law_digit", "_law_turn", "_law_mixed"] ["_law_state", "_law_many"] (am Iq):=#[rfl,rfl,rfl,by decide +kernel,rfl,by decide +kernel,by decide +kernel]
variable{fd:abL}
theorem uA{f:Addr}(F:Jl K "_law_next" "_law_next" Iq f fd)(hA:mg "abs" = none)(hI:mg "int" = none):Bi P w K mg base Cp 1 f fd ["_law_state", "_law_many"] oP:=by
 refine F.ok Ej (λvs H Q E h=>?_) (λBu A outer s H vs Q E hr h=>?_)
 .obtain⟨a,b,m,f,rfl,_⟩:=h;rfl
 .obtain⟨a,b,m,f,rfl,S,m0,m1,k⟩:=h;have hu:=hr.My;have GC:=_root_.Q.GC hr;refine#[_,aO (qe (PW.pt (pw_and (gZ AE (cg (_root_.Q.Cy GC) (pv 0) aW (λ_ _=>rfl)) az (BA _)) (pw_and1 (gZ (na hu) (cg (_root_.Q.Cy GC) (pv 0) aW (λ_ _=>rfl)) (m6 aQ) (BA _)))))
    (aO (bp (i:=2) Ej.nd rfl (Or.inl rfl) (qi acY aeg aef ni (cg (_root_.Q.Cy GC) (pv 0) aW (λ_ _=>rfl)) (aD az aQ)))
    (cQ (gC (aF cq (bi nY #[4] hA PyProof.Rows.boot_abs (aD (pv 2) aQ)) (bT pP #[4] hI PyProof.Rows.boot_int (aD (j8 AD (bi nY #[4] hA PyProof.Rows.boot_abs (aD (pv 2) aQ)) (aF rS az az) (BA _)) aQ))) (ju (pv 0) aW (_root_.Q.set_dict GC)))))
    j4)
   (aO (qe (gZ ql (cg (_root_.Q.Cy GC) (pv 0) aW (λ_ _=>rfl)) az (BA _))
    (aO (bp (i:=3) Ej.nd rfl (Or.inl rfl) (aF cr (cg (_root_.Q.Cy GC) (pv 0) aW (λ_ _=>rfl)) (pv 1)))
    (aO (gC (aF ko (cg (_root_.Q.Cy GC) (pv 0) aW (λ_ _=>rfl)) (pv 1)) (ju (pv 0) aW (_root_.Q.set_dict GC)))
    (cQ (eN (pv 3)))))
    j4)
   (aO (bp (i:=4) Ej.nd rfl (Or.inl rfl) (aF dg (cg (_root_.Q.Cy GC) (pv 0) aW (λ_ _=>rfl)) az))
   (aO (gC (pv 4) (ju (pv 0) aW (_root_.Q.set_dict GC)))
   (aO (bp (i:=5) Ej.nd rfl (Or.inl rfl) (aF cr (aF cq (aF dg (aF dg (cg (_root_.Q.Cy GC) (pv 0) aW (λ_ _=>rfl)) (aF cq (aF cq (pv 4) (pv 4)) az)) az) az) az))
   (aO (bp (i:=5) Ej.nd rfl (Or.inl rfl) (aF cr (aF cq (pv 5) (aF dg (aF cr (pv 5) az) az)) az))
   (cQ (eN (aF cr (aF ko (pv 5) az) (pv 1))))))))),?_]
  obtain⟨ns,left,seed,many,ha,hb,l0,s0,s1,n0,nb⟩:=S.st;have ab:a≠b:=λe=>by rw[e,hb]at ha;cases ha
  have G:∀{H1:Hp} {x y z:Int} {kk:Key} {v:V},H1 a=some (.dK (stK b x y z))->CO (stK b x y z) kk=some v->GY H1 a (kV kk) (some v):=λ{H1 x y z kk v} e h=>by
   have:=R6 (k:=kk) e
   rwa [h]at this
  have Pt:∀{H1:Hp} {x y z:Int} {kk:Key} {v:V},H1 a=some (.dK (stK b x y z))->Lz H1 a (kV kk) v (upd H1 a (.dK (putK (stK b x y z) kk v))):=λe=>.inl #[_,_,e,rfl,by show 4<sizeLine;decide,rfl];have part2:∀(H1:Hp) (c2:Aau) (ns:Aar) (left:Int),Ik a b H H1->H1 a=some (.dK (stK b left seed many))->H1 b=some (.lst (ns.map V.int))->0<=left->Pp {nx:=λ_ H'=>Q .AZ H',rt:=Q} [some (.ref a),some (.int m),c2,none,none,none] H1:=by
   intro H1 c2 ns left hB ha hb l0;refine#[_,rfl,a,_,rfl,G ha vL,_,_,rfl,rfl,_,rfl,?_];refine Qy (λq=>?_) (λq=>?_)
   .refine#[_,rfl,a,_,rfl,G ha vL,_,rfl,_,_,rfl,rfl,m0,?_];refine#[_,rfl,a,_,rfl,G ha vL,_,rfl,_,_,rfl,rfl,#[m0,m1],_,rfl,a,_,rfl,Pt (kk:=kL) ha,?_];refine#[_,rfl,?_];refine k _ _ (acE _ #[]) (ace _ m0) #[ns,left / m,seed,many,?_,?_,Int.ediv_nonneg l0 #[],s0,s1,n0,#[]] hB.MM
    .rw[pL];exact ah
    .rw[aj ab.symm];exact hb
   .refine#[_,rfl,a,_,rfl,G ha vM,_,_,rfl,rfl,?_];refine#[_,rfl,_,rfl,a,_,rfl,Pt (kk:=kM) ha,?_];rw[pM];have WL:(upd H1 a (.dK (stK b left seed (many+1)))) a=some (.dK (stK b left seed (many+1))):=ah;have YX:(upd H1 a (.dK (stK b left seed (many+1)))) b=some (.lst (ns.map V.int)):=by rw[aj ab.symm];exact hb
    refine#[_,rfl,a,_,rfl,G WL vS,_,rfl,_,rfl,_,_,rfl,rfl,.inl #[#[],#[]],_,_,rfl,rfl,.inr #[#[2],#[2]],_,_,rfl,rfl,_,_,rfl,rfl,_,_,rfl,rfl,.inr #[#[2],#[2]],_,_,rfl,rfl,(by show (0:Int)<_;decide),?_];refine#[_,rfl,_,rfl,_,_,rfl,rfl,(by show (0:Int)<_;decide),_,_,rfl,rfl,_,_,rfl,rfl,.inr #[?_,?_],_,_,rfl,rfl,(by show (0:Int)<_;decide),?_]
    .have:=acE ((seed+(many+1)*(many+1)*104729+11)*48271 % 2305843009213693921) (show (1000003:Int)≠0 by decide);omega
    .have:=ace ((seed+(many+1)*(many+1)*104729+11)*48271 % 2305843009213693921) (show (0:Int)<1000003 by decide);omega
    refine#[_,rfl,_,_,rfl,rfl,#[#[2],#[2]],_,rfl,_,_,rfl,rfl,m0,?_];exact k _ _ (acE _ #[]) (ace _ m0) #[ns,left,seed,many+1,WL,YX,l0,s0,s1,#[],#[]] hB.MM
  show Gq _ Pp _ [some (.ref a),some (.int m),none,none,none,none] H;refine#[_,rfl,a,_,rfl,G ha vL,rfl,_,rfl,?_];refine Qy (λq=>?_) (λq=>?_)
  rotate_left
  .exact ES (part2 H none ns left (Ik.refl a b H) ha hb l0)
  refine#[_,rfl,a,_,rfl,G ha vC,abg _,λp hp=>?_];have UJ:∀o,(upd H p o) a=some (.dK (stK b left seed many)):=λo=>by rw[aj (av ha hp)];exact ha
  have So:∀o,(upd H p o) b=some (.lst (ns.map V.int)):=λo=>by rw[aj (av hb hp)];exact hb
  have B1:=(Ik.refl a b H).grow (o:=.lst []) hp;refine#[b,p,_,rfl,rfl,.inl (.inl (So _)),.inl (.inl ah),_,rfl,?_];cases ns with
  |nil=>exact ES (part2 _ none [] left B1 (UJ _) (So _) l0)
  |cons x r=>
   refine Fj ?_;refine#[_,rfl,a,_,rfl,G (UJ _) vC,.inl #[rfl,_,Cr.of (So _)],b,_,0,0,_,rfl,rfl,So _,#[2],#[2],?_,rfl,?_]
   .simp[afq]
   have YW:∀o,(upd (upd H p (.lst [])) b o) a=some (.dK (stK b left seed many)):=λo=>by rw[aj ab];exact UJ _
   refine#[_,rfl,x,rfl,_,rfl,x,rfl,_,_,rfl,rfl,#[#[2],#[2],#[2]],_,_,rfl,rfl,_,rfl,_,_,rfl,rfl,?_,?_]
   .have Q8:∀bb:Bool,-(2 ^ 64)<(if bb=true then (1:Int)else 0)/\(if bb=true then (1:Int)else 0)<2 ^ 64:=λbb=>by cases bb<;>exact#[#[2],#[2]]
    exact .inr (Q8 _)
   refine#[_,rfl,a,_,rfl,Pt (kk:=kL) (YW _),?_];rw[pL];refine part2 _ _ r _ (B1.S1.MM) ah ?_ ?_
   .rw[aj ab.symm];exact ah
   .refine Int.mul_nonneg ?_ ?_
    .show (0:Int)<=(if x<0 then -x else x)
     split<;>omega
    .have Q8:∀bb:Bool,(0:Int)<=(if bb=true then (1:Int)else 0):=λbb=>by cases bb<;>decide
     exact Q8 _
def uE:Dr [] (stK b l s m)=stK b l s m:=rfl
def D4:au ["_law_script", "_law_cells", "_law_seed", "_law_cell"] ["_law_script"] (am Gw):=#[rfl,rfl,rfl,by decide +kernel,rfl,by decide +kernel,by decide +kernel]
theorem sf{f:Addr}(F:Jl K "_law_begin" "_law_begin" Gw f fd)(hL:mg "len" = none)(hT:mg "list" = none):Bi P w K mg base Cp 1 f fd ["_law_script"] (fF K):=by
 refine F.ok D4 (λvs H Q E h=>?_) (λBu A outer s H vs Q E hr h=>?_)
 .obtain⟨a,ns,rfl,_⟩:=h;rfl
 .obtain⟨a,ns,rfl,hS,hlen,k⟩:=h;refine#[_,aO (bp (i:=1) D4.nd rfl (Or.inl rfl) (bT gL #[4] hT PyProof.Rows.boot_list (aD (iW oS (pv 0) o6 (o5 az)) aQ)))
   (aO (bp (i:=2) D4.nd rfl (Or.inl rfl) (aF dg (aF cq (bi gM #[4] hL PySem.boot_len (aD (pv 1) aQ)) az) az))
   (aO (rC afz rfl (wq (pv 1)) (j7 (i:=3) D4.nd rfl (Or.inl rfl))
    (cQ (bp (i:=2) D4.nd rfl (Or.inl rfl) (aF cr (aF dg (aF cq (pv 2) az) (aF cr (pv 3) az)) az))))
   (cQ (eN (o8 (df aW (pv 1) (df aW az (df aW (pv 2) (df aW az o4)))) rfl rfl #[0] #[2]))))),?_]
  have cut:Fu (ns.map V.int) none (some 63)=ns.map V.int:=by
   unfold Fu;rw[HT.E9];have e:HT.Ca (ns.map V.int).length (ns.map V.int).length (some 63)=(ns.map V.int).length:=by have:=HT.Gv (ns.map V.int).length (ns.map V.int).length 63;refine this.trans ?_;rw[aad];omega
   rw[e,Nat.sub_zero,afR,aa2]
  have grow:∀{H':Hp} {p:Addr} {o:HO},dO H H'->H' p=none->dO H (upd H' p o):=λ{H' p o} hs hp c u h=>by have q:=hs c u h;rw[aj (av q hp)];exact q
  refine#[_,rfl,63,rfl,a,_,rfl,hS,λp hp=>?_];rw[cut];have s1:dO H (upd H p (.lst (ns.map V.int))):=grow (dO.refl H) hp;refine#[p,_,rfl,.inl (.inl (.inl ah)),λq hq=>?_];have s2:dO H (upd (upd H p (.lst (ns.map V.int))) q (.lst (ns.map V.int))):=grow s1 hq;have Y6:H q=none:=s1.free hq;generalize Y7:upd (upd H p (.lst (ns.map V.int))) q (.lst (ns.map V.int))=H2 at s2;have Hg:H2 q=some (.lst (ns.map V.int)):=by rw[<- Y7];exact ah
  refine#[_,rfl,q,_,rfl,.inl (.inl (.inl Hg)),_,_,rfl,rfl,.inr #[#[2],#[2]],_,_,rfl,rfl,?_];refine#[_,rfl,q,rfl,#[_,.inl (.inl Hg)],uR (K:=K) (a:=q) (xs:=ns.map V.int) (λi U H3=>∃(z:Int) (v:Aau),U=[some (.ref a),some (.ref q),some (.int z),v]/\H3=H2/\0<=z/\z<2305843009213693951)
   #[_,none,rfl,rfl,by show (0:Int)<=((ns.map V.int).length:Nat)*7919+5;omega,by show ((ns.map V.int).length:Nat)*(7919:Int)+5<_;rw[aad];omega] (λi U H3 _ #[_,_,_,e,_]=>by rw[e];exact .inl (.inl Hg)) ?_ ?_]
  .rintro i y U H3 hi ⟨z,v,rfl,rfl,z0,z1⟩;obtain⟨c,rfl⟩:∃c,y=V.int c:=by
    rw[aaj]at hi;cases e:ns[i]? with
    |none=>rw[e]at hi;cases hi
    |some c=>rw[e]at hi;exact#[c,(aar hi).symm]
   refine#[_,rfl,_,_,rfl,rfl,.inr #[#[2],#[2]],_,rfl,_,_,rfl,rfl,(by show (0:Int)<_;decide),_,_,rfl,rfl,_,_,rfl,rfl,(by show (0:Int)<_;decide),?_];exact#[_,_,rfl,rfl,acE _ #[2],ace _ #[2]]
  .rintro U H3 ⟨z,v,rfl,rfl,z0,z1⟩;intro d hd;refine#[_,rfl,_,rfl,?_];have Wq:q≠d:=λe=>by rw[e,hd]at Hg;cases Hg
   refine#[ah,stK q 0 z 0,rfl,by show 4<=15;decide,?_];refine k d q _ (s2.free hd) Y6 #[ns,0,z,0,?_,?_,#[2],z0,z1,#[2],#[2]] ?_
   .rw[ah,uE]
   .rw[aj Wq,aj Wq];exact Hg
   .rw[vQ];exact grow s2 hd
open PySem L2 Q
variable{P:aaC}{w:World}{K:aag}{mg:Aaf}{base:Heap}
structure Bh(x:Str):Prop where
 lo:1<=x.cps.toList.length
 hi:x.cps.toList.length<=8
 ok:∀c∈x.cps.toList,97<=c/\c<=122
noncomputable def ch(i:Nat):Str:=#[#v[97+i]]
variable{x y:Str}
def jP(h:x.cps.toList=y.cps.toList):x=y:=by exact congrArg Str.mk (Array.toList_inj.mp h)
def mY(b m:Nat):(Gx (ch b) m).cps.toList=aaR m (97+b):=by
 unfold Gx ch;induction m with
 |zero=>rfl
 |succ m ih=>simpa using ih
def fS(x y:Str):(x++y).cps.toList=x.cps.toList++y.cps.toList:=by show (x.cps++y.cps).toList=_;simp
noncomputable def Mp:Str := "abcdefghijklmnopqrstuvwxyz"
def An:∀i:Nat,i<26->Mp.cps.toList[i]?=some (97+i):=by decide +kernel
structure oR where
 nm:Str
 one:Str
 A4:Str
 cost:Int
abbrev _root_.Aah:=List oR
noncomputable def t0:oR:=#[#[#v[]],#[#v[]],#[#v[]],0]
structure Mr(t:oR):Prop where
 nm:Bh t.nm
 one:Bh t.one
 A4:Bh t.A4
 lt:Bv t.one t.A4
 lo : -(10 ^ 30)<t.cost
 hi:t.cost<10 ^ 30
structure Gk(ps:A3)(ts:Aah):Prop where
 rise:ps.Pairwise Bv
 word:∀x∈ps,Bh x
 names:(ts.map oR.nm).Pairwise Bv
 tie:∀t∈ts,Mr t
def nz(h1:¬ Bv y x)(h2:x≠y):Bv x y:=by
 rcases List.le_iff_lt_or_eq.mp (List.not_lt.mp h1)with z|z
 .exact z
 .exact absurd (jP z) h2
variable{l:A3}
def ye(hp:l.Perm [x,y])(hs:l.Pairwise λa b=>¬ Bv b a)(hn:x≠y):∃u v,l=[u,v]/\Bv u v/\(u=x\/u=y)/\(v=x\/v=y):=by
 have hl:=hp.length_eq
 match l,hl with
 |[u,v],_=>
  have hu:u=x\/u=y:=by simpa using hp.mem_iff.mp #[0]
  have hv:v=x\/v=y:=by simpa using hp.mem_iff.mp #[0]
  have nd  := hp.nodup_iff.mpr #[1];have C5:u≠v:=by simp_all
  refine#[u,v,rfl,nz ?_ C5,hu,hv];have:=List.rel_of_pairwise_cons hs (show v∈[v]by simp);exact this
def gW(hs:l.Pairwise λa b=>¬ Bv b a)(hn:l.Nodup):l.Pairwise Bv:=by have:=List.nodup_iff_pairwise_ne.mp hn;exact(hs.and this).imp λ#[h1,h2]=>nz h1 h2
noncomputable def iF(t:oR):PV:=.tup [.str t.nm,.str t.one,.str t.A4,.int t.cost]
noncomputable def A6(ps:A3)(ts:Aah):PV:=.tup [.tup (ps.map .str),.tup (ts.map iF)]
abbrev aq:GV:=ma
variable{m:Int}
theorem draw{f:Nat}{P:Aap}(h0:0<m)(h1:m<1073741824)(k:∀r:Nat,(r:Int)<m->P (.int r) (.int (f:Int))):aq (.int ((f+1:Nat):Int)) [.int m] P :=
 #[f,m,rfl,rfl,h0,h1,λr r0 r1=>by
  obtain⟨i,rfl⟩:∃i:Nat,r=i:=#[r.toNat,#[]]
  exact k i r1]
def fX:GV:=λc xs P=>∃(f:Nat) (q:Int),c=.int ((f+2:Nat):Int)/\xs=[.int q]/\∀(v:Int) (f':Nat),f<=f' -> -(10 ^ 30)<v->v<10 ^ 30->P (.int v) (.int (f':Int))
def fW:GV:=λc xs P=>∃(f:Nat) (ws:A3) (st k:Int),c=.int ((f+4:Nat):Int)/\xs=[.lst (ws.map .str),.int st,.int k]/\2<=ws.length/\ws.length<=60/\ws.Nodup/\∀(u v:Str) (f':Nat),f<=f'->u∈ws->v∈ws->Bv u v->P (.tup [.str u,.str v]) (.int (f':Int))
def cA:GV:=λc xs P=>∃(f:Nat) (n:Nat),c=.int ((f+20:Nat):Int)/\xs=[.int n]/\n<=52/\∀(ws:A3) (f':Nat),f<=f'->ws.length=n->ws.Pairwise Bv->(∀x∈ws,Bh x)->P (.lst (ws.map .str)) (.int (f':Int))
def fm:GV:=λc xs P=>∃(f:Nat) (M T:Int),c=.int ((f+1000:Nat):Int)/\xs=[.int M,.int T]/\0<=M/\M<=40/\8<=T/\T<=50/\∀(ps:A3) (ts:Aah) (f':Nat),f<=f'->Gk ps ts->(ps.length:Int)<=M->(ts.length:Int)<=T->P (A6 ps ts) (.int (f':Int))
def bP(Y:Ev K mg):Bi P w K mg base Cp 1 Y.IE.f Y.IE.fd ["_law_state", "_law_many"] (Kp #[P,w,K,Ee K] 2 aq):=sh (uA Y.IE.F Y.Mo Y.Kk)
def sN(Y:Ev K mg):Bi P w K mg base Cp 1 Y.DZ.f Y.DZ.fd ["_law_script"] (fF K):=sf Y.DZ.F Y.Kj Y.Ie
open PySem L2
noncomputable def BD(ps:A3)(t:oR):Bool:=decide (t.one∈ps) && decide (t.A4∈ps)
variable{ps:A3}{t:oR}
def B8:BD ps t=true↔t.one∈ps/\t.A4∈ps:=by unfold BD;simp
noncomputable def Bl(ns:A3)(t:oR):Bool:=decide (t.nm∈ns)
variable{ns:A3}
def BZ:Bl ns t=true↔t.nm∈ns:=by unfold Bl;simp
variable{x y:Str}
def jw(h:Bv x y):x≠y:=λe=>by subst e;exact adJ _ h
variable{ts:Aah}
def bn(h:Gk ps ts):(ts.map oR.nm).Nodup:=List.nodup_iff_pairwise_ne.mpr (h.names.imp λz=>jw z)
variable{O:Type}{i:Nat}
def iG{f:O->Bool}{ts:List O}(hi:i<ts.length):(ts.take (i+1)).filter f=(ts.take i).filter f++(if f ts[i]=true then [ts[i]]else []):=by rw[abC,aab hi,List.filter_append];congr 1;show List.filter f [ts[i]]=_;rw[ad8];rfl
noncomputable def ends(p:Str)(t:oR):List (Str×Str):=(if t.one=p then [(t.nm,t.A4)]else [])++(if t.A4=p then [(t.nm,t.one)]else [])
noncomputable def Ci(ps:A3)(ts:Aah)(p:Str):List (Str×Str):=(ts.filter (BD ps)).flatMap (ends p)
def vt(hi:i<ts.length)(p:Str):Ci ps (ts.take (i+1)) p=Ci ps (ts.take i) p++(if BD ps ts[i]=true then ends p ts[i]else []):=by
 unfold Ci;rw[iG hi]
 split<;>simp
def oB(p:Str)(t:oR):(ends p t).length<=2:=by
 unfold ends
 split<;>split<;>simp
theorem qq(ps:A3)(ts:Aah)(p:Str):(Ci ps ts p).length<=2*ts.length:=by
 unfold Ci;have h1:∀us:Aah,(us.flatMap (ends p)).length<=2*us.length:=λus=>by
  induction us with
  |nil=>simp
  |cons t r ih=>rw[List.flatMap_cons,aan,aay];have:=oB p t;omega
 have h2:=h1 (ts.filter (BD ps));have h3:=abe (BD ps) ts;omega
inductive BS (g:Str->List (Str×Str)) (s:Str):Str->Prop where
 |refl:BS g s s
 |step {x y nm:Str}:BS g s x->(nm,y)∈g x->BS g s y
abbrev Cs:=List (Str×Option (Str×Str))
noncomputable abbrev C0(cs:Cs):A3:=cs.map (·.1)
structure EH(g:Str->List (Str×Str))(start:Str)(cs:Cs):Prop where
 nd:(C0 cs).Nodup
 tree:∀(i:Nat) (c:Str×Option (Str×Str)),cs[i]?=some c->(i=0/\c=(start,none))\/(0<i/\∃nm x,c.2=some (nm,x)/\(nm,c.1)∈g x/\x∈C0 (cs.take i))
 ne:cs≠[]
variable{g:Str->List (Str×Str)}{cs:Cs}
def EH.start{start:Str}(x:EH g start cs):start∈C0 cs:=by
 cases cs with
 |nil=>exact absurd rfl x.ne
 |cons c r=>
  rcases x.tree 0 c rfl with ⟨_,e⟩|⟨e,_⟩
  .subst e;exact aaz
  .exact absurd e (abY _)
def EH.sound{start:Str}(x:EH g start cs):∀(i:Nat),∀y∈C0 (cs.take i),BS g start y
 |0,y,h=>by simp_all
 |i+1,y,h=>by
  rw[abC]at h;unfold C0 at h;rw[aaO]at h;rcases List.mem_append.mp h with h|h
  .exact EH.sound x i y h
  .cases e:cs[i]? with
   |none=>rw[e]at h;simp at h
   |some c=>
    rw[e]at h;have hy:y=c.1:=by simp_all
    subst hy;rcases x.tree i c e with ⟨_,e⟩|⟨_,nm,z,e1,e2,e3⟩
    .subst e;exact .refl
    .exact .step (EH.sound x i z e3) e2
def EH.iff{start:Str}(x:EH g start cs)(cl:∀y∈C0 cs,∀q∈g y,q.2∈C0 cs):y∈C0 cs↔BS g start y:=by
 constructor
 .refine λh=>x.sound cs.length y ?_;rw[aa2];exact h
 .intro h;induction h with
  |refl=>exact x.start
  |step _ h ih=>exact cl _ ih _ h
variable{nm:Str}
theorem EH.snoc{start:Str}(h:EH g start cs)(hy:y∉C0 cs)(hx:x∈C0 cs)(hg:(nm,y)∈g x):EH g start (cs++[(y,some (nm,x))]):=by
 refine#[?_,λi c hc=>?_,#[0]]
 .unfold C0;rw[aaO,abH];refine#[h.nd,#[0],λa ha b hb=>?_];have:b=y:=by simp_all
  intro z;exact hy #[1]
 .rcases Nat.lt_trichotomy i cs.length with z|z|z
  .rw[aat z]at hc;rw[afd #[]];exact h.tree i c hc
  .subst z;have e  :=by simpa using hc.symm
   subst e;refine .inr #[?_,nm,x,rfl,hg,?_]
   .cases cs with
    |nil=>exact absurd rfl h.ne
    |cons _ _=>simp
   .rw[afd (aai _),aa2];exact hx
  .rw[aam #[3]]at hc;cases hc
theorem aI[DecidableEq O]:∀{xs ys:List O},xs.Nodup->(∀x∈xs,x∈ys)->xs.length<=ys.length
 |[],_,_,_=>abg _
 |x::r,ys,nd,h=>by
  obtain⟨n1,n2⟩:=List.nodup_cons.mp nd;have hx:=h x aaz;have:=aI n2 λz hz=>by have X5:z≠x:=λe=>n1 #[1];exact(List.mem_erase_of_ne X5).mpr (h z (aaq _ hz))
  rw[List.length_erase_of_mem hx]at this;have hp:=aea hx;rw[aay];omega
variable{z:Str}
def eO(a:Bv x y)(b:Bv y z):Bv x z:=List.lt_trans a b
def b9(x:Str):¬ Bv x x:=adJ _
def dh(a:Bv x y):¬ Bv y x:=λb=>b9 x (eO a b)
def cS(x y:Str):Bv x y\/x=y\/Bv y x:=by
 by_cases h:Bv y x
 .exact .inr (.inr h)
 .by_cases e:x=y
  .exact .inr (.inl e)
  .exact .inl (nz h e)
def bZ:∀{xs ys:A3},xs.Pairwise Bv->ys.Pairwise Bv->(∀z,z∈xs↔z∈ys)->xs=ys
 |[],[],_,_,_=>rfl
 |[],y::ys,_,_,h=>absurd ((h y).mpr aaz) #[0]
 |x::xs,[],_,_,h=>absurd ((h x).mp aaz) #[0]
 |x::xs,y::ys,hx,hy,h=>by
  obtain⟨x1,x2⟩:=List.pairwise_cons.mp hx;obtain⟨y1,y2⟩:=List.pairwise_cons.mp hy;have e:x=y:=by
   rcases List.mem_cons.mp ((h x).mp aaz)with e|e
   .exact e
   .rcases List.mem_cons.mp ((h y).mpr aaz)with e'|e'
    .exact e'.symm
    .exact absurd (x1 y e') (dh (y1 x e))
  subst e;rw[bZ x2 y2 λz=>?_];constructor
  .intro hz;rcases List.mem_cons.mp ((h z).mp (aaq _ hz))with e|e
   .subst e;exact absurd (x1 z hz) (b9 z)
   .exact e
  .intro hz;rcases List.mem_cons.mp ((h z).mpr (aaq _ hz))with e|e
   .subst e;exact absurd (y1 z hz) (b9 z)
   .exact e
def bR{xs:A3}(h:xs.Pairwise Bv):xs.Nodup:=List.nodup_iff_pairwise_ne.mpr (h.imp λz=>jw z)
open Classical in
noncomputable def rb(g:Str->List (Str×Str))(s y:Str):Bool:=decide (BS g s y)
variable{s:Str}
def CQ:rb g s y=true↔BS g s y:=by unfold rb;simp
def BS.Dt(h:BS g s y)(hs:s∈ps)(GD:∀p∈ps,∀q∈g p,q.2∈ps):y∈ps:=by
 induction h with
 |refl=>exact hs
 |step _ h ih=>exact GD _ ih _ h
noncomputable def root(ps:A3)(g:Str->List (Str×Str))(s:Str):Bool:=!ps.any λp=>decide (Bv p s) && rb g p s
def BF:root ps g s=true↔∀p∈ps,BS g p s->¬ Bv p s:=by
 unfold root;rw[adc,List.any_eq_false];constructor
 .exact λh p hp hr hl=>h p hp (by rw[aaM,CQ];exact#[decide_eq_true hl,hr])
 .intro h p hp z;rw[aaM,CQ]at z;exact h p hp z.2 (of_decide_eq_true z.1)
noncomputable def Gz(ps:A3)(g:Str->List (Str×Str)):List (A3):=(ps.filter (root ps g)).map λs=>ps.filter (rb g s)
variable{p:Str}
def Ed{q:Str}:(nm,q)∈Ci ps ts p↔∃t∈ts,BD ps t=true/\nm=t.nm/\((t.one=p/\t.A4=q)\/(t.A4=p/\t.one=q)):=by
 unfold Ci;rw[List.mem_flatMap];constructor
 .rintro⟨t,ht,h⟩;obtain⟨h1,h2⟩:=List.mem_filter.mp ht;rcases List.mem_append.mp h with z|z
  .split at z
   .rename_i e;have:(nm,q)=(t.nm,t.A4):=by simp_all
    cases this;exact#[t,h1,h2,rfl,.inl #[e,rfl]]
   .simp at z
  .split at z
   .rename_i e;have:(nm,q)=(t.nm,t.one):=by simp_all
    cases this;exact#[t,h1,h2,rfl,.inr #[e,rfl]]
   .simp at z
 .rintro⟨t,h1,h2,rfl,h3⟩;refine#[t,List.mem_filter.mpr #[h1,h2],?_];rcases h3 with ⟨e1,e2⟩|⟨e1,e2⟩
  .exact abt _ #[1]
  .exact aaH _ #[1]
def ic:∀q∈Ci ps ts p,q.2∈ps:=λ#[nm,q] h=>by
 obtain⟨t,h1,h2,h3,h4⟩:=Ed.mp h;obtain⟨o1,o2⟩:=B8.mp h2;rcases h4 with ⟨a,b⟩|⟨a,b⟩
 .rw[<- b];exact o2
 .rw[<- b];exact o1
def Jn(x y:Str):Prop:=¬ Bv y x
def di(x:Str):Jn x x:=b9 x
def cv(a:Jn x y)(b:Jn y z):Jn x z:=λh=>by
 rcases cS x y with c|c|c
 .exact b (eO h c)
 .subst c;exact b h
 .exact a c
def so(x y:Str):Jn (Ff x y) x:=by
 unfold Ff;split
 .rename_i h;exact dh h
 .exact di x
def sn(x y:Str):Jn (Ff x y) y:=by
 unfold Ff;split
 .exact di y
 .rename_i h;exact h
def pk(x y:Str):Ff x y=x\/Ff x y=y:=by
 unfold Ff;split
 .exact .inr rfl
 .exact .inl rfl
noncomputable def CK(t:oR)(L:Str->Str):Str->Str:=λx=>if x=t.A4 then Ff (L t.one) (L t.A4)else if x=t.one then Ff (L t.one) (L t.A4)else L x
noncomputable def round(os:Aah)(L:Str->Str):Str->Str:=os.foldl (λL t=>CK t L) L
noncomputable def Dp(os:Aah):Nat->Str->Str
 |0=>id
 |n+1=>round os (Dp os n)
def iT(t:oR)(L:Str->Str)(x:Str):Jn (CK t L x) (L x):=by
 unfold CK;split
 .rename_i h;subst h;exact sn _ _
 .split
  .rename_i h;subst h;exact so _ _
  .exact di _
def fI:∀(os:Aah) (L:Str->Str) (x:Str),Jn (round os L x) (L x)
 |[],_,_=>di _
 |t::r,L,x=>cv (fI r (CK t L) x) (iT t L x)
def jr:∀(os:Aah) (L:Str->Str),∀t∈os,Jn (round os L t.one) (L t.A4)/\Jn (round os L t.A4) (L t.one)
 |[],_,t,h=>nomatch h
 |u::r,L,t,h=>by
  rcases List.mem_cons.mp h with rfl|h
  .have a:=fI r (CK t L) t.one;have b:=fI r (CK t L) t.A4;have m1:CK t L t.A4=Ff (L t.one) (L t.A4):=by unfold CK;rw[if_pos rfl]
   have m2:CK t L t.one=Ff (L t.one) (L t.A4):=by
    unfold CK;split
    .rfl
    .rw[if_pos rfl]
   rw[m2]at a;rw[m1]at b;exact#[cv a (sn _ _),cv b (so _ _)]
  .obtain⟨a,b⟩:=jr r (CK u L) t h;exact#[cv a (iT u L _),cv b (iT u L _)]
noncomputable def Rk(g:Str->List (Str×Str)):Nat->Str->Str->Prop
 |0,x,y=>x=y
 |k+1,x,y=>Rk g k x y\/∃nm z,(nm,z)∈g x/\Rk g k z y
structure Eg(ps:A3)(os:Aah)(g:Str->List (Str×Str)):Prop where
 mem:∀p nm q,(nm,q)∈g p↔∃t∈os,nm=t.nm/\((t.one=p/\t.A4=q)\/(t.A4=p/\t.one=q))
 Dt:∀t∈os,t.one∈ps/\t.A4∈ps
variable{os:Aah}
def Eg.sym(G:Eg ps os g){q:Str}(h:(nm,q)∈g p):(nm,p)∈g q:=by
 obtain⟨t,a,b,c⟩:=(G.mem _ _ _).mp h;refine(G.mem _ _ _).mpr #[t,a,b,?_];rcases c with ⟨x,y⟩|⟨x,y⟩
 .exact .inr #[y,x]
 .exact .inl #[y,x]
def Eg.QD(G:Eg ps os g):∀q∈g p,q.2∈ps:=λ#[nm,q] h=>by
 obtain⟨t,a,b,c⟩:=(G.mem _ _ _).mp h;rcases c with ⟨x,y⟩|⟨x,y⟩
 .rw[<- y];exact(G.Dt t a).2
 .rw[<- y];exact(G.Dt t a).1
def BS.trans(a:BS g x y)(b:BS g y z):BS g x z:=by
 induction b with
 |refl=>exact a
 |step _ h ih=>exact .step ih h
def Eg.El(G:Eg ps os g)(h:BS g x y):BS g y x:=by
 induction h with
 |refl=>exact .refl
 |step _ h ih=>exact BS.trans (.step .refl (G.sym h)) ih
def pU(ps:A3)(ts:Aah):Eg ps (ts.filter (BD ps)) (Ci ps ts):=by
 refine#[λp nm q=>?_,λt ht=>B8.mp (List.mem_filter.mp ht).2];rw[Ed];constructor
 .rintro⟨t,a,b,c⟩;exact#[t,List.mem_filter.mpr #[a,b],c]
 .rintro⟨t,a,c⟩;obtain⟨a,b⟩:=List.mem_filter.mp a;exact#[t,a,b,c]
def dU(G:Eg ps os g):∀(k:Nat) (x y:Str),Rk g k x y->Jn (Dp os k x) y
 |0,x,y,h=>by cases h;exact di _
 |k+1,x,y,h=>by
  rcases h with h|⟨nm,z,hz,h⟩
  .exact cv (fI os (Dp os k) x) (dU G k x y h)
  .have ih:=dU G k z y h;obtain⟨t,ht,_,c⟩:=(G.mem _ _ _).mp hz;obtain⟨a,b⟩:=jr os (Dp os k) t ht;rcases c with ⟨e1,e2⟩|⟨e1,e2⟩
   .subst e1 e2;exact cv a ih
   .subst e1 e2;exact cv b ih
def n8(G:Eg ps os g)(ht:t∈os){L:Str->Str}(h:∀x,BS g x (L x)):∀x,BS g x (CK t L x):=by
 have e1:BS g t.one t.A4:=.step .refl ((G.mem _ _ _).mpr #[t,ht,rfl,.inl #[rfl,rfl]]);have e2:BS g t.A4 t.one:=.step .refl ((G.mem _ _ _).mpr #[t,ht,rfl,.inr #[rfl,rfl]]);intro x;unfold CK;split
 .rename_i e;subst e;rcases pk (L t.one) (L t.A4)with z|z<;>rw[z]
  .exact e2.trans (h _)
  .exact h _
 .split
  .rename_i e;subst e;rcases pk (L t.one) (L t.A4)with z|z<;>rw[z]
   .exact h _
   .exact e1.trans (h _)
  .exact h x
def iu(G:Eg ps os g):∀(us:Aah) (L:Str->Str),(∀t∈us,t∈os)->(∀x,BS g x (L x))->∀x,BS g x (round us L x)
 |[],L,_,h=>h
 |t::r,L,hs,h=>iu G r (CK t L) (λu hu=>hs u (aaq _ hu)) (n8 G (hs t aaz) h)
def de(G:Eg ps os g):∀(k:Nat) (x:Str),BS g x (Dp os k x)
 |0,x=>.refl
 |k+1,x=>iu G os _ (λ_ h=>h) (de G k) x
open Classical in
def RC(G:Eg ps os g)(nd:ps.Nodup)(hy:y∈ps):∀k:Nat,(∀x,BS g y x->Rk g k x y)\/k<(ps.filter λx=>decide (Rk g k x y)).length
 |0=>by right;have:y∈ps.filter λx=>decide (Rk g 0 x y):=List.mem_filter.mpr #[hy,by simp[Rk]];exact aea this
 |k+1=>by
  rcases RC G nd hy k with h|h
  .exact .inl λx hx=>.inl (h x hx)
  .by_cases c:∃x∈ps,Rk g (k+1) x y/\¬ Rk g k x y
   .right;obtain⟨x,hx,c1,c2⟩:=c;have:=aI (xs:=x::(ps.filter λx=>decide (Rk g k x y))) (ys:=ps.filter λx=>decide (Rk g (k+1) x y))
     (List.nodup_cons.mpr #[λz=>c2 (by have:=(List.mem_filter.mp z).2;simpa using this),nd.sublist abQ])
     (λz hz=>by
      rcases List.mem_cons.mp hz with rfl|hz
      .exact List.mem_filter.mpr #[hx,by simpa using c1]
      .obtain⟨z1,z2⟩:=List.mem_filter.mp hz;exact List.mem_filter.mpr #[z1,by simp only[decide_eq_true_eq]at z2 ⊢;exact .inl z2])
    rw[aay]at this;omega
   .left;have key:∀x,BS g y x->x∈ps/\Rk g k x y:=λx hx=>by
     induction hx with
     |refl=>
      refine#[hy,?_];have:∀j,Rk g j y y:=λj=>by
       induction j with
       |zero=>rfl
       |succ j ih=>exact .inl ih
      exact this k
     |@step u v nm _ hv ih=>have JX:v∈ps:=G.QD _ hv;refine#[JX,?_];have:Rk g (k+1) v y:=.inr #[nm,u,G.sym hv,ih.2];exact acL λz=>c #[v,JX,this,z]
    exact λx hx=>.inl (key x hx).2
def qd(G:Eg ps os g)(nd:ps.Nodup)(hy:y∈ps)(h:BS g y x):Rk g ps.length x y:=by
 rcases RC G nd hy ps.length with a|a
 .exact a x h
 .exact absurd a (Nat.not_lt.mpr (abe _ _))
structure RK(ps:A3)(g:Str->List (Str×Str))(L:Str->Str):Prop where
 Dt:∀x∈ps,L x∈ps
 LI:∀x,BS g x (L x)
 least:∀x∈ps,∀y∈ps,BS g x y->Jn (L x) y
def mT(G:Eg ps os g)(nd:ps.Nodup):RK ps g (Dp os ps.length) where
 Dt:=λx hx=>(de G ps.length x).Dt hx λp _=>G.QD
 LI:=de G ps.length
 least:=λx hx y hy h=>dU G ps.length x y (qd G nd hy (G.El h))
def lO(ps ns:A3)(ts:Aah):(ts.filter (BD ps)).filter (Bl ns)=(ts.filter (Bl ns)).filter (BD ps):=by rw[adF,adF];exact acl λt _=>Bool.and_comm _ _
variable{F0:Aah}{g':Str->List (Str×Str)}
def gS(G:Eg ps os g)(G':Eg ps F0 g')(h:∀t∈os,t∈F0)(r:BS g x y):BS g' x y:=by
 induction r with
 |refl=>exact .refl
 |step _ e ih=>obtain⟨t,a,b,c⟩:=(G.mem _ _ _).mp e;exact .step ih ((G'.mem _ _ _).mpr #[t,h t a,b,c])
def tY(G:Eg ps os g)(G':Eg ps F0 g')(h:∀t∈os,t∈F0)(r:root ps g' s=true):root ps g s=true:=by rw[BF]at r ⊢;exact λp hp e=>r p hp (gS G G' h e)
def mU(G:Eg ps os g){r:Str}(hr:r∈ps)(hs:s∈ps)(h1:root ps g r=true)(h2:root ps g s=true)(h:BS g r s):r=s:=by
 rw[BF]at h1 h2;rcases cS r s with z|z|z
 .exact absurd z (h2 r hr h)
 .exact z
 .exact absurd z (h1 s hs (G.El h))
def i6(G:Eg ps os g)(G':Eg ps F0 g')(h:∀u,u∈F0↔u∈os\/u=t)(r:BS g' x y):BS g x y\/(BS g x t.one/\BS g t.A4 y)\/(BS g x t.A4/\BS g t.one y):=by
 induction r with
 |refl=>exact .inl .refl
 |step _ e ih=>
  obtain⟨u,a,b,c⟩:=(G'.mem _ _ _).mp e;rcases(h u).mp a with a|rfl
  .have e':=(G.mem _ _ _).mpr #[u,a,b,c];rcases ih with ih|⟨i1,i2⟩|⟨i1,i2⟩
   .exact .inl (.step ih e')
   .exact .inr (.inl #[i1,.step i2 e'])
   .exact .inr (.inr #[i1,.step i2 e'])
  .rcases c with ⟨c1,c2⟩|⟨c1,c2⟩
   .subst c1 c2;rcases ih with ih|⟨i1,i2⟩|⟨i1,i2⟩
    .exact .inr (.inl #[ih,.refl])
    .exact .inr (.inl #[i1,.refl])
    .exact .inl i1
   .subst c1 c2;rcases ih with ih|⟨i1,i2⟩|⟨i1,i2⟩
    .exact .inr (.inr #[ih,.refl])
    .exact .inl i1
    .exact .inr (.inr #[i1,.refl])
def lG(nd:ps.Nodup)(G:Eg ps os g)(G':Eg ps F0 g')(h:∀u,u∈F0↔u∈os\/u=t)(hc:BS g t.one t.A4)(r:BS g' x y):BS g x y:=by
 rcases i6 G G' h r with z|⟨z1,z2⟩|⟨z1,z2⟩
 .exact z
 .exact z1.trans (hc.trans z2)
 .exact z1.trans ((G.El hc).trans z2)
theorem i7(nd:ps.Nodup)(G:Eg ps os g)(G':Eg ps F0 g')(h:∀u,u∈F0↔u∈os\/u=t)(h1:t.one∈ps)(h2:t.A4∈ps)(hc:¬ BS g t.one t.A4):(Gz ps g').length+1=(Gz ps g).length:=by
 have L:=mT G nd;have IZ  := λu hu=>(h u).mpr (.inl hu);have U8:BS g' t.one t.A4:=.step .refl ((G'.mem _ _ _).mpr #[t,(h t).mpr (.inr rfl),rfl,.inl #[rfl,rfl]]);generalize Se:Dp os ps.length t.one=ra;generalize Sd:Dp os ps.length t.A4=Ks;have a1:ra∈ps:=by rw[<- Se];exact L.Dt _ h1
 have b1:Ks∈ps:=by rw[<- Sd];exact L.Dt _ h2
 have a2:BS g t.one ra:=by rw[<- Se];exact L.LI _
 have b2:BS g t.A4 Ks:=by rw[<- Sd];exact L.LI _
 have rt  := λx hx=>BF.mpr λp hp e lt=>L.least x hx p hp ((L.LI x).trans (G.El e)) lt;have a3:root ps g ra=true:=by rw[<- Se];exact rt _ h1
 have b3:root ps g Ks=true:=by rw[<- Sd];exact rt _ h2
 have C5:ra≠Ks:=λe=>hc (a2.trans (e ▸ G.El b2));have both  := (gS G G' IZ (G.El a2)).trans (U8.trans (gS G G' IZ b2));obtain⟨hi,hh,QP,Um⟩:∃hi,hi∈ps/\root ps g hi=true/\∀s∈ps,(root ps g' s=true↔root ps g s=true/\s≠hi):=by
  have main:∀lo hi,lo∈ps->hi∈ps->Bv lo hi->BS g' lo hi->(∀s∈ps,root ps g s=true->s≠hi->∀p∈ps,BS g' p s->¬ Bv p s)->∀s∈ps,(root ps g' s=true↔root ps g s=true/\s≠hi):=λlo hi hl hh lt hr key s hs=>by
   constructor
   .refine λr=>#[tY G G' IZ r,λe=>?_]
    subst e;exact BF.mp r lo hl hr lt
   .rintro⟨r,ne⟩;exact BF.mpr (key s hs r ne)
  have isA:∀s∈ps,root ps g s=true->BS g t.one s->s=ra:=λs hs r e=>(mU G a1 hs a3 r ((G.El a2).trans e)).symm;have Wf:∀s∈ps,root ps g s=true->BS g t.A4 s->s=Ks:=λs hs r e=>(mU G b1 hs b3 r ((G.El b2).trans e)).symm;have XW  := λp hp e lt=>by have:=L.least t.one h1 p hp (G.El e);rw[Se]at this;exact this lt
  have leB  := λp hp e lt=>by have:=L.least t.A4 h2 p hp (G.El e);rw[Sd]at this;exact this lt
  rcases cS ra Ks with z|z|z
  .refine#[Ks,b1,b3,main ra Ks a1 b1 z both λs hs r ne p hp e lt=>?_];rcases i6 G G' h e with w|⟨w1,w2⟩|⟨w1,w2⟩
   .exact BF.mp r p hp w lt
   .exact ne (Wf s hs r w2)
   .have:=isA s hs r w2;subst this;rcases cS p Ks with q|q|q
    .exact leB p hp w1 q
    .subst q;exact dh z lt
    .exact dh z (eO q lt)
  .exact absurd z C5
  .refine#[ra,a1,a3,main Ks ra b1 a1 z (G'.El both) λs hs r ne p hp e lt=>?_];rcases i6 G G' h e with w|⟨w1,w2⟩|⟨w1,w2⟩
   .exact BF.mp r p hp w lt
   .have:=Wf s hs r w2;subst this;rcases cS p ra with q|q|q
    .exact XW p hp w1 q
    .subst q;exact dh z lt
    .exact dh z (eO q lt)
   .exact ne (isA s hs r w2)
 unfold Gz;rw[aad,aad];have e1:ps.filter (root ps g')=(ps.filter (root ps g)).filter λs=>decide (s≠hi):=by rw[adF];refine acl λs hs=>?_;rw[aaQ,Um s hs,aaM,decide_eq_true_eq,and_comm]
 have Om:(ps.filter (root ps g)).Nodup:=nd.sublist abQ;have hm  := List.mem_filter.mpr #[hh,QP];have e2:((ps.filter (root ps g)).filter λs=>decide (s≠hi))=(ps.filter (root ps g)).erase hi:=by rw[Om.erase_eq_filter];refine acl λs _=>?_;rw[aaQ];simp
 rw[e1,e2,List.length_erase_of_mem hm];have:=aea hm;omega
open PySem L2 Q
noncomputable def Oi(c:Nat):Bool:=decide (97<=c) && decide (c<=122)
noncomputable def G2(x:Str):Bool:=decide (1<=x.length) && decide (x.length<=8) && x.cps.toList.all Oi
variable{x:Str}
def CT:G2 x=true↔Bh x:=by
 unfold G2 Oi;rw[aaM,aaM,decide_eq_true_eq,decide_eq_true_eq,abN];have e:x.length=x.cps.toList.length:=by simp[Str.length]
 rw[e];constructor
 .rintro⟨⟨a,b⟩,c⟩;exact#[a,b,λd hd=>by have:=c d hd;rw[aaM,decide_eq_true_eq,decide_eq_true_eq]at this;exact this]
 .rintro⟨a,b,c⟩;exact#[#[a,b],λd hd=>by rw[aaM,decide_eq_true_eq,decide_eq_true_eq];exact c d hd]
noncomputable def KJ(ws:A3):List Bool:=(ws.zip (ws.drop 1)).map λp=>decide (Bv p.1 p.2)
noncomputable def FK(ws:A3):Bool:=(KJ ws).all id
def Plain:PV->Prop
 |.str s=>s.length<=1000
 |.set _=>False
 |.Cq _=>False
 |_=>True
def Ii:PV->Prop
 |.tup xs=>xs.length<=1000/\∀y∈xs,Plain y
 |x=>Plain x
noncomputable def Cb:PV->Bool
 |.str x=>G2 x
 |_=>false
noncomputable def E5:PV->Bool
 |.tup xs=>xs.all Cb && FK (xs.filterMap B7)
 |_=>false
def bK:Fd:=λxs P=>∃x,xs=[x]/\Plain x/\P (.bl (Cb x))
def cK:Fd:=λxs P=>∃ws:A3,xs=[.tup (ws.map .str)]/\ws.length<=1000/\P (.bl (FK ws))
def cM:Fd:=λxs P=>∃x,xs=[x]/\Ii x/\P (.bl (E5 x))
noncomputable def Bz(q:Str×Str):PV:=.tup [.str q.1,.str q.2]
noncomputable def Ec(ps:A3)(g:Str->List (Str×Str)):PV:=.Bp (ps.map λp=>(aav p,.lst ((g p).map Bz)))
noncomputable def Hm:Option (Str×Str)->PV
 |none=>.AZ
 |some q=>Bz q
noncomputable def D1(cs:Cs):PV:=.Bp (cs.map λc=>(aav c.1,Hm c.2))
structure Nt(ps:A3)(ts:Aah):Prop where
 rise:ps.Pairwise Bv
 ne:∀t∈ts,t.one≠t.A4
 pl:ps.length<=60
 tl:ts.length<=1000
noncomputable def aA(ps:A3)(ts:Aah):A3:=(ts.filter (BD ps)).map oR.nm
def bL:Fd:=λxs P=>∃(ps:A3) (ts:Aah) (t:oR),xs=[A6 ps ts,iF t]/\P (.bl (BD ps t))
def cJ:Fd:=λxs P=>∃(ps:A3) (ts:Aah),xs=[A6 ps ts]/\ts.length<=1000/\P (.tup ((aA ps ts).map .str))
def bD:Fd:=λxs P=>∃(ps:A3) (ts:Aah),xs=[A6 ps ts]/\Nt ps ts/\P (Ec ps (Ci ps ts))
def cp:Fd:=λxs P=>∃(ps:A3) (g:Str->List (Str×Str)) (start:Str),xs=[Ec ps g,.str start]/\ps.Nodup/\start∈ps/\(∀p∈ps,∀q∈g p,q.2∈ps)/\ps.length<=1000 /\
 ∀cs,EH g start cs->(∀y∈C0 cs,y∈ps)->(∀y∈C0 cs,∀q∈g y,q.2∈C0 cs)->P (D1 cs)
def er:Fd:=λxs P=>∃(ps:A3) (g:Str->List (Str×Str)) (start:Str),xs=[Ec ps g,.str start]/\ps.Pairwise Bv/\start∈ps/\(∀p∈ps,∀q∈g p,q.2∈ps)/\ps.length<=60/\P (.tup ((ps.filter (rb g start)).map .str))
def bB:Fd:=λxs P=>∃(ps:A3) (ts:Aah),xs=[A6 ps ts]/\ts.length<=1000/\P (.lst ((ts.filter (BD ps)).map iF))
noncomputable def E8(ps ns:A3)(ts:Aah):Aah:=(ts.filter (BD ps)).filter (Bl ns)
def fT:Fd:=λxs P=>∃(ps:A3) (ts:Aah),xs=[A6 ps ts]/\Nt ps ts/\P (.tup ((Gz ps (Ci ps ts)).map λq=>.tup (q.map .str)))
variable{ps:A3}{ts:Aah}
def bJ:∀{l:Aah},(l.map oR.nm).Nodup->∀{a b:oR},a∈l->b∈l->a.nm=b.nm->a=b
 |t::l,h,a,b,ha,hb,e=>by
  rw[aaw,adt]at h;rcases List.mem_cons.mp ha with h1|h1
  .rcases List.mem_cons.mp hb with h2|h2
   .exact h1.trans h2.symm
   .exact absurd (h1 ▸ e ▸ abo (f:=oR.nm) h2) h.1
  .rcases List.mem_cons.mp hb with h2|h2
   .exact absurd (h2 ▸ e ▸ abo (f:=oR.nm) h1) h.1
   .exact bJ h.2 h1 h2 e
def nJ(ps ns:A3)(ts:Aah):Eg ps (E8 ps ns ts) (Ci ps (ts.filter (Bl ns))):=by unfold E8;rw[lO];exact pU ps _
variable{g:Str->List (Str×Str)}
def lD{g':Str->List (Str×Str)}(h:∀x y,BS g x y↔BS g' x y):Gz ps g=Gz ps g':=by
 have e1:root ps g=root ps g':=by funext s;rw[aaQ,BF,BF];exact#[λk p hp e=>k p hp ((h _ _).mpr e),λk p hp e=>k p hp ((h _ _).mp e)]
 have e2:∀s,rb g s=rb g' s:=λs=>by funext y;rw[aaQ,CQ,CQ];exact h s y
 unfold Gz;rw[e1];refine abD λs _=>?_;rw[e2]
def EC(t u:oR):Prop:=t.cost<u.cost\/(t.cost=u.cost/\Bv t.nm u.nm)
theorem x5(t:oR):¬ EC t t:=by
 rintro(h|⟨_,h⟩)
 .omega
 .exact b9 _ h
variable{t u:oR}
theorem Ak{v:oR}(h:EC t u)(k:EC u v):EC t v:=by
 rcases h with h|⟨h1,h2⟩<;>rcases k with k|⟨k1,k2⟩
 .exact .inl #[]
 .exact .inl #[]
 .exact .inl #[]
 .exact .inr #[#[],eO h2 k2]
def x4(h:t.nm≠u.nm):EC t u\/EC u t:=by
 rcases Int.lt_trichotomy t.cost u.cost with z|z|z
 .exact .inl (.inl z)
 .rcases cS t.nm u.nm with w|w|w
  .exact .inl (.inr #[z,w])
  .exact absurd w h
  .exact .inr (.inr #[z.symm,w])
 .exact .inr (.inl z)
def Al(h:EC t u):¬ EC u t:=λk=>x5 t (Ak h k)
instance (t u:oR):Decidable (EC t u):=inferInstanceAs (Decidable (t.cost<u.cost\/(t.cost=u.cost/\Bv t.nm u.nm)))
variable{os:Aah}
def Dv(h:∀u∈os,BD ps u=true):Eg ps os (Ci ps os):=by
 have:=pU ps os
 rwa [List.filter_eq_self.mpr h]at this
variable{y:Str}
def gX{F0:Aah}(h:∀u∈os,BD ps u=true)(h':∀u∈F0,BD ps u=true)(k:∀u∈os,u∈F0)(r:BS (Ci ps os) x y):BS (Ci ps F0) x y:=gS (Dv h) (Dv h') k r
noncomputable def less(os:Aah)(t:oR):Aah:=os.filter λu=>decide (u.nm≠t.nm)
def Bx:u∈less os t↔u∈os/\u.nm≠t.nm:=by unfold less;rw[ac1,decide_eq_true_eq]
def Ends(t:oR)(a c:Str):Prop:=(t.one=a/\t.A4=c)\/(t.A4=a/\t.one=c)
def Wk(os:Aah):Str->List Str->Str->Prop
 |a,[],b=>a=b
 |a,n::ns,b=>∃t∈os,t.nm=n/\∃c,Ends t a c/\Wk os c ns b
variable{a c:Str}
def Ends.sym(h:Ends t a c):Ends t c a:=by
 rcases h with ⟨h1,h2⟩|⟨h1,h2⟩
 .exact .inr #[h2,h1]
 .exact .inl #[h2,h1]
def Ends.one{d:Str}(hn:t.one≠t.A4)(h:Ends t a c)(k:Ends t a d):c=d:=by
 rcases h with ⟨h1,h2⟩|⟨h1,h2⟩<;>rcases k with ⟨k1,k2⟩|⟨k1,k2⟩
 .exact h2.symm.trans k2
 .exact absurd (h1.trans k1.symm) hn
 .exact absurd (k1.trans h1.symm) hn
 .exact h2.symm.trans k2
def Ends.two{e f:Str}(h:Ends t a c)(k:Ends t e f):(e=a/\f=c)\/(e=c/\f=a):=by
 rcases h with ⟨h1,h2⟩|⟨h1,h2⟩<;>rcases k with ⟨k1,k2⟩|⟨k1,k2⟩
 .exact .inl #[k1.symm.trans h1,k2.symm.trans h2]
 .exact .inr #[k1.symm.trans h2,k2.symm.trans h1]
 .exact .inr #[k1.symm.trans h2,k2.symm.trans h1]
 .exact .inl #[k1.symm.trans h1,k2.symm.trans h2]
variable{n:Str}
def mR:∀{l:A3},n∈l->∃p q,l=p++n::q/\n∉p
 |x::l,h=>by
  by_cases e:x=n
  .exact#[[],l,#[1],#[0]]
  .obtain⟨p,q,rfl,hp⟩:=mR ((List.mem_cons.mp h).resolve_left λz=>e z.symm);exact#[x::p,q,rfl,λz=>#[1]]
def Wk.app:∀{ns ms:A3} {a b c:Str},Wk os a ns b->Wk os b ms c->Wk os a (ns++ms) c
 |[],_,_,_,_,h,k=>by cases h;exact k
 |n::ns,_,_,_,_,#[t,ht,e,c,q,h],k=>#[t,ht,e,c,q,h.app k]
def Wk.rev:∀{ns:A3} {a b:Str},Wk os a ns b->Wk os b ns.reverse a
 |[],_,_,h=>Eq.symm h
 |n::ns,a,_,#[t,ht,e,c,q,h]=>by rw[acj];exact h.rev.app #[t,ht,e,a,q.sym,rfl]
def Wk.cut:∀{ns ms:A3} {a c:Str},Wk os a (ns++ms) c->∃b,Wk os a ns b/\Wk os b ms c
 |[],_,a,_,h=>#[a,rfl,h]
 |n::ns,_,_,_,#[t,ht,e,c,q,h]=>by obtain⟨b,h1,h2⟩:=h.cut;exact#[b,#[t,ht,e,c,q,h1],h2]
def Wk.mem:∀{ns:A3} {a b:Str},Wk os a ns b->∀n∈ns,∃t∈os,t.nm=n
 |n::ns,_,_,#[t,ht,e,c,q,h],m,hm=>by
  rcases List.mem_cons.mp hm with rfl|hm
  .exact#[t,ht,e]
  .exact h.mem m hm
def LA(os:Aah):Prop:=∀a n ns,Wk os a (n::ns) a->n∉ns->False
def mL(nd:(os.map oR.nm).Nodup)(ne:∀t∈os,t.one≠t.A4)(ac:LA os):∀{ns ms:A3} {a b:Str},Wk os a ns b->Wk os a ms b->ns.Nodup->ms.Nodup->ns=ms
 |[],[],_,_,_,_,_,_=>rfl
 |[],m::ms,a,_,h,k,_,d=>by cases h;exact(ac a m ms k (List.nodup_cons.mp d).1).elim
 |n::ns,[],a,_,h,k,d,_=>by cases k;exact(ac a n ns h (List.nodup_cons.mp d).1).elim
 |n::ns,m::ms,a,b,h,k,d1,d2=>by
  have k0:=k;obtain⟨t,ht,e1,c,q1,h⟩:=h;obtain⟨u,hu,e2,d,q2,k⟩:=k;obtain⟨n1,n2⟩:=List.nodup_cons.mp d1;obtain⟨m1,m2⟩:=List.nodup_cons.mp d2;by_cases e:m=n
  .have  := bJ nd ht hu (e1.trans (e.symm.trans e2.symm));subst this;have  := q1.one (ne t ht) q2;subst this;rw[e,mL nd ne ac h k n2 m2]
  .exfalso;by_cases hn:n∈ms
   .obtain⟨p,q,rfl,np⟩:=mR hn;obtain⟨x,w1,w2⟩:=(show Wk os a ((m::p)++n::q) b from k0).cut;obtain⟨t',KZ,e3,f,q3,_⟩:=w2;have  := bJ nd ht KZ (e1.trans e3.symm);subst this;rcases q1.two q3 with ⟨rfl,_⟩|⟨rfl,_⟩
    .exact ac _ m p w1 λz=>m1 (abt _ z)
    .refine ac a n _ #[t,ht,e1,_,q1,w1.rev] λz=>?_;rw[List.mem_reverse,aaY]at z;rcases z with z|z
     .exact e z.symm
     .exact np z
   .refine ac a n _ #[t,ht,e1,c,q1,h.app k0.rev] λz=>?_;rw[acB,List.mem_reverse,aaY]at z;rcases z with z|z|z
    .exact n1 z
    .exact e z.symm
    .exact hn z
def jh(G:Eg ps os g):∀{ns:A3} {a b:Str},Wk os a ns b->BS g a b
 |[],_,_,h=>by cases h;exact .refl
 |n::ns,a,b,#[t,ht,e,c,q,h]=>BS.trans (.step .refl ((G.mem _ _ _).mpr #[t,ht,e.symm,q])) (jh G h)
def oH:∀{ns:A3} {a b:Str},Wk os a ns b->t.nm∉ns->Wk (less os t) a ns b
 |[],_,_,h,_=>h
 |n::ns,a,b,#[u,hu,e,c,q,h],hn=>by rw[aaY,not_or]at hn;exact#[u,Bx.mpr #[hu,λz=>hn.1 (z ▸ e)],e,c,q,oH h hn.2]
variable{b:Str}{ns:A3}
def qN(w:Wk os a ns b)(d:ns.Nodup):ns.length<=os.length:=by
 have:=aI d λn hn=>by obtain⟨t,ht,e⟩:=w.mem n hn;exact List.mem_map.mpr #[t,ht,e]
 rwa [aad]at this
def gQ:Fd:=λxs P=>∃(ps:A3) (ts:Aah),xs=[A6 ps ts]/\ts.length<=1000/\(ts.map oR.nm).Nodup/\P (.Bp (ts.map λt=>(aav t.nm,.tup [.int t.cost,.str t.nm])))
variable{O:Type}{js:Aae}{P:Aal}{env:En}
theorem nT{g:WG}{fk ff:WE}(f:O->Str)(v:O->PV)(X:O->PV):∀{l done:List O},((done++l).map f).Nodup ->
  (∀a∈l,∀R:PV->PV->En->Prop,R (.str (f a)) (v a) env->g (X a) (Eb js env) λb1=>fk b1 λkk b3=>ff b3 λy b4=>R kk y (BV js env b4))->done.length+l.length<=100000 ->
  P (.Bp ((done++l).map λx=>((aav (f x):Key),v x))) env->GS g Ei fk ff js P (l.map X) env (done.map λx=>((aav (f x):Key),v x))
 |[],done,_,_,_,k=>by rw[aa0]at k;exact k
 |a::l,done,nd,h,hl,k=>by
  have Jp  :=by simpa[abZ]using hl
  refine h a #[0] (λkk y e=>(done.map _).length<=100000/\opt _ λkey=>GS g Ei fk ff js P _ e (EM _ key y)) #[by rw[aad];omega,ae rfl ?_];have hn:f a∉done.map f:=λz=>by rw[aaO,abH]at nd;exact nd.2.2 _ z _ #[0] rfl
  rw[iU hn];have e:(done.map λx=>(aav (f x),v x))++[(aav (f a),v a)]=(done++[a]).map λx=>((aav (f x):Key),v x):=by simp_all
  rw[e];refine nT f v X #[1] (λb hb=>h b (aaq _ hb)) #[3] ?_;rw[abS];exact k
def fU:Fd:=λxs P=>∃(ps ns:A3) (ts:Aah),(xs=[A6 ps ts,.tup (ns.map .str)]\/xs=[A6 ps ts,.lst (ns.map .str)])/\ts.length<=1000/\ns.length<=1000/\P (A6 ps (ts.filter (Bl ns)))
def la:Fd:=λxs P=>∃(ps:A3) (ts:Aah) (fs:A3) (one A4:Str),xs=[A6 ps ts,.tup (fs.map .str),.str one,.str A4]/\Nt ps ts/\(ts.map oR.nm).Nodup/\fs.length<=1000/\one∈ps/\A4∈ps /\
 (¬ BS (Ci ps (ts.filter (Bl fs))) A4 one->P .AZ)/\∀ns:A3,Wk (E8 ps fs ts) one ns A4->ns.Nodup->ns.length<=1000->P (.tup (ns.map .str))
def ck:Fd:=λxs P=>∃(ps:A3) (ts:Aah) (t u:oR),xs=[A6 ps ts,.str t.nm,.str u.nm]/\ts.length<=1000/\(ts.map oR.nm).Nodup/\t∈ts/\u∈ts/\P (.bl (decide (EC t u)))
def j9:(Gz ps (Ci ps [])).length=ps.length:=by
 unfold Gz;rw[aad,List.filter_eq_self.mpr λs _=>BF.mpr λp _ r=>?_];have e:p=s:=by
  cases r with
  |refl=>rfl
  |step _ h=>exact absurd h (by unfold Ci;simp)
 rw[e];exact b9 _
theorem jL(pn:ps.Nodup):∀{os:Aah},(os.map oR.nm).Nodup->(∀u∈os,BD ps u=true)->(∀u∈os,¬ BS (Ci ps (less os u)) u.one u.A4)->os.length+(Gz ps (Ci ps os)).length=ps.length
 |[],_,_,_=>by rw[j9,abl,aaG]
 |t::os,nd,o,b=>by
  rw[aaw,adt]at nd;have o'  := λu hu=>o u (aaq _ hu);have ol:less (t::os) t=os:=by unfold less;rw[List.filter_cons_of_neg #[0]];exact List.filter_eq_self.mpr λu hu=>by simp_all
  have ih:=jL pn nd.2 o' λu hu r=>b u (aaq _ hu) (gX (λv hv=>o' v (Bx.mp hv).1) (λv hv=>o v (Bx.mp hv).1) (λv hv=>Bx.mpr #[aaq _ (Bx.mp hv).1,(Bx.mp hv).2]) r);have bt:=b t aaz;rw[ol]at bt;obtain⟨o1,o2⟩:=B8.mp (o t aaz);have:=i7 pn (Dv o') (Dv o) (λu=>by rw[aaY];exact or_comm) o1 o2 bt;rw[aay];omega
noncomputable def Ek(n:Str)(l:A3):PV:=.tup [.str n,.tup (l.map .str)]
def jg:Fd:=λxs P=>∃(ps:A3) (os:Aah) (p:Str),xs=[.str p,.lst (os.map iF)]/\ps.Pairwise Bv/\ps.length<=60/\os.length<=60/\p∈ps/\(∀t∈os,BD ps t=true)/\P (.lst ((ps.filter (rb (Ci ps os) p)).map .str))
noncomputable def cB(p:Prop):Bool:=@decide p (ad2 p)
variable{p:Prop}
def bG(h:p):cB p=true:=@decide_eq_true p (ad2 p) h
def cb(h:¬ p):cB p=false:=@decide_eq_false p (ad2 p) h
def jk[DecidableEq oR]:∀{L os:Aah},L.Sublist os->os.Nodup->L=os.filter λu=>decide (u∈L):=by
 intro L os h;induction h with
 |slnil=>intro _;rfl
 |@cons l₁ l₂ a s ih=>intro nd;rw[adt]at nd;rw[List.filter_cons_of_neg (by simpa using λz=>nd.1 (s.subset z))];exact ih nd.2
 |@cons_cons l₁ l₂ a s ih=>intro nd;rw[adt]at nd;rw[List.filter_cons_of_pos #[0]];congr 1;refine(ih nd.2).trans (acl λu hu=>?_);rw[decide_eq_decide,aaY];exact#[.inr,λz=>z.resolve_left λe=>nd.1 (e ▸ hu)]
def yf{L M:Aah}(nd:os.Nodup)(h1:L.Sublist os)(h2:M.Sublist os)(e:∀u,u∈L↔u∈M):L=M:=by
 classical
 rw[jk h1 nd,jk h2 nd];exact acl λu _=>by rw[decide_eq_decide];exact e u
variable{T:Aah}
def lp(nd:(ts.map oR.nm).Nodup)(s:T.Sublist ts):ts.filter (Bl (T.map oR.nm))=T:=by
 refine yf (List.nodup_iff_pairwise_ne.mpr ((List.pairwise_map.mp (List.nodup_iff_pairwise_ne.mp nd)).imp λh e=>h (congrArg oR.nm e))) abQ s λu=>?_;rw[ac1,BZ];constructor
 .rintro⟨h1,h2⟩;obtain⟨v,hv,e⟩:=List.mem_map.mp h2;exact bJ nd (s.subset hv) h1 e ▸ hv
 .exact λh=>#[s.subset h,abo h]
def rn:∀{ws:A3},FK ws=true->ws.Pairwise Bv
 |[],_=>.nil
 |[_],_=>by simp
 |a::b::l,h=>by
  have h:(decide (Bv a b) && FK (b::l))=true:=h;rw[aaM,decide_eq_true_eq]at h;have ih:=rn h.2;refine List.pairwise_cons.mpr #[λx hx=>?_,ih];rcases List.mem_cons.mp hx with rfl|hx
  .exact h.1
  .exact eO h.1 ((List.pairwise_cons.mp ih).1 x hx)
def eM{a b:A3}(h:PV.tup (a.map .str)=.tup (b.map .str)):a=b:=by injection h with e;exact(List.map_inj_right λ_ _ h=>by injection h).mp e
def B9:cB p=true↔p:=by
 by_cases h:p
 .rw[bG h];exact#[λ_=>h,λ_=>rfl]
 .rw[cb h];exact#[λq=>(by cases q),λq=>absurd q h]
def Wy(os:Aah)(a b:Str):Prop:=∃ns,Wk os a ns b/\ns.Nodup
open Classical in
noncomputable def B4(os:Aah)(a b:Str):A3:=if h:Wy os a b then h.choose else []
def lb(h:Wy os a b):Wk os a (B4 os a b) b/\(B4 os a b).Nodup:=by unfold B4;rw[dif_pos h];exact h.choose_spec
structure Nk(ps:A3)(ts:Aah):Prop where
 ok:Gk ps ts
 pl:ps.length<=60
 tl:ts.length<=60
structure Fx(ps:A3)(ts T:Aah):Prop where
 nk:Nk ps ts
 sb:T.Sublist ts
 op:∀t∈T,BD ps t=true
 br:∀t∈T,¬ BS (Ci ps (less T t)) t.one t.A4
def Fx.nd(h:Fx ps ts T):(T.map oR.nm).Nodup:=(bn h.nk.ok).sublist (h.sb.map _)
def Fx.ne(h:Fx ps ts T):∀t∈T,t.one≠t.A4:=λt ht=>jw (h.nk.ok.tie t (h.sb.subset ht)).lt
def Fx.NW(h:Fx ps ts T):LA T:=by
 rintro a n ns ⟨t,ht,e,c,q,w⟩ hn;have oL:∀u∈less T t,BD ps u=true:=λu hu=>h.op u (Bx.mp hu).1;have r:=jh (Dv oL) (oH w (e ▸ hn));refine h.br t ht ?_;rcases q with ⟨rfl,rfl⟩|⟨rfl,rfl⟩
 .exact(Dv oL).El r
 .exact r
theorem rK(pn:ps.Nodup):∀{os:Aah},(∀u∈os,BD ps u=true)->ps.length<=os.length+(Gz ps (Ci ps os)).length
 |[],_=>by rw[j9,abl,aaG];exact aai _
 |t::os,o=>by
  have o':∀u∈os,BD ps u=true:=λu hu=>o u (aaq _ hu);have ih:=rK pn o';obtain⟨o1,o2⟩:=B8.mp (o t aaz);rw[aay];by_cases r:BS (Ci ps os) t.one t.A4
  .have e:Gz ps (Ci ps (t::os))=Gz ps (Ci ps os):=lD λx y=>#[λq=>lG pn (Dv o') (Dv o) (λu=>by rw[aaY];exact or_comm) r q,λq=>gX o' o (λu hu=>aaq _ hu) q]
   rw[e];omega
  .have:=i7 pn (Dv o') (Dv o) (λu=>by rw[aaY];exact or_comm) o1 o2 r;omega
theorem vF(pn:ps.Nodup)(nd:(T.map oR.nm).Nodup)(o:∀u∈T,BD ps u=true)(h:T.length+(Gz ps (Ci ps T)).length=ps.length):∀t∈T,¬ BS (Ci ps (less T t)) t.one t.A4:=λt ht r=>by
 have oL:∀u∈less T t,BD ps u=true:=λu hu=>o u (Bx.mp hu).1;have m:∀u,u∈T↔u∈less T t\/u=t:=λu=>by
  rw[Bx];constructor
  .intro hu;by_cases e:u.nm=t.nm
   .exact .inr (bJ nd hu ht e)
   .exact .inl #[hu,e]
  .rintro(⟨hu,_⟩|rfl)
   .exact hu
   .exact ht
 have e:Gz ps (Ci ps T)=Gz ps (Ci ps (less T t)):=lD λx y=>#[λq=>lG pn (Dv oL) (Dv o) m r q,λq=>gX oL o (λu hu=>(Bx.mp hu).1) q]
 have g:=rK pn oL;rw[<- e]at g;have l:(less T t).length<T.length:=by unfold less;exact List.length_filter_lt_length_iff_exists.mpr #[t,ht,#[0]]
 omega
theorem zk(pn:ps.Nodup)(nd:(T.map oR.nm).Nodup)(o:∀u∈T,BD ps u=true):(∀t∈T,¬ BS (Ci ps (less T t)) t.one t.A4)↔∀(i:Nat) (h:i<T.length),¬ BS (Ci ps (T.take i)) T[i].one T[i].A4:=by
 constructor
 .intro h i hi r;refine h _ (aa8 hi) (gX (λu hu=>o u (abr hu)) (λu hu=>o u (Bx.mp hu).1) (λu hu=>Bx.mpr #[abr hu,λe=>?_]) r);obtain⟨j,hj,ej⟩:=List.mem_take_iff_getElem.mp hu;have Oy:j<T.length:=by omega
  have g:(T.map oR.nm)[j]'(by rw[aad];exact Oy)=(T.map oR.nm)[i]'(by rw[aad];exact hi):=by rw[adi,adi,ej];exact e
  have:=(abk nd).mp g;omega
 .intro h;have key:∀i,i<=T.length->(T.take i).length+(Gz ps (Ci ps (T.take i))).length=ps.length:=λi=>by
   induction i with
   |zero=>intro _;rw[List.take_zero,abl,j9,aaG]
   |succ i ih=>
    intro hi;have z:=ih #[];have hi:i<T.length:=by omega
    have et:T.take (i+1)=T.take i++[T[i]]:=by rw[abC,aab hi];rfl
    obtain⟨o1,o2⟩:=B8.mp (o _ (aa8 hi));have:=i7 pn (Dv λu hu=>o u (abr hu)) (Dv (os:=T.take (i+1)) λu hu=>o u (abr hu)) (t:=T[i]) (λu=>by rw[et,acB,aeL]) o1 o2 (h i hi);rw[et,aan,adf];rw[et]at this;omega
  have k:=key T.length (aai _);rw[aa2]at k;exact vF pn nd o k
def K0:Nat->PV->Prop
 |0,_=>False
 |d+1,.tup l=>l.length<=200/\∀y∈l,K0 d y
 |d+1,.lst l=>l.length<=200/\∀y∈l,K0 d y
 |_+1,.str s=>s.length<=1000
 |_+1,.AZ=>True
 |_+1,.int _=>True
 |_+1,.bl _=>True
 |_+1,_=>False
def Kd(x:PV):Prop:=K0 8 x\/∃gE,x=.Bp gE
noncomputable abbrev Bn(T:Aah):PV:=.tup ((T.map oR.nm).map .str)
noncomputable def Jt(ps:A3)(ts:Aah)(x:PV):Bool:=cB (∃T,x=Bn T/\Fx ps ts T)
noncomputable def BC(ps:A3)(ts T:Aah):Aah:=(ts.filter (BD ps)).filter λt=>!Bl (T.map oR.nm) t
open Classical in
noncomputable def Gn(T:Aah)(t:oR):PV:=if Wy T t.one t.A4 then .tup ((B4 T t.one t.A4).map .str)else .AZ
noncomputable def CW(T:Aah)(t:oR):PV:=.tup [.str t.nm,Gn T t]
noncomputable def Cw(ps:A3)(ts T:Aah):PV:=.tup ((BC ps ts T).map (CW T))
def Gd(T:Aah)(t:oR):Prop:=Wy T t.one t.A4/\∀v∈T,v.nm∈B4 T t.one t.A4->EC v t
noncomputable def FV(ps:A3)(ts:Aah)(x y:PV):Bool:=cB (∃T,x=Bn T/\Fx ps ts T/\y=Cw ps ts T/\∀t∈BC ps ts T,Gd T t)
def DC(n:Str)(y:PV):Prop:=∃l:A3,y=Ek n l/\Bh n/\∀x∈l,Bh x
def fh(ns:A3)(y:PV):Prop:=∃ls:Aab,y=.tup ls/\ls.length=ns.length/\∀(i:Nat) (n:Str) (z:PV),ns[i]?=some n->ls[i]?=some z->DC n z
def cL:Fd:=λxs P=>∃(ps:A3) (ts:Aah) (x:PV),xs=[A6 ps ts,x]/\Nk ps ts/\Ii x/\P (.bl (Jt ps ts x))
def eh:Fd:=λxs P=>∃(ps:A3) (ts T:Aah),xs=[A6 ps ts,Bn T]/\Fx ps ts T/\P (Cw ps ts T)
def cf:Fd:=λxs P=>∃(n:Str) (y:PV),xs=[.str n,y]/\K0 7 y/\P (.bl (cB (DC n y)))
def bQ:Fd:=λxs P=>∃(ns:A3) (y:PV),xs=[.lst (ns.map .str),y]/\ns.length<=200/\Kd y/\P (.bl (cB (fh ns y)))
def bH:Fd:=λxs P=>∃(ps:A3) (ts:Aah) (x y:PV),xs=[A6 ps ts,x,y]/\Nk ps ts/\Kd x/\Kd y/\P (.bl (FV ps ts x y))
def bI:Fd:=λxs P=>∃(ps:A3) (ts:Aah) (x y:PV),xs=[A6 ps ts,x,y]/\Nk ps ts/\Kd x/\Kd y/\P (.bl (FV ps ts x y))
def bM:Fd:=λxs P=>∃(ps:A3) (ts:Aah) (x:PV),xs=[A6 ps ts,x]/\Nk ps ts/\Kd x/\P (.bl (Jt ps ts x))
def fj:Fd:=λxs P=>∃(ps:A3) (os:Aah) (one A4:Str),xs=[.lst (os.map iF),.str one,.str A4]/\(os.map oR.nm).Nodup/\os.length<=60/\(∀t∈os,t.one≠t.A4/\BD ps t=true)/\LA os/\ps.length<=60/\one∈ps/\(¬ Wy os one A4->P .AZ) /\
 ∀ns:A3,Wk os one ns A4->ns.Nodup->P (.tup (ns.map .str))
def du:Fd:=λxs P=>∃(ps:A3) (ts:Aah),xs=[A6 ps ts]/\Nk ps ts/\∀T:Aah,(∀t∈T,t∈ts)->T.length<=60->P (.lst (T.map iF))
def cN:GV:=λc xs P=>∃(F:Nat) (ps:A3) (ts T:Aah),c=.int (F:Int)/\4<=F/\xs=[A6 ps ts,Bn T]/\Nk ps ts/\(∀t∈T,t∈ts)/\T.length<=60/\∀(f:Nat) (z:PV),F<=f+4->Kd z->P z (.int (f:Int))
structure NY(rs:List (Str×A3)):Prop where
 len:rs.length<=60
 row:∀r∈rs,Bh r.1/\r.2.length<=60/\∀x∈r.2,Bh x
noncomputable abbrev JK(rs:List (Str×A3)):PV:=.tup (rs.map λr=>Ek r.1 r.2)
def fV:GV:=λc xs P=>∃(F:Nat) (rs:List (Str×A3)),c=.int (F:Int)/\4<=F/\xs=[JK rs]/\NY rs/\∀(f:Nat) (z:PV),F<=f+4->Kd z->P z (.int (f:Int))
def dI:Fd:=λxs P=>∃(ps:A3) (ts:Aah) (x:PV),xs=[A6 ps ts,x]/\Nk ps ts/\Kd x/\∀rs,NY rs->P (JK rs)
def dJ:WS :=
  (iN (C8 (GZ (CD (Cu (Ez "str" (Bj 0)))) (CD (A7 (EA HN HN (eC (.int 1)) (BE Bo (a1 (Bj 0))) (eC (.int 8)))))) (Be (eC (.bl false))) BW)
  (Be (BE CM (aS (DE (JW (eV 0)) (.nm 0) Ei (EA HN HN (eC (.str "a")) (eV 0) (eC (.str "z"))) [none]) aT))))
def cD:WS :=
  (Be (BE CM (aS (DE (Nj (aS (eV 0) (aS (HA (eV 0) (Cc (eC (.int 1))) Cd) aT))) (.tp [0,1]) Ei (lE HM (eV 0) (Bj 1)) [none,none]) aT)))
def cF:WS :=
  (iN (C8 (GZ (CD (Cu (Ez "tuple" (Bj 0)))) (CD (Cu (BE CM (aS (DE (iS (eV 0)) (.nm 0) Ei (A9 bK (aS (eV 0) aT)) [none]) aT))))) (Be (eC (.bl false))) BW)
  (Be (A9 cK (aS (eV 0) aT))))
def dL:WS :=
  (Be (Kg (lE Cz (lE iD (eV 1) (eC (.int 1))) #[13]) (lE Cz (lE iD (eV 1) (eC (.int 2))) #[13])))
def cC:WS :=
  (Be (BE aN (aS (DE (iS (lE iD (eV 0) (eC (.int 1)))) (.nm 0) (Cu (A9 bL (aS (eV 1) (aS (eV 0) aT)))) #[13] [none,some 0]) aT)))
def gc:WS :=
  (Be (Sv (iS (lE iD (eV 0) (eC (.int 1)))) (.nm 0) Ei #[13] (A8 (aS (lE iD (eV 0) (eC (.int 3))) (aS #[13] aT))) [none]))
def dM:WS :=
  (iN (Ba 3 (A9 gQ (aS (eV 0) aT)))
  (Be (lE Nc (lE iD (eV 3) (Bj 1)) (lE iD (eV 3) (Bj 2)))))
def eB:WS :=
  (iN (jX 1 (iS #[13]))
  (iN (DF (iS (lE iD (eV 0) (eC (.int 1)))) (gN 2) (C8 (Cu (A9 bL (aS (eV 0) (aS (eV 2) aT)))) (iN (eI 1 (lE iD (eV 2) (eC (.int 1))) (A8 (aS (lE iD (eV 2) (eC (.int 0))) (aS (lE iD (eV 2) (eC (.int 2))) aT))))
  (eI 1 (lE iD (eV 2) (eC (.int 2))) (A8 (aS (lE iD (eV 2) (eC (.int 0))) (aS (lE iD (eV 2) (eC (.int 1))) aT))))) BW))
  (jW 1)))
def dN:WS :=
  (iN (Ck 2 (Mh (((eV 1),(eC .AZ))::[])))
  (iN (Ck 3 (BP (aS (eV 1) aT)))
  (iN (Dn (Cu (Bj 3)) (iN (Ba 4 (G0 KO 3 aT))
  (DF (iS (lE iD (eV 0) (Bj 4))) (gT (Bb (gN 5) (Bb (gN 6) CF))) (C8 (A7 (lE C9 (eV 6) (Bj 2))) (iN (MO 2 (A8 (aS (eV 5) (aS (eV 4) aT))) (eV 6))
  (CJ (G0 aR 3 (aS (eV 6) aT)))) BW))))
  (Be (eV 2)))))
def iq:WS :=
  (Be (BE aN (aS (Dy (aS (A9 cp (aS (eV 0) (aS (eV 1) aT))) aT)) aT)))
def fq:WS :=
  (iN (Ba 1 (A9 bD (aS (eV 0) aT)))
  (iN (oU 2)
  (iN (Ck 3 (BP aT))
  (iN (DF (iS #[13]) (gN 4) (C8 (A7 (lE C9 (eV 4) (Bj 2))) (iN (Ba 5 (A9 er (aS (eV 1) (aS (eV 4) aT))))
  (iN (DF (iS (eV 5)) (gN 6) (oV 2 (eV 6)))
  (CJ (G0 aR 3 (aS (eV 5) aT))))) BW))
  (Be (BE aN (a1 (Bj 3))))))))
def mN:WS :=
  (Be (A8 (aS #[13] (aS (BE aN (aS (DE (iS (lE iD (eV 0) (eC (.int 1)))) (.nm 0) (A7 (lE Cz #[13] (Bj 1))) (eV 0) [none,some 1]) aT)) aT))))
def cE:WS :=
  (iN (C8 (CD (Cu (A9 cM (aS (eV 1) aT)))) (Be (eC (.bl false))) BW)
  (iN (Ba 2 (A9 cJ (aS (eV 0) aT)))
  (iN (C8 (CD (Cu (BE CM (aS (DE (iS (eV 1)) (.nm 0) Ei (lE Cz (eV 0) (Bj 1)) [none,some 2]) aT)))) (Be (eC (.bl false))) BW)
  (Be (lE BJ (BE Bo (aS (A9 fT (aS (A9 fU (aS (eV 0) (aS (eV 1) aT))) aT)) aT)) (lE DM (BE Bo (aS #[13] aT)) (BE Bo (a1 (Bj 1)))))))))
def oK:WS :=
  (iN (Ba 4 (A9 cp (aS (A9 bD (aS (A9 fU (aS (eV 0) (aS (eV 1) aT))) aT)) (aS (eV 3) aT))))
  (iN (C8 (A7 (lE C9 (eV 2) (Bj 4))) (Be (eC .AZ)) BW)
  (iN (Ck 5 (BP aT))
  (iN (Ba 6 (eV 2))
  (iN (Dn (A7 (lE DW (eV 6) (Bj 3))) (iN (Ha (lE iD (eV 4) (Bj 6)) (gT (Bb (gN 7) (Bb (gN 6) CF))))
  (CJ (G0 aR 5 (aS (eV 7) aT)))))
  (Be (BE aN (a1 (Bj 5)))))))))
def ip:WS :=
  (iN (Ba 2 (DE (iS (lE iD (eV 0) (eC (.int 1)))) (.nm 0) (G6 (Cu (A9 bL (aS (eV 1) (aS (eV 0) aT)))) (A7 (lE C9 #[13] (Bj 2)))) (eV 0) [none,some 0,some 1]))
  (Be (BE aN (aS (DE (iS (eV 2)) (.nm 0) Ei (A8 (aS #[13] (aS (A9 la (aS (eV 1) (aS (eV 2) (aS (lE iD (eV 0) (eC (.int 1))) (aS (lE iD (eV 0) (eC (.int 2))) aT))))) aT))) [none,some 0,some 1]) aT))))
def bX:WS :=
  (iN (C8 (GZ (CD (Cu (Ez "tuple" (Bj 1)))) (GZ (A7 (lE DW (BE Bo (a1 (Bj 1))) (eC (.int 2)))) (GZ (CD (Cu (A9 bK (aS (lE iD (eV 1) (eC (.int 0))) aT)))) (A7 (lE DW (lE iD (eV 1) (eC (.int 0))) (Bj 0)))))) (Be (eC (.bl false))) BW)
  (Be (Kg (Ez "tuple" (lE iD (eV 1) (eC (.int 1)))) (BE CM (aS (DE (iS (lE iD (eV 1) (eC (.int 1)))) (.nm 0) Ei (A9 bK (aS (eV 0) aT)) [none]) aT)))))
def bN:WS :=
  (iN (C8 (GZ (CD (Cu (Ez "tuple" (Bj 1)))) (A7 (lE DW (BE Bo (a1 (Bj 1))) (BE Bo (a1 (Bj 0)))))) (Be (eC (.bl false))) BW)
  (Be (BE CM (aS (DE (Nj (aS (eV 0) (aS (eV 1) aT))) (.tp [0,1]) Ei (A9 cf (aS (eV 0) (aS (eV 1) aT))) [none,none]) aT))))
def bE:WS :=
  (iN (C8 (CD (Cu (A9 cL (aS (eV 0) (aS (eV 1) aT))))) (Be (eC (.bl false))) BW)
  (iN (Ba 3 (A9 eh (aS (eV 0) (aS (eV 1) aT))))
  (iN (C8 (GZ (CD (Cu (A9 bQ (aS (DE (iS (eV 3)) (.nm 0) Ei #[13] [none]) (aS (eV 2) aT))))) (A7 (lE neT (eV 2) (Bj 3)))) (Be (eC (.bl false))) BW)
  (Be (BE CM (aS (NR (iS (eV 3)) (.tp [0,1]) (iS (eV 1)) 2 (A9 ck (aS (eV 3) (aS (eV 2) (aS (eV 0) aT)))) [none,none,none,some 0]) aT))))))
def dB:WS :=
  (iN (Ba 2 (eC (.str "abcdefghijklmnopqrstuvwxyz")))
  (iN (Ba 3 (Ke (eC (.str "")) (DE (KU (aS (tO aq 0 (aS (eC (.int 7)) aT)) aT)) (.nm 0) Ei (lE iD (eV 2) (tO aq 1 (aS (eC (.int 26)) aT))) [none,some 0,some 2])))
  (iN (Ba 4 (tO aq 0 (aS (lE AS (BE Bo (a1 (Bj 3))) (eC (.int 1))) aT)))
  (iN (Ba 5 (tO aq 0 (aS (eC (.int 26)) aT)))
  (iN (Ba 6 (tO aq 0 (aS (eC (.int 3)) aT)))
  (iN (Ck 7 (BP aT))
  (iN (DF (KU (aS (eV 1) aT)) (gN 8) (iN (Ba 9 (lE iD (eV 2) (lE DQ (lE AS (eV 5) (Bj 8)) (eC (.int 26)))))
  (C8 (A7 (lE BJ (eV 6) (eC (.int 2)))) (CJ (G0 aR 7 (aS (lE DP (lE iD (eV 2) (lE DQ (lE AS (eV 5) (lE Gi (eV 8) (eC (.int 8)))) (eC (.int 26)))) (lE AS (eC (.int 1)) (lE DQ (eV 8) (eC (.int 8))))) aT))) (CJ (G0 aR 7 (aS (lE AS (lE AS (Lo (eV 3) Cd (Cc (Bj 4))) (lE DP (eV 9) (lE AS (eC (.int 1)) (lE Gi (eV 8) (eC (.int 26)))))) (Lo (eV 3) (Cc (Bj 4)) Cd)) aT))))))
  (FX (Dy (a1 (Bj 7)))))))))))
def iL:WS :=
  (iN (Ba 4 (BE Bo (a1 (Bj 1))))
  (iN (C8 (A7 (lE BJ (eV 2) (eC (.int 2)))) (Ba 5 (BP (aS (lE iD (eV 1) (lE DQ (eV 3) (Bj 4))) (aS (lE iD (eV 1) (lE DQ (lE AS (eV 3) (eC (.int 1))) (Bj 4))) aT)))) (C8 (A7 (lE BJ (eV 2) (eC (.int 3)))) (iN (Ba 6 (tO aq 0 (aS (eV 4) aT)))
  (Ba 5 (BP (aS (lE iD (eV 1) (Bj 6)) (aS (lE iD (eV 1) (lE DQ (lE AS (eV 6) (eC (.int 1))) (Bj 4))) aT))))) (C8 (G6 (A7 (lE BJ (eV 2) (eC (.int 4)))) (A7 (lE J5 (eV 4) (eC (.int 3))))) (iN (Ba 7 (lE iD (BP (aS (HA (eV 1) Cd (Cc (lE Gi (eV 4) (eC (.int 2))))) (aS (HA (eV 1) (Cc (lE Gi (eV 4) (eC (.int 2)))) Cd) aT))) (tO aq 0 (aS (eC (.int 2)) aT))))
  (iN (Ba 6 (tO aq 0 (aS (BE Bo (a1 (Bj 7))) aT)))
  (Ba 5 (BP (aS (lE iD (eV 7) (Bj 6)) (aS (lE iD (eV 7) (lE DQ (lE AS (lE AS (eV 6) (eC (.int 1))) (tO aq 0 (aS (lE DM (BE Bo (a1 (Bj 7))) (eC (.int 1))) aT))) (BE Bo (a1 (Bj 7))))) aT)))))) (iN (Ba 6 (tO aq 0 (aS (eV 4) aT)))
  (Ba 5 (BP (aS (lE iD (eV 1) (Bj 6)) (aS (lE iD (eV 1) (lE DQ (lE AS (lE AS (eV 6) (eC (.int 1))) (tO aq 0 (aS (lE DM (eV 4) (eC (.int 1))) aT))) (Bj 4))) aT))))))))
  (Be (BE aN (aS (Dy (a1 (Bj 5))) aT)))))
def mO:WS :=
  (iN (C8 (A7 (lE BJ (eV 1) (eC (.int 0)))) (Be (lE DM (tO aq 0 (aS (eC (.int 3)) aT)) (eC (.int 1)))) BW)
  (iN (C8 (A7 (lE BJ (eV 1) (eC (.int 1)))) (Be (lE DM (tO aq 0 (aS (eC (.int 60)) aT)) (eC (.int 30)))) BW)
  (iN (C8 (A7 (lE BJ (eV 1) (eC (.int 2)))) (Be (lE iD (BP (aS (lE DM (lE Fb (eC (.int 10)) (eC (.int 30))) (eC (.int 1))) (aS (lE DM (eC (.int 1)) (lE Fb (eC (.int 10)) (eC (.int 30)))) (aS (eC (.int 0)) (aS (lE AS (lE Fb (eC (.int 10)) (eC (.int 29))) (tO aq 0 (aS (eC (.int 3)) aT))) aT))))) (tO aq 0 (aS (eC (.int 4)) aT)))) BW)
  (Be (eC (.int 7))))))
def jO:WS :=
  (iN (Ck 3 (tO cA 0 (aS (lE AS (eC (.int 2)) (lE iD (BP (aS (tO aq 0 (aS (lE AS (eV 1) (eC (.int 1))) aT)) (aS (eV 1) aT))) (BE Ge (aS (lE BJ (tO aq 0 (aS (eC (.int 8)) aT)) (eC (.int 0))) aT)))) aT)))
  (iN (Ba 4 (DE (KU (aS (eC (.int 2)) aT)) (.nm 0) Ei (G0 Fg 2 (aS (tO aq 1 (aS (BE Bo (a1 (Bj 2))) aT)) aT)) [none,some 0,some 3]))
  (iN (Ba 5 (Dy (aS (EU AS 3 (lE DP (eV 4) (BE Ge (aS (lE BJ (tO aq 0 (aS (eC (.int 3)) aT)) (eC (.int 0))) aT)))) aT)))
  (iN (Ba 6 (lE DP (lE iD (BP (aS (tO aq 0 (aS (eC (.int 9)) aT)) (aS (tO aq 0 (aS (lE AS (eV 2) (eC (.int 1))) aT)) (aS (eV 2) aT)))) (tO aq 0 (aS (eC (.int 3)) aT))) (BE Ge (aS (lE J5 (BE Bo (a1 (Bj 5))) (eC (.int 1))) aT))))
  (iN (MP 7 8 (aS (tO aq 0 (aS (eC (.int 6)) aT)) (aS (tO aq 0 (aS (eC (.int 4)) aT)) aT)))
  (iN (Ck 9 (BP aT))
  (iN (DF (iE (aS (tO cA 0 (aS (eV 6) aT)) aT)) (gT (Bb (gN 10) (Bb (gN 11) CF))) (CJ (G0 aR 9 (aS (lE AS (lE AS (A8 (aS (eV 11) aT)) (tO fW 0 (aS (eV 5) (aS (eV 7) (aS (eV 10) aT))))) (A8 (aS (tO fX 0 (aS (eV 8) aT)) aT))) aT))))
  (Be (A8 (aS (BE aN (a1 (Bj 3))) (aS (BE aN (a1 (Bj 9))) aT)))))))))))
def iK:WS :=
  (FX (DE (iS (lE iD (eV 0) (eC (.int 1)))) (.nm 0) (G6 (A7 (lE Cz (lE iD (eV 0) (eC (.int 1))) (lE iD (eV 1) (eC (.int 0))))) (A7 (lE Cz (lE iD (eV 0) (eC (.int 2))) (lE iD (eV 1) (eC (.int 0)))))) (eV 0) [none,some 0]))
def fu:WS :=
  (iN (Ck 2 (BP (aS (eV 0) aT)))
  (iN (Ba 3 (eC (.int 0)))
  (iN (Dn (A7 (lE HM (eV 3) (BE Bo (a1 (Bj 2))))) (iN (Ba 3 (BE Bo (a1 (Bj 2))))
  (DF (iS (eV 1)) (gT (Bb (gN 4) (Bb (gN 5) (Bb (gN 6) (Bb (gN 7) CF))))) (C8 (A7 (lE DW (lE Cz (eV 5) (Bj 2)) (lE Cz (eV 6) (Bj 2)))) (CJ (G0 aR 2 (aS (Lp (A7 (lE Cz (eV 5) (Bj 2))) (eV 6) (eV 5)) aT))) BW))))
  (FX (Dy (a1 (Bj 2)))))))
def cY:WS :=
  (iN (Ck 1 (BE EB (aS (DE (TL (aS #[13] aT)) (.tp [0,1]) Ei (A8 (aS (eV 1) (aS (eV 0) aT))) [none,none]) aT)))
  (iN (Ck 2 (BP aT))
  (iN (DF (iS (Ic (aS (DE (iS (A9 bB (aS (eV 0) aT))) (.nm 0) Ei (A8 (aS (lE iD (eV 0) (eC (.int 3))) (aS #[13] (aS (eV 0) aT)))) [none]) aT))) (gT (Bb (gN 3) (Bb (gN 4) (Bb (gN 5) CF)))) (iN (Ha (A8 (aS (EU iD 1 (lE iD (eV 5) (eC (.int 1)))) (aS (EU iD 1 (lE iD (eV 5) (eC (.int 2)))) aT))) (gT (Bb (gN 6) (Bb (gN 7) CF))))
  (C8 (A7 (lE DW (eV 6) (Bj 7))) (iN (CJ (G0 aR 2 (aS (eV 5) aT)))
  (Ck 1 (BE EB (aS (DE (hJ 1) (.tp [0,1]) Ei (A8 (aS (eV 0) (aS (Lp (A7 (lE BJ (eV 1) (Bj 2))) (eV 3) (eV 1)) aT))) [none,none,some 6,some 7]) aT)))) BW)))
  (Be (Ib (a1 (Bj 2)))))))
def jN:WS :=
  (iN (Ck 3 (BP (aS (A8 (aS (eV 1) (aS (A8 aT) aT))) aT)))
  (iN (Ba 4 (eC (.int 0)))
  (iN (Dn (A7 (lE HM (eV 4) (BE Bo (a1 (Bj 3))))) (iN (Ha (EU iD 3 (Bj 4)) (gT (Bb (gN 5) (Bb (gN 6) CF))))
  (iN (C8 (A7 (lE BJ (eV 5) (Bj 2))) (Be (eV 6)) BW)
  (iN (DF (iS (eV 0)) (gT (Bb (gN 7) (Bb (gN 8) (Bb (gN 9) (Bb (gN 10) CF))))) (C8 (G6 (A7 (lE C9 (eV 7) (Bj 6))) (A7 (lE Cz (eV 5) (A8 (aS (eV 8) (aS (eV 9) aT)))))) (CJ (G0 aR 3 (aS (A8 (aS (Lp (A7 (lE BJ (eV 5) (Bj 8))) (eV 9) (eV 8)) (aS (lE AS (eV 6) (A8 (aS (eV 7) aT))) aT))) aT))) BW))
  (Ba 4 (lE AS (eV 4) (eC (.int 1))))))))
  (Be (eC .AZ)))))
def cH:WS :=
  (iN (Ba 2 (BE EB (aS (DE (iS (A9 bB (aS (eV 0) aT))) (.nm 0) Ei (A8 (aS #[13] (aS (eV 0) aT))) [none]) aT)))
  (iN (C8 (GZ (CD (Cu (Ez "tuple" (Bj 1)))) (CD (Cu (BE CM (aS (DE (iS (eV 1)) (.nm 0) Ei (Kg (Ez "str" (Bj 0)) (lE Cz (eV 0) (Bj 1))) [none,some 2]) aT))))) (Be (eC (.bl false))) BW)
  (iN (C8 (A7 (lE Oj (BE Ds (a1 (Bj 1))) (lR (a1 (Bj 1))))) (Be (eC (.bl false))) BW)
  (iN (Ck 3 (BP aT))
  (iN (DF (iS (eV 1)) (gN 4) (iN (C8 (A7 (lE Cz (lE iD (lE iD (eV 2) (Bj 4)) (eC (.int 2))) (Kf jg (lE iD (lE iD (eV 2) (Bj 4)) (eC (.int 1))) 3))) (Be (eC (.bl false))) BW)
  (CJ (G0 aR 3 (aS (lE iD (eV 2) (Bj 4)) aT)))))
  (Be (eC (.bl true))))))))
def bF:WS :=
  (iN (C8 (CD (Cu (A9 bM (aS (eV 0) (aS (eV 1) aT))))) (Be (eC (.bl false))) BW)
  (iN (Ba 3 (DE (iS (A9 bB (aS (eV 0) aT))) (.nm 0) (A7 (lE Cz #[13] (Bj 1))) (eV 0) [none,some 1]))
  (iN (Ba 4 (DE (iS (A9 bB (aS (eV 0) aT))) (.nm 0) (A7 (lE C9 #[13] (Bj 1))) (eV 0) [none,some 1]))
  (iN (C8 (GZ (CD (Cu (Ez "tuple" (Bj 2)))) (A7 (lE DW (BE Bo (a1 (Bj 2))) (BE Bo (a1 (Bj 4)))))) (Be (eC (.bl false))) BW)
  (iN (DF (Nj (aS (eV 4) (aS (eV 2) aT))) (gT (Bb (gN 5) (Bb (gN 6) CF))) (iN (C8 (GZ (CD (Cu (Ez "tuple" (Bj 6)))) (GZ (A7 (lE DW (BE Bo (a1 (Bj 6))) (eC (.int 2)))) (GZ (A7 (lE Oj (lE iD (eV 6) (eC (.int 0))) (lE iD (eV 5) (eC (.int 0))))) (CD (Cu (Ez "tuple" (lE iD (eV 6) (eC (.int 1))))))))) (Be (eC (.bl false))) BW)
  (iN (C8 (A7 (lE Oj (lE iD (eV 6) (eC (.int 1))) (A9 fj (aS (eV 3) (aS (lE iD (eV 5) (eC (.int 1))) (aS (lE iD (eV 5) (eC (.int 2))) aT)))))) (Be (eC (.bl false))) BW)
  (C8 (Cu (BE II (aS (DE (iS (eV 3)) (.nm 0) (A7 (lE Cz #[13] (lE iD (eV 2) (eC (.int 1))))) (lE UW (A8 (aS (lE iD (eV 0) (eC (.int 3))) (aS #[13] aT))) (A8 (aS (lE iD (eV 1) (eC (.int 3))) (aS (lE iD (eV 1) (eC (.int 0))) aT)))) [none,some 5,some 6]) aT))) (Be (eC (.bl false))) BW))))
  (Be (eC (.bl true))))))))
def cG:WS :=
  (iN (Ba 3 (DE (iS (lE iD (eV 1) (eC (.int 1)))) (.nm 0) Ei #[13] [none]))
  (iN (Ba 4 (Lp (A7 (lE DW (eV 3) (BP aT))) (BP (aS (lE iD (eV 3) (tO aq 0 (aS (BE Bo (a1 (Bj 3))) aT))) aT)) (BP aT)))
  (iN (Ba 5 (tO aq 0 (aS (lE AS (BE Bo (a1 (Bj 2))) (eC (.int 1))) aT)))
  (iN (Ba 6 (lE AS (HA (eV 2) Cd (Cc (Bj 5))) (HA (eV 2) (Cc (lE AS (eV 5) (eC (.int 1)))) Cd)))
  (iN (Ba 7 (BP (aS (eC .AZ) (aS (BE Ds (a1 (Bj 2))) (aS (eC (.str "tree")) (aS (eC (.int 0)) (aS (lE AS (eV 2) (HA (eV 2) Cd (Cc (eC (.int 1))))) (aS (Mg Hb (eV 2)) (aS (lE AS (eV 2) (A8 (aS (eC (.str "zzzz")) aT))) (aS (A8 (aS (eV 2) aT)) (aS (lE AS (eV 2) (A8 (aS (eC (.int 0)) aT))) aT)))))))))))
  (iN (Ba 7 (lE AS (eV 7) (BP (aS (eC (.Bp [])) (aS (A8 (aS (eC .AZ) aT)) (aS (lE AS (eV 2) (A8 (aS (eC .AZ) aT))) aT))))))
  (iN (Ba 8 (BP (aS (eV 2) (aS (eV 2) (aS (eV 6) (aS (BE aN (aS (jb (aS (lE AS (BE Ds (a1 (Bj 2))) (Bj 4)) aT)) aT)) (aS (BE aN (aS (jb (aS (lE AS (BE Ds (a1 (Bj 6))) (Bj 4)) aT)) aT)) aT)))))))
  (iN (Ba 8 (lE AS (eV 8) (BP (aS (lE iD (eV 8) (eC (.int 4))) (aS (lE iD (eV 8) (eC (.int 4))) (aS (lE iD (eV 7) (tO aq 0 (aS (BE Bo (a1 (Bj 7))) aT))) aT))))))
  (Be (lE iD (eV 8) (tO aq 0 (aS (BE Bo (a1 (Bj 8))) aT))))))))))))
def ft:WS :=
  (iN (Ba 1 (BE aN (a1 (Bj 1))))
  (iN (Ba 2 (BP (aS (A8 aT) (aS (eC .AZ) (aS (BE Ds (a1 (Bj 1))) (aS (Mg Hb (eV 1)) (aS (lE AS (eV 1) (HA (eV 1) Cd (Cc (eC (.int 1))))) (aS (HA (eV 1) (Cc (eC (.int 1))) Cd) (aS (A8 (aS (eV 1) aT)) (aS (eC (.str "")) (aS (eC (.int 0)) (aS (BE GR (a1 (Bj 1))) aT))))))))))))
  (iN (Ba 2 (lE AS (eV 2) (BP (aS (A8 (aS (A8 (aS (eC (.str "a")) (aS (A8 aT) aT))) aT)) (aS (A8 (aS (A8 aT) aT)) (aS (A8 (aS (eC .AZ) aT)) (aS (lE AS (eV 1) (A8 (aS (A8 (aS (eC (.str "zzzz")) (aS (A8 aT) aT))) aT))) aT)))))))
  (iN (C8 (GZ (A7 (lE BJ (eV 1) (A8 aT))) (A7 (lE BJ (tO aq 0 (aS (eC (.int 3)) aT)) (eC (.int 0))))) (Be (lE iD (eV 2) (tO aq 0 (aS (BE Bo (a1 (Bj 2))) aT)))) BW)
  (iN (Ba 3 (tO aq 0 (aS (BE Bo (a1 (Bj 1))) aT)))
  (iN (Ha (lE iD (eV 1) (Bj 3)) (gT (Bb (gN 4) (Bb (gN 5) CF))))
  (iN (Ba 6 (lE iD (eV 1) (tO aq 0 (aS (BE Bo (a1 (Bj 1))) aT))))
  (iN (Ba 7 (BP (aS (A8 (aS (eV 4) (aS (Mg Hb (eV 5)) aT))) (aS (A8 (aS (eV 4) (aS (HA (eV 5) (Cc (eC (.int 1))) Cd) aT))) (aS (A8 (aS (eV 4) (aS (HA (eV 5) Cd (Cc (Mg Iy (eC (.int 1))))) aT))) (aS (A8 (aS (eV 4) (aS (lE AS (eV 5) (HA (eV 5) Cd (Cc (eC (.int 1))))) aT))) (aS (A8 (aS (eV 4) (aS (BE Ds (a1 (Bj 5))) aT))) aT)))))))
  (iN (Ba 7 (lE AS (eV 7) (BP (aS (BP (aS (eV 4) (aS (eV 5) aT))) (aS (A8 (aS (eV 4) aT)) (aS (A8 (aS (eV 4) (aS (eV 5) (aS (A8 aT) aT)))) (aS (A8 (aS (eV 5) (aS (eV 4) aT))) (aS (A8 (aS (eC .AZ) (aS (eV 5) aT))) (aS (A8 (aS (eV 4) (aS (eC .AZ) aT))) (aS (A8 (aS (eV 4) (aS (A8 (aS (eC (.int 0)) aT)) aT))) aT))))))))))
  (iN (Ba 7 (lE AS (eV 7) (BP (aS (A8 (aS (eV 4) (aS (lE AS (eV 5) (A8 (aS (eC (.str "zzzz")) aT))) aT))) (aS (A8 (aS (lE AS (eV 4) (eC (.str "z"))) (aS (eV 5) aT))) (aS (A8 (aS (lE iD (eV 6) (eC (.int 0))) (aS (eV 5) aT))) (aS (A8 (aS (eV 4) (aS (lE iD (eV 6) (eC (.int 1))) aT))) (aS (A8 (aS (eV 4) (aS (A8 (aS (eV 5) aT)) aT))) aT))))))))
  (iN (Ba 7 (lE AS (eV 7) (BP (aS (A8 (aS (eV 4) (aS (A8 aT) aT))) (aS (A8 (aS (eV 4) (aS (eV 4) aT))) (aS (A8 (aS (eC (.bl true)) (aS (eV 5) aT))) aT))))))
  (Be (lE AS (lE AS (HA (eV 1) Cd (Cc (Bj 3))) (A8 (aS (lE iD (eV 7) (tO aq 0 (aS (BE Bo (a1 (Bj 7))) aT))) aT))) (HA (eV 1) (Cc (lE AS (eV 3) (eC (.int 1)))) Cd))))))))))))))
def gf:WS :=
  (iN (C8 (CD (Cu (A9 bM (aS (eV 0) (aS (eV 1) aT))))) (Ba 1 (A8 aT)) BW)
  (iN (Ba 2 (DE (iS (A9 bB (aS (eV 0) aT))) (.nm 0) (A7 (lE Cz #[13] (Bj 1))) (eV 0) [none,some 1]))
  (iN (Ba 3 (DE (iS (A9 bB (aS (eV 0) aT))) (.nm 0) (A7 (lE C9 #[13] (Bj 1))) (eV 0) [none,some 1]))
  (Be (BE aN (aS (DE (iS (eV 3)) (.nm 0) Ei (A8 (aS #[13] (aS (Rr (A9 fj (aS (eV 1) (aS (lE iD (eV 0) (eC (.int 1))) (aS (lE iD (eV 0) (eC (.int 2))) aT)))) (A8 aT)) aT))) [none,some 2]) aT))))))
def gR:WS :=
  (iN (Q.eJ 1 0)
  (iN (DF (KU (aS (eC (.int 2)) aT)) (gN 2) (iN (Ba 3 (tO fm 1 (aS (eC (.int 12)) (aS (eC (.int 30)) aT))))
  (iN (Ba 4 (BE aN (aS (DE (iS (A9 du (aS (eV 3) aT))) (.nm 0) Ei #[13] [none]) aT)))
  (iN (Ck 5 (BP (aS (A8 (aS (eV 4) (aS (A9 dI (aS (eV 3) (aS (eV 4) aT))) aT))) aT)))
  (iN (DF (KU (aS (eC (.int 6)) aT)) (gN 6) (iN (Ba 7 (tO cN 1 (aS (eV 3) (aS (eV 4) aT))))
  (iN (Ba 8 (A9 dI (aS (eV 3) (aS (eV 7) aT))))
  (iN (C8 (A7 (lE BJ (tO aq 1 (aS (eC (.int 2)) aT)) (eC (.int 0)))) (Ba 8 (tO fV 1 (aS (eV 8) aT))) BW)
  (CJ (G0 aR 5 (aS (A8 (aS (eV 7) (aS (eV 8) aT))) aT)))))))
  (DF (iS (EU AS 5 (HA (eV 5) Cd (Cc (eC (.int 1)))))) (gT (Bb (gN 7) (Bb (gN 8) CF))) (iN (Ba 9 (A9 bH (aS (eV 3) (aS (eV 7) (aS (eV 8) aT)))))
  (C8 (GZ (CD (Cu (Ez "bool" (Bj 9)))) (A7 (lE DW (eV 9) (A9 bI (aS (eV 3) (aS (eV 7) (aS (eV 8) aT))))))) (Be (eC (.bl false))) BW))))))))
  (Be (eC (.bl true)))))
def bc(i j:Int):BJ (.int i) (.int j)=some (.bl (decide (i=j))):=rfl
variable{i j:Int}
def cu(h:0<j):DQ (.int i) (.int j)=some (.int (i % j)):=if_pos (decide_eq_true h)
def jE(h:0<j)(h2:j<1073741824):Gi (.int i) (.int j)=some (.int (i / j)):=if_pos #[1]
def yM(h : -(2 ^ 64)<j)(h2:j<2 ^ 64):DP (.int i) (.int j)=some (.int (i*j)):=if_pos (by unfold NT;simp only[ael,aaM,decide_eq_true_eq];exact .inr #[h,h2])
def rD(h:(decide (0<=j) && decide (j<=1000000) && decide (i.natAbs<2 ^ 64))=true):Fb (.int i) (.int j)=some (.int (i ^ j.toNat)):=if_pos h
def eD:DM (.int i) (.int j)=some (.int (i - j)):=rfl
def aM:AS (.int i) (.int j)=some (.int (i+j)):=rfl
variable{k:Nat}
def n6(h:i=k)(hk:k<26):iD (.str Mp) (.int i)=some (.str (ch k)):=by subst h;show (if Mp.length<=100000 then (Ih Mp.cps.toList _).map _ else none)=_;rw[ak (An k hk)];rfl
def oX(b m:Nat):(Gx (ch b) m).length=m:=by have:=congrArg acD (mY b m);rw[abd]at this;show (Gx _ m).cps.size=m;exact this
def pq(x y:Str):(x++y).length=x.length+y.length:=by exact Array.size_append
def add_str(h:x.length+y.length<=100000):AS (.str x) (.str y)=some (.str (x++y)):=if_pos h
variable{m:Nat}
theorem sj{b:Nat}(h:i=m)(hm:m<=1000):DP (.str (ch b)) (.int i)=some (.str (Gx (ch b) m)):=by
 subst h;refine(if_pos #[#[],#[],?_]).trans ?_
 .rw[show ((m:Int)).toNat=m by omega]
 .show 1<=1000;decide
theorem gy{n j:Nat}{x:PV}(h:(FJ 0 n)[j]?=some x):j<n/\x=.int j:=by
 unfold FJ at h;rw[aaj]at h;rcases aaS j n with z|z
 .rw[acq z]at h;refine#[z,?_];have:x=.int (0+j):=by simp_all
  rw[this];congr 1;omega
 .rw[aam #[1]]at h;cases h
def cP(n:Nat):(FJ 0 n).length=n:=by unfold FJ;rw[aad,ack]
variable{F:Nat}
theorem dr{m:Int}{P:Aap}(hF:1<=F)(h0:0<m)(h1:m<1073741824)(k:∀f r:Nat,f+1=F->(r:Int)<m->P (.int r) (.int (f:Int))):aq (.int (F:Int)) [.int m] P:=by
 obtain⟨f,rfl⟩:∃f,F=f+1:=#[F - 1,#[]]
 exact draw h0 h1 λr hr=>k f r rfl hr
theorem ut(c:PV)(xs:Aab)(P:Aap)(h:fX c xs P):Q.HI 2 mO c xs P:=by
 obtain⟨f,q,rfl,rfl,h⟩:=h;generalize hF:f+2=F;refine ag λN hN=>?_;lia;refine ae (bc _ _) ?_;lia;split
 .exact dr #[] #[2] #[2] λf1 r h1 hr=>ae eD (h _ f1 #[] #[] #[])
 subst hN;refine ag λN hN=>?_;lia;refine ae (bc _ _) ?_;lia;split
 .exact dr #[] #[2] #[2] λf1 r h1 hr=>ae eD (h _ f1 #[] #[] #[])
 subst hN;refine ag λN hN=>?_;lia;refine ae (bc _ _) ?_;lia;split
 .have c30:(10:Int) ^ (30:Int).toNat=10 ^ 30:=rfl;have c29:(10:Int) ^ (29:Int).toNat=10 ^ 29:=rfl;have pw:Fb (.int 10) (.int 30)=some _:=(rD (rfl)).trans (rfl);have XJ:Fb (.int 10) (.int 29)=some _:=(rD (rfl)).trans (rfl);refine ae pw (ae eD (ae pw (ae eD (ae XJ ?_))));refine dr #[] #[2] #[2] λf1 r h1 hr=>ae aM ?_;refine dr #[] #[2] #[2] λf2 x h2 hx=>?_
  match x,hx with
  |0,_=>exact ae (ak rfl) (h _ f2 #[] #[] #[])
  |1,_=>exact ae (ak rfl) (h _ f2 #[] #[] #[])
  |2,_=>exact ae (ak rfl) (h _ f2 #[] #[] #[])
  |3,_=>exact ae (ak rfl) (h _ f2 #[] #[] #[])
  |n+4,h=>omega
 subst hN;lia;exact h 7 F #[] #[] #[]
theorem turn(x d t:Int)(h0:0<t)(h1:0<=x)(h2:x<t)(h3:0<=d)(h4:d<t - 1):0<=(x+1+d) % t/\(x+1+d) % t<t/\x≠(x+1+d) % t:=by
 refine#[acE _ #[],ace _ h0,λe=>?_];have q:=Int.emod_add_mul_ediv (x+1+d) t;have  :=by omega
 generalize (x+1+d) / t=y at this;rcases(show y<=0\/1<=y by omega)with z|z
 .have:t*y<=0:=Int.mul_nonpos_of_nonneg_of_nonpos #[] #[];omega
 .have:t*1<=t*y:=Int.mul_le_mul_of_nonneg_left z #[];omega
noncomputable def E4(ws:A3)(i:Int):Str:=ws.getD i.toNat #[#v[]]
variable{ws:A3}
theorem dH(h0:0<=i)(h1:i<ws.length):iD (.lst (ws.map .str)) (.int i)=some (.str (E4 ws i)):=by
 obtain⟨n,rfl⟩:∃n:Nat,i=n:=#[i.toNat,#[]]
 have hn:n<ws.length:=by omega
 refine ak ?_;unfold E4;rw[aaj,aau,show ((n:Int)).toNat=n by omega,aab hn];rfl
theorem jM(h0:0<=i)(h1:i<ws.length):E4 ws i∈ws:=by unfold E4;rw[aau,aab #[]];exact aa8 _
theorem AW(nd:ws.Nodup)(h0:0<=i)(h1:i<ws.length)(k0:0<=j)(k1:j<ws.length)(h:i≠j):E4 ws i≠E4 ws j:=λe=>by unfold E4 at e;rw[aau,aau,aab #[],aab #[]]at e;have:=(abk nd).mp e;omega
theorem ur(c:PV)(xs:Aab)(P:Aap)(h:fW c xs P):Q.HI 8 iL c xs P:=by
 obtain⟨f,ws,st,k,rfl,rfl,w2,VM,nd,h⟩:=h;generalize hF:f+4=F;have m0:(0:Int)<(ws.length:Int):=by omega
 unfold iL;refine ag λN hN=>?_;lia;rw[aad];subst hN;refine ag λN hN=>?_;have fin:∀(us:A3) (i j:Int) (F':Nat) (e6 e7:Aaq),f<=F'->us.Nodup->(∀x∈us,x∈ws)->0<=i->i<us.length->0<=j->j<us.length->i≠j->N [some #[2,.int (F':Int)],some #[0,.lst (ws.map .str)],some #[0,.int st],some #[0,.int k],some #[0,.int (ws.length:Int)],some #[0,.lst [.str (E4 us i),.str (E4 us j)]],e6,e7]:=by
  intro us i j F' e6 e7 Ky SK uw i0 i1 j0 j1 ij;subst hN;lia;refine#[[E4 us i,E4 us j],rfl,(by show 2<64;decide),λss up=>ae rfl ?_];obtain⟨u,v,rfl,uv,hu,hv⟩:=ye up.1 up.2 (AW SK i0 i1 j0 j1 ij);refine h u v F' Ky ?_ ?_ uv
  .rcases hu with e|e<;>rw[e]
   .exact uw _ (jM i0 i1)
   .exact uw _ (jM j0 j1)
  .rcases hv with e|e<;>rw[e]
   .exact uw _ (jM i0 i1)
   .exact uw _ (jM j0 j1)
 refine eT λA B hA hB=>?_;lia;refine ae (bc _ _) ?_;lia;split
 .subst hA;lia;have a0:0<=k % (ws.length:Int):=acE _ #[];have a1:k % (ws.length:Int)<ws.length:=ace _ m0;have t:=turn (k % ws.length) 0 ws.length m0 a0 a1 #[] #[];have b0:0<=(k+1) % (ws.length:Int):=acE _ #[];have b1:(k+1) % (ws.length:Int)<ws.length:=ace _ m0;refine ae (cu m0) (ae (dH a0 a1) (ae aM (ae (cu m0) (ae (dH b0 b1) ?_))));refine fin ws _ _ F none none #[] nd (λx hx=>hx) a0 a1 b0 b1 λe=>t.2.2 (e.trans ?_);rw[Int.add_zero,Int.emod_add_emod]
 subst hB;refine eT λA B hA hB=>?_;lia;refine ae (bc _ _) ?_;lia;split
 .subst hA;refine ag λN' FN=>?_;lia;refine dr #[] m0 #[] λf1 r h1 hr=>?_;try lia
  subst FN;lia;have t:=turn (r:Int) 0 ws.length m0 #[] hr #[] #[];rw[Int.add_zero]at t;refine ae (dH #[] hr) (ae aM (ae (cu m0) (ae (dH t.1 t.2.1) ?_)));exact fin ws _ _ f1 _ none #[] nd (λx hx=>hx) #[] hr t.1 t.2.1 t.2.2
 subst hB;refine eT λA B hA hB=>?_;have last:B {Ln P with nx:=N} [some #[2,.int (F:Int)],some #[0,.lst (ws.map .str)],some #[0,.int st],some #[0,.int k],some #[0,.int (ws.length:Int)],none,none,none]:=by
  subst hB;refine ag λN' FN=>?_;lia;refine dr #[] m0 #[] λf1 r h1 hr=>?_;try lia
  subst FN;lia;refine ae (dH #[] hr) (ae aM (ae eD ?_));refine dr #[] #[] #[] λf2 d h2 hd=>?_;have t:=turn (r:Int) d ws.length m0 #[] hr #[] hd;try lia
  refine ae aM (ae (cu m0) (ae (dH t.1 t.2.1) ?_));exact fin ws _ _ f2 _ none #[] nd (λx hx=>hx) #[] hr t.1 t.2.1 t.2.2
 lia;refine ae (bc _ _) ?_;lia;by_cases c1:st=4;case neg=>rw[decide_eq_false c1];exact last
 rw[decide_eq_true c1];lia;by_cases c2:(3:Int)<ws.length;case neg=>rw[decide_eq_false c2];exact last
 rw[decide_eq_true c2];lia;subst hA;refine ag λN' FN=>?_;lia;have hd2:(ws.length:Int) / 2=((ws.length / 2:Nat):Int):=by omega
 refine ae (jE #[2] #[2]) ?_;rw[hd2];lia;refine ae (jE #[2] #[2]) ?_;rw[hd2];lia;rw[pN,gK,<- aeM,<- aeN];refine dr #[] #[2] #[2] λf1 r h1 hr=>?_;obtain⟨us,e,u2,SK,uw,u60⟩:∃us:A3,iD (.lst [.lst ((ws.take (ws.length / 2)).map .str),.lst ((ws.drop (ws.length / 2)).map .str)]) (.int r)=some (.lst (us.map .str))/\2<=us.length/\us.Nodup/\(∀x∈us,x∈ws)/\us.length<=60:=by
  match r,hr with
  |0,_=>exact#[ws.take (ws.length / 2),ak (j:=0) rfl,by rw[abp];omega,nd.sublist (List.take_sublist _ _),λx hx=>abr hx,by rw[abp];omega]
  |1,_=>exact#[ws.drop (ws.length / 2),ak (j:=1) rfl,by rw[ab8];omega,nd.sublist (List.drop_sublist _ _),λx hx=>adk hx,by rw[ab8];omega]
  |n+2,h=>omega
 refine ae e ?_;try lia
 subst FN;have u0:(0:Int)<us.length:=by omega
 refine ag λN' FN=>?_;lia;rw[aad];refine dr #[] u0 #[] λf2 x h2 hx=>?_;try lia
 subst FN;lia;rw[aad];refine ae (dH #[] hx) (ae aM (ae eD ?_));refine dr #[] #[] #[] λf3 d h3 hd=>?_;have t:=turn (x:Int) d us.length u0 #[] hx #[] hd;try lia
 refine ae aM ?_;try lia
 try rw[aad]
 refine ae (cu u0) (ae (dH t.1 t.2.1) ?_);exact fin us _ _ f3 _ _ #[] SK uw #[] hx t.1 t.2.1 t.2.2
def sx(x:Str):x.length=x.cps.toList.length:=rfl
def tT{a:Nat}(h:a<=x.length):(adr x none (some (a:Int))).cps.toList=x.cps.toList.take a:=by
 unfold adr;rw[StrLaws.sliceIdx_none_lo];have e:=afb (abg _) h;have e2:=StrLaws.sliced_plain x (abg _) h;by_cases c:a=x.length
 .rw[if_pos]
  .rw[c,sx,aa2]
  .show (1==1 && (adw (some (0:Nat)) _ 1 x.length).length==x.length)=true;rw[e,aad];simp[c]
 .rw[if_neg]
  .show (List.filterMap _ (adw (some (0:Nat)) _ 1 x.length))=_;rw[e2];rfl
  .show ¬ (1==1 && (adw (some (0:Nat)) _ 1 x.length).length==x.length)=true;rw[e,aad];simpa using c
theorem qc{a:Nat}(h:a<=x.length):(adr x (some (a:Int)) none).cps.toList=x.cps.toList.drop a:=by
 unfold adr;rw[StrLaws.sliceIdx_none_hi];have e:=afb h (aai _);have e2:=StrLaws.sliced_plain x h (aai _);rw[e2,e,aad];by_cases c:a=0
 .rw[if_pos #[1],c];rfl
 .rw[if_neg #[3]];refine ac7 ?_;rw[ab8];exact aai _
def pC:∀ks:Aan,(Str.join (aao "") (ks.map ch)).cps.toList=ks.map (97+·)
 |[]=>rfl
 |[k]=>rfl
 |k::l::r=>by show ((ch k++aao "")++Str.join _ _).cps.toList=_;rw[fS,pC _];rfl
theorem wb{ks:Aan}(h:ks.length<=6):JoinOk (aao "") (ks.map ch)=true:=by
 unfold JoinOk;rw[StrLaws.joinTotal];have e1:(aao "").length=0:=rfl;have e2:((ks.map ch).map (·.length)).sum=ks.length:=by
  clear h;induction ks with
  |nil=>rfl
  |cons k ks ih=>rw[aaw,aaw,List.sum_cons,ih];show 1+ks.length=_;rw[aay,acT]
 rw[e1,e2];unfold Builtin.Str.tooLong;rw[aaJ,adc,decide_eq_false_iff_not];omega
noncomputable def wl(sl:Aan)(a t kd k:Nat):Aan:=if kd=2 then aaR (1+k % 8) (97+(t+k / 8) % 26)else (sl.take a++aaR (1+k / 26) (97+(t+k) % 26))++sl.drop a
noncomputable def wd(sl:Aan)(a t kd k:Nat):Str:=#[(wl sl a t kd k).toArray]
def ji(sl:Aan)(a t kd k:Nat):(wd sl a t kd k).cps.toList=wl sl a t kd k:=rfl
variable{sl:Aan}{kd:Nat}
theorem vP{a t:Nat}(hs:sl.length<=6)(hc:∀c∈sl,97<=c/\c<=122)(hk:k<52):Bh (wd sl a t kd k):=by
 have e:=ji sl a t kd k;refine#[?_,?_,?_]
 .rw[e];unfold wl;split
  .rw[abd];omega
  .rw[aan,aan,abd];omega
 .rw[e];unfold wl;split
  .rw[abd];omega
  .rw[aan,aan,abd,abp,ab8];omega
 .rw[e];unfold wl;intro c h;split at h
  .have:=List.eq_of_mem_replicate h;omega
  .rcases List.mem_append.mp h with h|h
   .rcases List.mem_append.mp h with h|h
    .exact hc c (abr h)
    .have:=List.eq_of_mem_replicate h;omega
   .exact hc c (adk h)
def mX{m' c c':Nat}(h:aaR (1+m) c=aaR (1+m') c'):c=c':=by simp_all
theorem yc{a t k':Nat}(hk:k<52)(hk':k'<52)(h:wd sl a t kd k=wd sl a t kd k'):k=k':=by
 have e:wl sl a t kd k=wl sl a t kd k':=by rw[<- ji,<- ji,h]
 unfold wl at e;have el:=congrArg acD e;split at e
 .rename_i c;rw[if_pos c,if_pos c,abd,abd]at el;have:=mX e;omega
 .rename_i c;rw[if_neg c,if_neg c]at el;simp only[aan,abd]at el;have:=mX (List.append_cancel_left (List.append_cancel_right e));omega
noncomputable def Jx(sl:Aan)(a t kd:Nat)(m:Nat):A3:=(aa3 m).map (wd sl a t kd)
theorem qO{a t:Nat}(hm:m<=52):(Jx sl a t kd m).Nodup:=by
 unfold Jx;rw[ab7,aeY];have:=(List.nodup_iff_pairwise_ne.mp (ad7 (n:=m)))
 refine List.Pairwise.imp_of_mem (λ{x y} hx hy C5 e=>?_) this;exact C5 (yc (by have:=List.mem_range.mp hx;omega) (by have:=List.mem_range.mp hy;omega) e)
def tL(sl:Aan)(a t kd m:Nat):Jx sl a t kd (m+1)=Jx sl a t kd m++[wd sl a t kd m]:=by unfold Jx;rw[aei,aaO];rfl
def jl:∀ss:A3,(ss.map PV.str).mapM B7=some ss
 |[]=>rfl
 |s::ss=>by rw[aaw,abh,jl ss];rfl
theorem rM(c:PV)(xs:Aab)(P:Aap)(h:cA c xs P):Q.JJ 10 dB c xs P:=by
 obtain⟨f,n,rfl,rfl,hn,h⟩:=h;generalize hF:f+20=F;unfold dB;refine ag λN hN=>?_;show N _;subst hN;refine ag λN hN=>?_;simp only[Ba,Ke];lia;refine dr #[] #[2] #[2] λf1 r h1 hr=>?_;lia;refine#[#[],#[],?_];refine gF (λi acc e=>∃(ks:Aan) (f2:Nat),acc=ks.map (λk=>PV.str (ch k))/\ks.length=i/\(∀k∈ks,k<26)/\f2+i=f1/\e=[some #[2,.int (f2:Int)],some #[0,.int n],some #[0,.str Mp],none,none,none,none,none,none,none]) (i:=0) #[[],f1,rfl,rfl,#[0],rfl,rfl] #[0] (by rw[cP];omega) ?_ ?_
 .rintro j x acc e R hj ⟨ks,f2,rfl,kl,kb,k2,rfl⟩ k;obtain⟨Oy,rfl⟩:=gy hj;refine#[rfl,?_];lia;show aq (.int (f2:Int)) [.int 26] _;refine dr #[] #[2] #[2] λf3 q h3 hq=>?_;show opt (iD (.str Mp) (.int q)) _;refine ae (n6 rfl #[]) ?_;refine k (some (.str (ch q))) _ #[ks++[q],f3,?_,?_,λz hz=>?_,#[],rfl]
  .rw[aaO];rfl
  .rw[aan,kl];rfl
  .rcases List.mem_append.mp hz with z1|z1
   .exact kb z z1
   .rw[List.mem_singleton.mp z1];omega
 rintro acc e ⟨ks,f2,rfl,kl,kb,k2,rfl⟩ _;rw[cP,aaG]at kl k2;have We:ks.length<=6:=by omega
 have em:(ks.map λk=>PV.str (ch k))=(ks.map ch).map PV.str:=by rw[aax];rfl
 rw[em];refine#[ks.map ch,jl _,wb We,?_];have es:(Txt.join (aao "") (ks.map ch)).cps.toList=ks.map (97+·):=by show (Builtin.Str.glued _ _).cps.toList=_;rw[StrLaws.glued_eq_join,pC]
 have VW:(ks.map (97+·)).length<=6:=by rw[aad];exact We
 have VU:∀c∈ks.map (97+·),97<=c/\c<=122:=λc hc=>by obtain⟨k,hk,rfl⟩:=List.mem_map.mp hc;have:=kb k hk;omega
 generalize Txt.join (aao "") (ks.map ch)=Gs at es;generalize ks.map (97+·)=sl at es VW VU;have sln:Gs.length=sl.length:=by rw[sx,es]
 subst hN;refine ag λN hN=>?_;lia;refine ae (if_pos #[]) (ae aM ?_);refine dr #[] #[] #[] λf3 a h3 ha=>?_;try lia
 subst hN;refine ag λN hN=>?_;lia;refine dr #[] #[2] #[2] λf4 t h4 ht=>?_;try lia
 subst hN;refine ag λN hN=>?_;lia;refine dr #[] #[2] #[2] λf5 kd h5 Ku=>?_;try lia
 subst hN;refine ag λN hN=>?_;try lia
 subst hN;refine ag λN hN=>aU λG B hG hB=>?_;lia;refine#[#[],#[],?_];subst hG;have WM:a<=Gs.length:=by omega
 refine aB (λi e=>∃v8 v9,e=[some #[2,.int (f5:Int)],some #[0,.int n],some #[0,.str Mp],some #[0,.str Gs],some #[0,.int a],some #[0,.int t],some #[0,.int kd],some #[1,.lst ((Jx sl a t kd i).map .str)],v8,v9]) (i:=0) #[none,none,rfl] ?_ ?_;case refine_2=>
  rintro e ⟨v8,v9,rfl⟩;show N _;subst hN;rw[cP,show ((n:Int)).toNat=n by omega,aaG];simp only[FX,Dy];lia;refine#[_,jl _,by unfold Jx;rw[aad,ack];omega,λss up=>?_];have nd:=qO (sl:=sl) (a:=a) (t:=t) (kd:=kd) hn;refine h ss f5 #[] ?_ (gW up.2 (up.1.nodup_iff.mpr nd)) λx hx=>?_
  .rw[up.1.length_eq];unfold Jx;rw[aad,ack]
  .obtain⟨k,hk,rfl⟩:=List.mem_map.mp (up.1.mem_iff.mp hx);exact vP VW VU (by have:=List.mem_range.mp hk;omega)
 rintro j x e M hj ⟨v8,v9,rfl⟩ k;obtain⟨WD,rfl⟩:=gy hj;rw[aaG]at k ⊢;subst hB;have YB:j<n:=by omega
 have len:((Jx sl a t kd j).map PV.str).length<=100000:=by rw[aad];unfold Jx;rw[aad,ack];omega
 refine ag λN' FN=>?_;lia;refine ae aM ?_;refine ae (cu #[2]) ?_;refine ae (n6 (k:=(t+j) % 26) #[] #[]) ?_;subst FN;have push:∀y:Str,y=wd sl a t kd j->M [some #[2,.int (f5:Int)],some #[0,.int n],some #[0,.str Mp],some #[0,.str Gs],some #[0,.int a],some #[0,.int t],some #[0,.int kd],some #[1,.lst ((Jx sl a t kd j).map .str++[.str y])],some #[0,.int j],some #[0,.str (ch ((t+j) % 26))]]:=λy hy=>by refine k _ #[some #[0,.int j],some #[0,.str (ch ((t+j) % 26))],?_];rw[hy,tL,aaO];rfl
 refine eT λA1 B1 US UR=>?_;lia;refine ae (bc _ _) ?_;lia;by_cases c:kd=2
 .have c2:((kd:Int)=2):=by omega
  rw[if_pos (decide_eq_true c2)];subst US;lia;refine ae (jE #[2] #[2]) (ae aM (ae (cu #[2]) (ae (n6 (k:=(t+j / 8) % 26) #[] #[]) ?_)));refine ae (cu #[2]) (ae aM (ae (sj (m:=1+j % 8) #[] #[]) ?_));refine ae (Em len) ?_;refine push _ (jP ?_);rw[mY,ji];unfold wl;rw[if_pos c]
 .have c2:¬ ((kd:Int)=2):=by omega
  rw[if_neg (by simpa using c2)];subst UR;have s6:Gs.length<=1000:=by omega
  have l1:(adr Gs none (some (a:Int))).length<=Gs.length:=Txt.slice_le _ _ _;have l2:(adr Gs (some (a:Int)) none).length<=Gs.length:=Txt.slice_le _ _ _;simp only[CJ,G0,aS,Lo];lia;refine ae (z:=(a:Int)) rfl (ae (if_pos s6) ?_);refine ae (jE #[2] #[2]) (ae aM (ae (sj (m:=1+j / 26) #[] #[]) ?_));refine ae (add_str (by rw[oX];omega)) ?_;refine ae (z:=(a:Int)) rfl (ae (if_pos s6) ?_);refine ae (add_str (by rw[pq,oX];omega)) ?_;refine ae (Em len) ?_;refine push _ (jP ?_);rw[fS,fS,tT WM,qc WM,mY,ji,es];unfold wl;rw[if_neg c]
variable{ys:Aab}
theorem ub{i:Nat}{y:PV}(hi:ys[i]?=some y)(hl:ys.length<=1000):Fg ys [.int (i:Int)]=some (y,ys.eraseIdx i):=by
 have BU  := (List.getElem?_eq_some_iff.mp hi).1;have e:JU ys.length i=some i:=by unfold JU;rw[if_pos #[],if_pos #[]];rfl
 refine(if_pos #[#[],#[]]).trans ?_;rw[(kF e).1];show (ys[i]?).map _=_;rw[hi];rfl
variable{w:Type}
def lP(f:O->w):∀(l:List O) (i:Nat),(l.map f).eraseIdx i=(l.eraseIdx i).map f
 |[],_=>rfl
 |_::_,0=>rfl
 |a::l,i+1=>congrArg _ (lP f l i)
def jD:∀(l:List O) (i:Nat) (h:i<l.length),l.Perm (l[i]::l.eraseIdx i)
 |a::l,0,_=>List.Perm.refl _
 |a::l,i+1,h=>((jD l i _).cons a).trans (List.Perm.swap _ _ _)
def qZ:∀ts:Aah,(ts.map iF).mapM Lj=some (ts.map oR.nm)
 |[]=>rfl
 |t::ts=>by rw[aaw,abh,qZ ts];rfl
def m4{f:O->w}{l:List O}{a:O}{b:w}{ix:Aan}(h:∀i∈ix,i<l.length):(ix.map λi=>(l.map f).getD i b)=(ix.map λi=>l.getD i a).map f:=by simp_all
theorem mK{n:Nat}{P:Aap}(hi:i=n)(hF:20<=F)(hn:n<=52)(k:∀(f':Nat) (ws:A3),F<=f'+20->ws.length=n->ws.Pairwise Bv->(∀x∈ws,Bh x)->P (.lst (ws.map .str)) (.int (f':Int))):cA (.int (F:Int)) [.int i] P:=by subst hi;exact#[F - 20,n,#[1],rfl,hn,λws f' h=>k f' ws #[]]
theorem xL{st k:Int}{P:Aap}(hF:4<=F)(w2:2<=ws.length)(VM:ws.length<=60)(nd:ws.Nodup)(kk:∀(f':Nat) (u v:Str),F<=f'+4->u∈ws->v∈ws->Bv u v->P (.tup [.str u,.str v]) (.int (f':Int))):fW (.int (F:Int)) [.lst (ws.map .str),.int st,.int k] P :=
 #[F - 4,ws,st,k,#[1],rfl,w2,VM,nd,λu v f' h=>kk f' u v #[]]
theorem x3{q:Int}{P:Aap}(hF:2<=F)(k:∀(f':Nat) (v:Int),F<=f'+2 -> -(10 ^ 30)<v->v<10 ^ 30->P (.int v) (.int (f':Int))):fX (.int (F:Int)) [.int q] P :=
 #[F - 2,q,#[1],rfl,λv f' h=>k f' v #[]]
def xK{j:Nat}{x:PV}(h:(CL (ns.map .str))[j]?=some x):∃hj:j<ns.length,x=.tup [.int j,.str ns[j]]:=by
 unfold CL at h;rw[aaj,adl,aaj]at h;rcases aaS j ns.length with z|z
 .refine#[z,?_];rw[aab z]at h;have h  := aar h;rw[<- h,aaG]
 .rw[aam z]at h;cases h
def u7(ns:A3):(CL (ns.map .str)).length=ns.length:=by unfold CL;rw[aad,adE,aad]
def bit(b:Bool):Ge [.bl b]=some (.int (if b then 1 else 0)):=rfl
def bu{xs:Aab}(h:xs.length+ys.length<=100000):AS (.lst xs) (.lst ys)=some (.lst (xs++ys)):=if_pos h
def aP{xs:Aab}(h:xs.length+ys.length<=100000):AS (.tup xs) (.tup ys)=some (.tup (xs++ys)):=if_pos h
theorem wD(c:PV)(xs:Aab)(P:Aap)(h:fm c xs P):Q.HI 12 jO c xs P:=by
 obtain⟨f,M,T,rfl,rfl,M0,M1,T0,T1,h⟩:=h;generalize hF:f+1000=F;unfold jO;refine ag λN hN=>?_;lia;refine ae aM ?_;refine dr #[] #[] #[] λf1 r1 h1 hr1=>?_;try lia
 refine dr #[] #[2] #[2] λf2 r2 h2 QS=>?_;try lia
 refine ae (bc _ _) (ae (bit _) ?_);obtain⟨y,hy,hyM⟩:∃y:Nat,iD (.lst [.int (r1:Int),.int M]) (.int (if decide ((r2:Int)=0)then 1 else 0))=some (.int (y:Int))/\(y:Int)<=M:=by
  by_cases c:(r2:Int)=0
  .rw[decide_eq_true c];exact#[M.toNat,(ak (j:=1) rfl).trans (by congr 2;omega),#[]]
  .rw[decide_eq_false c];exact#[r1,ak (j:=0) rfl,#[]]
 refine ae hy (ae aM ?_);refine mK (n:=2+y) #[] #[] #[] λf3 ws h3 wl wu ww=>?_;have wn:=bR wu;try lia
 subst hN;refine ag λN hN=>?_;lia;refine#[#[],#[],?_];refine gF (λi acc e=>∃(us fs:A3) (f4:Nat),acc=fs.map PV.str/\us.length+i=2+y/\us.Sublist ws/\(us++fs).Perm ws/\f3=f4+i/\e=[some #[2,.int (f4:Int)],some #[0,.int M],some #[0,.int T],some #[1,.lst (us.map .str)],none,none,none,none,none,none,none,none]) (i:=0) #[ws,[],f3,rfl,#[],adR _,by rw[aa0],rfl,rfl] #[0] (by rw[cP];decide) ?_ ?_
 .rintro j x acc e R hj ⟨us,fs,f4,rfl,ul,RV,pm,k4,rfl⟩ k;obtain⟨Oy,rfl⟩:=gy hj;rw[aaG]at ul k k4;have j2:j<2:=Oy;refine#[trivial,?_];refine#[rfl,?_];show opt (Bo [.lst (us.map PV.str)]) _;refine ae (z:=.int (us.length:Int)) (by show some (PV.int ((us.map PV.str).length:Int))=_;rw[aad]) ?_;simp only[aT];show aq (.int (f4:Int)) [.int (us.length:Int)] _;refine dr #[] #[] #[] λf5 q h5 hq=>?_;have Lc:q<us.length:=by omega
  show opt (Fg (us.map .str) [.int (q:Int)]) _;refine ae (ub (y:=.str us[q]) (by rw[aaj,aab Lc];rfl) (by rw[aad];omega)) ?_;refine k (some (.str us[q])) _ #[us.eraseIdx q,fs++[us[q]],f5,?_,?_,(List.eraseIdx_sublist _ _).trans RV,?_,#[],?_]
  .rw[aaO];rfl
  .rw[ady Lc];omega
  .refine List.Perm.trans ?_ pm;rw[<- abS];refine(List.perm_append_comm (l₁:=us.eraseIdx q++fs) (l₂:=[us[q]])).trans ?_;show (us[q]::(us.eraseIdx q++fs)).Perm _;rw[<- List.cons_append];exact List.Perm.append_right fs (jD us q Lc).symm
  .rw[<- lP];rfl
 rintro acc e ⟨us,fs,f4,rfl,ul,RV,pm,k4,rfl⟩ _;rw[cP,aaG]at ul k4;replace ul:us.length+2=2+y:=ul;replace k4:f3=f4+2:=k4;have fl:fs.length=2:=by have:=pm.length_eq;rw[aan]at this;omega
 subst hN;refine ag λN hN=>?_;simp only[Ba,Dy];lia;simp only[EU];lia;refine dr #[] #[2] #[2] λf5 r5 h5 hr5=>?_;try lia
 refine ae (bc _ _) (ae (bit _) ?_);obtain⟨gs,hg,gl,gw⟩:∃gs:A3,DP (.lst (fs.map .str)) (.int (if decide ((r5:Int)=0)then 1 else 0))=some (.lst (gs.map .str))/\gs.length<=2/\gs.Sublist fs:=by
  by_cases c:(r5:Int)=0
  .rw[decide_eq_true c];refine#[fs,(if_pos #[#[2],#[2],by rw[aad];omega]).trans ?_,#[],adR _];show some (PV.lst ([fs.map PV.str].flatten))=_;simp
  .rw[decide_eq_false c];exact#[[],(if_pos #[#[2],#[2],by rw[aad];omega]).trans rfl,#[0],afe _]
 refine ae hg (ae (bu (by rw[aad,aad];omega)) ?_);try lia
 rw[<- aaO];refine#[us++gs,jl _,by rw[aan];omega,λHc up=>?_];have VN:(us++gs).Sublist (us++fs):=(adR us).append gw;have XI:Hc.Nodup:=up.1.nodup_iff.mpr ((pm.nodup_iff.mpr wn).sublist VN);have pw:∀x∈Hc,Bh x:=λx hx=>ww x (pm.mem_iff.mp (VN.subset (up.1.mem_iff.mp hx)));have pl:Hc.length<=60:=by rw[up.1.length_eq,aan];omega
 clear up;try lia
 subst hN;refine ag λN hN=>?_;lia;refine dr #[] #[2] #[2] λf6 r6 h6 hr6=>?_;try lia
 refine ae aM ?_;refine dr #[] #[] #[] λf7 r7 h7 hr7=>?_;try lia
 refine dr #[] #[2] #[2] λf8 r8 h8 Yl=>?_;obtain⟨z,hz,X6⟩:∃z:Nat,iD (.lst [.int (r6:Int),.int (r7:Int),.int T]) (.int (r8:Int))=some (.int (z:Int))/\(z:Int)<=T:=by
  match r8,Yl with
  |0,_=>exact#[r6,ak (j:=0) rfl,#[]]
  |1,_=>exact#[r7,ak (j:=1) rfl,#[]]
  |2,_=>exact#[T.toNat,(ak (j:=2) rfl).trans (by congr 2;omega),#[]]
  |n+3,h=>omega
 refine ae hz ?_;try lia
 rw[aad];refine ae (bit _) ?_;refine ae (yM (by split<;>decide) (by split<;>decide)) ?_;obtain⟨m,hm,hmT,QW⟩:∃m:Nat,(z:Int)*(if decide ((1:Int)<Hc.length)then 1 else 0)=m/\(m:Int)<=T/\(m≠0->2<=Hc.length):=by
  by_cases c:(1:Int)<Hc.length
  .rw[decide_eq_true c];exact#[z,#[0],X6,λ_=>#[]]
  .rw[decide_eq_false c];exact#[0,#[0],#[],λq=>absurd rfl q]
 rw[hm];try lia
 subst hN;refine ag λN hN=>?_;simp only[MP];lia;refine dr #[] #[2] #[2] λf9 r9 h9 hr9=>?_;try lia
 refine dr #[] #[2] #[2] λfA rA hA hrA=>?_;try lia
 subst hN;refine ag λN hN=>?_;try lia
 subst hN;refine ag λN hN=>aU λG B hG hB=>?_;simp only[iE];lia;refine mK (n:=m) rfl #[] #[] λfB ns WY nl nu nw=>?_;try lia
 subst hG;have fuel:f+900<=fB:=by omega
 refine aB (λi e=>∃(ts:Aah) (fC:Nat) (v10 v11:Aaq),e=[some #[2,.int (fC:Int)],some #[0,.int M],some #[0,.int T],some #[1,.lst (us.map .str)],some #[0,.lst (fs.map .str)],some #[0,.lst (Hc.map .str)],some #[0,.int (m:Int)],some #[0,.int (r9:Int)],some #[0,.int (rA:Int)],some #[1,.lst (ts.map iF)],v10,v11]/\ts.map oR.nm=ns.take i/\ts.length=i/\(∀t∈ts,Mr t)/\fB<=fC+6*i) (i:=0) #[[],fB,none,none,rfl,rfl,rfl,#[0],#[]] ?_ ?_;case refine_2=>rintro e ⟨ts,fC,v10,v11,rfl,g1,g2,g3,g4⟩;rw[u7,aaG]at g1 g2 g4;show N _;subst hN;simp only[Be,A8,BE,aS];lia;refine ae rfl (ae rfl ?_);refine h us ts fC #[] #[wu.sublist RV,λx hx=>ww x (RV.subset hx),?_,g3] #[] #[];rw[g1,aa2];exact nu
 rintro j x e M' hj ⟨ts,fC,v10,v11,rfl,g1,g2,g3,g4⟩ k;obtain⟨WD,rfl⟩:=xK hj;rw[aaG]at g1 g2 g4 k;subst hB;have p2:2<=Hc.length:=QW #[];lia;refine xL #[] p2 pl XI λfD u v hD hu hv uv=>?_;refine ae (aP #[0]) ?_;try lia
 refine x3 #[] λfE cc hE c0 c1=>?_;refine ae (aP #[0]) ?_;try lia
 refine ae (Em (by rw[aad];omega)) ?_;refine k _ #[ts++[#[ns[j],u,v,cc]],fE,some #[0,.int j],some #[0,.str ns[j]],by rw[aaO];rfl,?_,by rw[aan,g2];rfl,λt ht=>?_,#[]]
 .rw[aaO,g1];show ns.take j++[ns[j]]=ns.take (j+1);rw[abC,aab WD];rfl
 .rcases List.mem_append.mp ht with z|z
  .exact g3 t z
  .have:t=#[ns[j],u,v,cc]:=by simpa using z
   subst this;exact#[nw _ (aa8 _),pw u hu,pw v hv,uv,c0,c1]
section
variable{one A4:Str}
def yP(a b:Nat):Bv (#[#v[a]]:Str) (#[#v[b]]:Str)↔a<b:=by
 show [a]<[b]↔a<b;constructor
 .intro h;cases h with
  |rel h=>exact h
  |cons h=>cases h
 .intro h;exact .rel h
def we(c:Nat):((!decide (Bv #[#v[c]] (aao "a"))) && (!decide (Bv (aao "z") #[#v[c]])))=Oi c:=by
 have e1:(aao "a")=#[#v[97]]:=by decide +kernel
 have e2:(aao "z")=#[#v[122]]:=by decide +kernel
 unfold Oi;rw[e1,e2];simp only[yP];rw[aaQ];simp
theorem og(xs:Aab)(P:Aao)(h:bK xs P):Q.run 1 dJ xs P:=by
 obtain⟨x,rfl,hx,h⟩:=h;unfold dJ;cases x with
 |str s=>
  have hs:s.length<=1000:=hx;have La:s.length<=100000:=by omega
  have hc:s.cps.toList.length=s.length:=by simp[Str.length]
  lia;rw[if_pos La];lia;have hw:Cb (.str s)=(decide (1<=s.length) && decide (s.length<=8) && s.cps.toList.all Oi):=rfl;rw[hw]at h;by_cases h1:1<=s.length
  .by_cases h2:s.length<=8
   .have Rm:(1:Int)<=(s.length:Int):=by omega
    have Kz:(s.length:Int)<=8:=by omega
    simp only[Rm,Kz,decide_true,if_true,ad3,abA,if_false,aG];refine bo (λx=>match x with|.str s=>.bl ((!decide (Bv s (aao "a"))) && (!decide (Bv (aao "z") s)))|_=>.AZ) (λx hx R hR=>?_) (by simp[Dl,hc];omega) ?_
    .unfold Dl at hx;obtain⟨c,hc,rfl⟩:=List.mem_map.mp hx;simp only[Eb,aaw,aej,List.set_cons_zero];lia;replace hR:R (.bl ((!decide (Bv #[#v[c]] (aao "a"))) && (!decide (Bv (aao "z") #[#v[c]])))) [some #[0,.str s]]:=hR;cases q:decide (Bv #[#v[c]] (aao "a"))with
     |true=>rw[q]at hR;exact hR
     |false=>rw[q]at hR;exact hR
    .have e:(Dl s).map (λx=>match x with|.str s=>PV.bl ((!decide (Bv s (aao "a"))) && (!decide (Bv (aao "z") s)))|_=>.AZ)=(s.cps.toList.map Oi).map PV.bl:=by unfold Dl;rw[aax,aax];exact abD λc _=>congrArg PV.bl (we c)
     rw[aaL,e];refine ae (bm _) ?_;simpa[h1,h2,adg]using h
   .have Kz:¬ (s.length:Int)<=8:=by omega
    have Rm:(1:Int)<=(s.length:Int):=by omega
    simp only[Rm,Kz,decide_true,decide_false,if_true,adK,aG];simpa[h1,h2]using h
  .have Rm:¬ (1:Int)<=(s.length:Int):=by omega
   simp only[Rm,decide_false,abA,if_false,adK,if_true,aG];simpa[h1]using h
 |set _=>exact hx.elim
 |Cq _=>exact hx.elim
 |_=>exact ae (z:=.bl false) rfl (ae (z:=false) rfl h)
def kJ(ws:A3):(Eh (ws.map PV.str) ((ws.drop 1).map PV.str))=(ws.zip (ws.drop 1)).map λp=>PV.tup [.str p.1,.str p.2]:=by unfold Eh;rw[List.zip_map,aax];rfl
theorem mi(xs:Aab)(P:Aao)(h:cK xs P):Q.run 1 cD xs P:=by
 obtain⟨ws,hw,hl,h⟩:=h;unfold cD;have cut:BQ (ws.map PV.str) (some 1) none=(ws.drop 1).map PV.str:=by rw[show (1:Int)=((1:Nat):Int)from rfl,gK,aeN]
 have main:∀(x:PV),Cg (G3 (.tp [0,1])) Ei (lE HM (eV 0) (Bj 1)) [none,none] (λx e1=>opt (CM [x]) λz=>P z) (Eh (ws.map PV.str) ((ws.drop 1).map PV.str)) [some #[0,x]] []:=λx=>by
  rw[kJ];refine bo (λx=>match x with|.tup [.str a,.str b]=>.bl (decide (Bv a b))|_=>.AZ) (λx hx R hR=>?_) #[3] ?_
  .obtain⟨p,hp,rfl⟩:=List.mem_map.mp hx;exact#[rfl,_,rfl,hR]
  .rw[aaL,aax];refine ae (z:=.bl (FK ws)) ?_ h;have:=bm (KJ ws);unfold KJ at this;rw[aax]at this;exact this
 subst hw;lia;simp only[Nj];lia;simp only[IQ];rw[cut];exact main _
def gU:∀{ys:Aab},(∀y∈ys,Cb y=true)->ys=(ys.filterMap B7).map PV.str
 |[],_=>rfl
 |y::ys,e=>by
  have h:=e y #[0];cases y with
  |str s=>exact congrArg (PV.str s::·) (gU λx hx=>e x (by simp[hx]))
  |_=>cases h
theorem mm(xs:Aab)(P:Aao)(h:cM xs P):Q.run 1 cF xs P:=by
 obtain⟨x,rfl,hx,h⟩:=h;unfold cF;cases x with
 |tup ys=>
  obtain⟨hl,hy⟩:=hx;lia;refine bo (λx=>.bl (Cb x)) (λx hx R hR=>#[x,rfl,hy x hx,hR]) #[3] ?_;have e:ys.map (λx=>PV.bl (Cb x))=(ys.map Cb).map PV.bl:=by rw[aax];rfl
  rw[aaL,e,bm,aG];lia;rw[adg];have hw:E5 (.tup ys)=(ys.all Cb && FK (ys.filterMap B7)):=rfl;rw[hw]at h;cases e:ys.all Cb with
  |false=>rw[e]at h;simp only[Function.id_comp,e];exact h
  |true=>rw[e]at h;simp only[Function.id_comp,e];rw[abN]at e;have es:ys=(ys.filterMap B7).map PV.str:=gU λy hy=>e y hy;refine#[ys.filterMap B7,(by rw[<- es]),?_,h];have:=congrArg acD es;rw[aad]at this;omega
 |set _=>exact hx.elim
 |Cq _=>exact hx.elim
 |_=>exact ae (z:=.bl false) rfl (ae (z:=false) rfl h)
def oh(xs:Aab)(P:Aao)(h:bL xs P):Q.run 2 dL xs P:=by
 obtain⟨ps,ts,t,rfl,h⟩:=h;unfold dL A6 iF;try lia
 refine ae (z:=.str t.one) (ak (j:=1) rfl) (ae (z:=.tup (ps.map .str)) (ak (j:=0) rfl) (ae aX ?_));try lia
 unfold BD at h;cases e:decide (t.one∈ps)with
 |false=>rw[e]at h;exact h
 |true=>rw[e,Bool.true_and]at h;exact ae (z:=.str t.A4) (ak (j:=2) rfl) (ae (z:=.tup (ps.map .str)) (ak (j:=0) rfl) (ae aX h))
def bx(p:O->Bool)(f:O->w):∀(l:List O),l.filterMap (λa=>if p a=true then some (f a)else none)=(l.filter p).map f
 |[]=>rfl
 |a::l=>by rw[acr,ad8,bx p f l];cases p a<;>rfl
theorem mh(xs:Aab)(P:Aao)(h:cJ xs P):Q.run 1 cC xs P:=by
 obtain⟨ps,ts,rfl,hl,h⟩:=h;unfold cC;have e1:iD (A6 ps ts) (.int 1)=some (.tup (ts.map iF)):=ak (j:=1) rfl;try lia
 refine ae e1 ?_;try lia
 refine cT (λx=>match x with|.tup [.str a,.str b,.str c,.int d]=>if BD ps #[a,b,c,d]=true then some (.str a)else none|_=>none) (λx hx R hR=>?_) #[3] ?_
 .obtain⟨t,ht,rfl⟩:=List.mem_map.mp hx;refine#[ps,ts,t,rfl,?_];replace hR:R (if BD ps t=true then some (.str t.nm)else none) [some #[0,A6 ps ts]]:=hR;show opt (some (BD ps t)) _;rw[aG];cases e:BD ps t with
  |false=>rw[e]at hR;exact hR
  |true=>rw[e]at hR;show opt (iD (iF t) (.int 0)) _;refine ae (z:=.str t.nm) (ak (j:=0) rfl) ?_;exact hR
 .rw[aaL,ac3];have e:ts.filterMap ((λx=>match x with|PV.tup [.str a,.str b,.str c,.int d]=>if BD ps #[a,b,c,d]=true then some (PV.str a)else none|_=>none) ∘ iF)=(aA ps ts).map .str:=by unfold aA;rw[aax];exact bx (BD ps) (λt=>PV.str t.nm) ts
  rw[e];exact ae rfl h
def eq_int(i j:Int):BJ (.int i) (.int j)=some (.bl (i==j)):=rfl
def eq_str(i j:Str):BJ (.str i) (.str j)=some (.bl (i==j)):=rfl
def gg(fs:A3):(fs.map PV.str).mapM B7=some fs:=by
 induction fs with
 |nil=>rfl
 |cons f fs ih=>rw[aaw,abh,ih];rfl
def M8(ps:A3)(ts:Aah):iD (A6 ps ts) (.int 1)=some (.tup (ts.map iF)):=ak (j:=1) rfl
def Tp(ps:A3)(ts:Aah):iD (A6 ps ts) (.int 0)=some (.tup (ps.map .str)):=ak (j:=0) rfl
theorem rL(xs:Aab)(P:Aao)(h:gQ xs P):Q.run 1 gc xs P:=by obtain⟨ps,ts,rfl,hl,nd,h⟩:=h;unfold gc;lia;simp only[Sv];lia;refine ae (M8 ps ts) ?_;lia;refine nT (done:=[]) oR.nm (λt=>.tup [.int t.cost,.str t.nm]) iF nd (λt ht R hR=>?_) #[3] h;show opt (iD (iF t) (.int 0)) _;refine ae (z:=.str t.nm) (ak (j:=0) rfl) ?_;show opt (iD (iF t) (.int 3)) _;refine ae (z:=.int t.cost) (ak (j:=3) rfl) ?_;show opt (iD (iF t) (.int 0)) _;refine ae (z:=.str t.nm) (ak (j:=0) rfl) ?_;exact hR
def pj(a b:Str):DW (.str a) (.str b)=some (.bl (!decide (a=b))):=by show some (PV.bl (!decide (V.str a=V.str b)))=_;congr 3;simp
def nH:Cz (.str x) (.lst (ns.map .str))=some (.bl (decide (x∈ns))):=bW
def wW(t u:oR):Nc (.tup [.int t.cost,.str t.nm]) (.tup [.int u.cost,.str u.nm])=some (.bl (decide (EC t u))):=by have e:gtB (u.cost,u.nm) (t.cost,t.nm)=decide (EC t u):=decide_eq_decide.mpr Iff.rfl;rw[<- e];rfl
def oY(nd:(ts.map oR.nm).Nodup)(ht:t∈ts):iD (.Bp (ts.map λt=>((aav t.nm:Key),.tup [.int t.cost,.str t.nm]))) (.str t.nm)=some (.tup [.int t.cost,.str t.nm]) :=
 bv (f:=oR.nm) (g:=λt=>PV.tup [.int t.cost,.str t.nm]) nd ht
def oi(xs:Aab)(P:Aao)(h:ck xs P):Q.run 4 dM xs P:=by obtain⟨ps,ts,t,u,rfl,hl,nd,ht,hu,h⟩:=h;unfold dM;refine ag λN hN=>?_;lia;refine#[ps,ts,rfl,hl,nd,?_];lia;subst hN;lia;exact ae (oY nd ht) (ae (oY nd hu) (ae (wW t u) h))
theorem tZ(h:ws.Pairwise Bv):FK ws=true:=by
 unfold FK;rw[abN];intro b hb;obtain⟨j,hj⟩:=List.getElem?_of_mem hb;unfold KJ at hj;rw[aaj]at hj;cases e:(ws.zip (ws.drop 1))[j]? with
 |none=>rw[e]at hj;cases hj
 |some p=>rw[e]at hj;rw[aaF]at e;obtain⟨e1,e2⟩:=e;rw[List.getElem?_drop,acT]at e2;obtain⟨l1,g1⟩:=List.getElem?_eq_some_iff.mp e1;obtain⟨l2,g2⟩:=List.getElem?_eq_some_iff.mp e2;have:=List.pairwise_iff_getElem.mp h j (j+1) l1 l2 #[];rw[g1,g2]at this;simp[this]at hj;simp[<- hj]
def tR(us:A3):(us.map PV.str).filterMap B7=us:=by
 induction us with
 |nil=>rfl
 |cons u us ih=>exact congrArg (u::·) ih
def pV{fs:A3}(h1:fs.Pairwise Bv)(h2:∀x∈fs,Bh x):E5 (.tup (fs.map .str))=true:=by show ((fs.map PV.str).all Cb && FK ((fs.map PV.str).filterMap B7))=true;rw[tR,tZ h1,Bool.and_true,abN];intro x hx;obtain⟨t,ht,rfl⟩:=List.mem_map.mp hx;exact CT.mpr (h2 t ht)
def wM(ok:Gk ps ts):∀n∈aA ps ts,Bh n:=λn hn=>by obtain⟨t,ht,rfl⟩:=List.mem_map.mp hn;exact(ok.tie t (List.mem_filter.mp ht).1).nm
def fL(x:Str)(ys:A3):C9 (.str x) (.tup (ys.map .str))=some (.bl (!decide (x∈ys))):=by show (KS _ _).map _=_;rw[kG];rfl
end
section
variable{one A4:Str}
theorem AF(ok:Gk ps ts)(h1:ps.length<=60)(h2:ts.length<=60):Nt ps ts:=#[ok.rise,λt ht=>jw (ok.tie t ht).lt,h1,#[]]
def sy(ps:A3):(ps.map PV.str).mapM Fi=some (ps.map λp=>(aav p:Key)):=by
 induction ps with
 |nil=>rfl
 |cons p ps ih=>rw[aaw,abh,ih];rfl
def gI(h:ps.Nodup):(ps.map λp=>(aav p:Key)).Nodup:=by rw[ab7,aeY];exact(List.nodup_iff_pairwise_ne.mp h).imp λC5 e=>C5 (Sum.inr.inj e)
def nZ(ps:A3)(g:Str->List (Str×Str)):((ps.map λp=>((aav p:Key),PV.lst ((g p).map Bz))).map (·.1))=ps.map λp=>(aav p:Key):=by simp_all
def tJ(nd:ps.Nodup)(h:y∈ps):Q.F9 (ps.map λp=>((aav p:Key),PV.lst ((g p).map Bz))) (aav y)=some ((g y).map Bz):=by unfold Q.F9;have:=bv (f:=id) (g:=λp=>PV.lst ((g p).map Bz)) #[1] h;simp only[id]at this;rw[this]
def pS{q:Str×Str}:Gj (ps.map λp=>((aav p:Key),PV.lst ((g p).map Bz))) (aav y) ((g y).map Bz++[Bz q])=ps.map λp=>((aav p:Key),PV.lst ((if p=y then g y++[q]else g p).map Bz)):=by
 unfold Gj;rw[aax];refine abD λp hp=>?_;by_cases e:p=y
 .subst e;simp
 .simp[e]
theorem kh(xs:Aab)(P:Aao)(h:bD xs P):Q.LH 3 eB xs P:=by
 obtain⟨ps,ts,rfl,ok,h⟩:=h;have nd:=bR ok.rise;have e0:iD (A6 ps ts) (.int 0)=some _:=ak rfl;have e1:iD (A6 ps ts) (.int 1)=some _:=ak rfl;refine ag λN hN=>?_;refine ae e0 #[_,sy ps,gI nd,by simp;have:=ok.pl;omega,?_];have e2:(ps.map λp=>aav p).map (λk=>(k,PV.lst []))=ps.map λp=>((aav p:Key),PV.lst ((Ci ps (ts.take 0) p).map Bz)):=by rw[aax];rfl
 rw[e2];show N _;subst hN;refine ag λN hN=>aU λG B hG hB=>?_;refine ae e1 ?_;refine aB (λj e=>∃v2,e=[some _,some #[4,Ec ps (Ci ps (ts.take j))],v2]) #[none,rfl] ?_ ?_;case refine_2=>rintro e ⟨v2,rfl⟩;rw[aad,aaG,aa2];subst hN;exact#[#[_,rfl],h]
 rintro j x e M hx ⟨v2,rfl⟩ k;rw[aaG]at k ⊢;have hj  :=by have:=(List.getElem?_eq_some_iff.mp hx).1;rwa [aad]at this
 have ex:x=iF ts[j]:=by simp_all
 subst ex hG hB;refine eT λA1 B1 hA hB=>?_;lia;refine#[ps,ts,_,rfl,?_];subst hA hB;refine Dq.mpr ?_;have step:=λp=>vt (ps:=ps) hj p;cases eo:BD ps _ with
 |false=>
  refine k _ #[some #[0,iF ts[j]],?_];have e:Ci ps (ts.take (j+1))=Ci ps (ts.take j):=by funext p;rw[step p,eo];simp
  rw[e]
 |true=>
  obtain⟨h1,h2⟩:=B8.mp eo;have C5:=ok.ne ts[j] (aa8 _);have hlen:∀p,(Ci ps (ts.take j) p).length<=2000:=λp=>by
   have:=qq ps (ts.take j) p;have h3:(ts.take j).length<=1000:=by simp;have:=ok.tl;omega
   omega
  rw[if_pos rfl];refine ag λN' FN=>#[by rw[nZ];exact gI nd,?_]
  refine ae (ak rfl) (ae rfl (ae (tJ nd h1) ?_));refine ae (ak rfl) ?_;refine ae (ak rfl) #[by simp;have:=hlen ts[j].one;omega,?_];have ea:=pS (ps:=ps) (g:=Ci ps (ts.take j)) (y:=ts[j].one) (q:=(ts[j].nm,ts[j].A4));show N' [some _,some #[4,.Bp (Gj _ _ ((Ci ps _ _).map Bz++[Bz (ts[j].nm,ts[j].A4)]))],some _];rw[ea];generalize Kv:(λp=>if p=ts[j].one then Ci ps _ _++[(ts[j].nm,ts[j].A4)]else Ci ps _ p)=g';have eg:∀p,(if p=ts[j].one then Ci ps (ts.take j) ts[j].one++[(ts[j].nm,ts[j].A4)]else Ci ps (ts.take j) p)=g' p:=λp=>by rw[<- Kv]
  simp only[eg];subst FN;refine#[by rw[nZ];exact gI nd,?_];refine ae (ak rfl) (ae rfl (ae (tJ nd h2) ?_));refine ae (ak rfl) ?_;refine ae (ak rfl) #[by simp;rw[<- eg,if_neg C5.symm];have:=hlen ts[j].A4;omega,?_];have eb:=pS (ps:=ps) (g:=g') (y:=ts[j].A4) (q:=(ts[j].nm,ts[j].one));show M [some _,some #[4,.Bp (Gj _ _ ((g' _).map Bz++[Bz (ts[j].nm,ts[j].one)]))],some _];rw[eb];refine k _ #[some #[0,iF ts[j]],?_];have e:Ci ps (ts.take (j+1))=λp=>if p=ts[j].A4 then g' ts[j].A4++[(ts[j].nm,ts[j].one)]else g' p:=by
   funext p;rw[step p,eo,if_pos rfl];unfold ends;by_cases q1:p=ts[j].A4
   .subst q1;rw[if_pos rfl,<- eg,if_neg C5.symm,if_neg C5,if_pos rfl];rfl
   .rw[if_neg q1,<- eg];by_cases q2:p=ts[j].one
    .subst q2;rw[if_pos rfl,if_pos rfl,if_neg (λz=>q1 z.symm)];rfl
    .rw[if_neg q2,if_neg (λz=>q2 z.symm),if_neg (λz=>q1 z.symm)];simp
  rw[e];rfl
def tE{cs:Cs}(h:y∉C0 cs):Ct (cs.map λc=>((aav c.1:Key),Hm c.2)) (aav y)=none:=lh h
def pO{cs:Cs}(nd:(C0 cs).Nodup)(h:y∈C0 cs):∃c∈cs,c.1=y/\Ct (cs.map λc=>((aav c.1:Key),Hm c.2)) (aav y)=some (Hm c.2):=by obtain⟨c,hc,rfl⟩:=List.mem_map.mp h;exact#[c,hc,rfl,bv nd hc]
def pf{gE:List (Key×PV)}:C9 (.str y) (.Bp gE)=some (.bl (!(Ct gE (aav y)).isSome)):=rfl
structure N9(ps:A3)(g:Str->List (Str×Str))(start:Str)(cs:Cs)(as:A3):Prop where
 ok:EH g start cs
 Dt:∀y∈C0 cs,y∈ps
 sub:∀y∈as,y∈C0 cs
 al:as.length<=cs.length
theorem om(xs:Aab)(P:Aao)(h:cp xs P):Q.run 7 dN xs P:=by
 obtain⟨ps,g,start,rfl,nd,EZ,GD,Cj,h⟩:=h;unfold dN;refine ag λN hN=>?_;refine ae (z:=aav start) rfl ?_;show N _;subst hN;refine ag λN hN=>?_;subst hN;refine ag λN hN=>dy λC B hC hB=>?_;have c0:N9 ps g start [(start,none)] [start]:=#[#[by simp[C0],λi c hc=>?_,#[0]],λy hy=>?_,λy hy=>?_,#[0]]
 rotate_left
 .cases i with
  |zero=>exact .inl #[rfl,by simpa using hc.symm]
  |succ i=>simp at hc
 .simp[C0]at hy;subst hy;exact EZ
 .simpa[C0]using hy
 have Z2:∀y∈ps,iD (Ec ps g) (.str y)=some _:=λy hy=>by have:=bv (f:=id) (g:=λp=>PV.lst ((g p).map Bz)) (l:=ps) (a:=y) (by simpa using nd) hy;exact this
 refine dD (λk e=>∃cs as v4 v5 v6,e=[some #[0,Ec ps g],some #[0,.str start],some #[1,D1 cs],some #[1,.lst (as.map .str)],v4,v5,v6]/\N9 ps g start cs as/\(∀y∈C0 cs,y∉as->∀q∈g y,q.2∈C0 cs)/\k=2*(ps.length - cs.length)+as.length) ?_ #[[(start,none)],[start],none,none,none,rfl,c0,λy hy hn=>absurd (by simpa[C0]using hy) hn,rfl];rintro k e M ⟨cs,as,v4,v5,v6,rfl,ca,cl,rfl⟩ km;subst hC;refine Dq.mpr ?_;cases hA:as with
 |nil=>show N _;subst hN;show P (D1 cs);exact h cs ca.ok ca.Dt λy hy=>cl y hy (by rw[hA];simp)
 |cons a0 ar=>
 rw[<- hA];rw[show (!(List.map PV.str as).isEmpty)=true by rw[hA];rfl,if_pos rfl];have Yo:0<as.length:=by rw[hA];simp
 obtain⟨here,hh⟩:∃y,as[as.length - 1]?=some y:=#[_,aab #[]]
 have WI:here∈as:=aaA hh;have Uw:here∈ps:=ca.Dt _ (ca.sub _ WI);subst hB;refine ag λM' Hj=>?_;lia;have ep:KO (as.map PV.str) []=some (.str here,(as.dropLast).map .str):=by show ((as.map PV.str)[(as.map PV.str).length - 1]?).map _=_;rw[aad,aaj,hh,<- List.map_dropLast];rfl
 refine ae ep ?_;lia;subst Hj;refine aU λG B hG hB=>?_;lia;refine ae (Z2 here Uw) ?_;subst hG hB;have M9:∀y∈as,y=here\/y∈as.dropLast:=λy hy=>by
  obtain⟨i,hi,rfl⟩:=aeA hy;by_cases e:i=as.length - 1
  .left;subst e;rw[aab hi]at hh;exact aar hh
  .right;rw[List.mem_iff_getElem];exact#[i,#[3],#[0]]
 refine aB (λj e=>∃Hn KD v5 v6,e=[some #[0,Ec ps g],some #[0,.str start],some #[1,D1 Hn],some #[1,.lst (KD.map .str)],some #[0,.str here],v5,v6]/\N9 ps g start Hn KD/\here∈C0 Hn/\(∀y∈C0 Hn,y≠here->y∉KD->∀q∈g y,q.2∈C0 Hn)/\(∀i q,i<j->(g here)[i]?=some q->q.2∈C0 Hn)/\2*(ps.length - Hn.length)+KD.length<2*(ps.length - cs.length)+as.length) (i:=0)
  #[cs,as.dropLast,v5,v6,rfl,#[ca.ok,ca.Dt,λy hy=>ca.sub y (List.dropLast_subset _ hy),by have:=ca.al;simp;omega],ca.sub _ WI,λy hy C5 hn=>cl y hy λz=>(M9 y z).elim C5 hn,λi q hi=>absurd hi #[],#[3]] ?_ ?_
 .rintro j x e M2 hx ⟨Hn,KD,w5,w6,rfl,Ki,Fm,Kh,seen,ms⟩ k2;obtain⟨q,hq,rfl⟩:∃q,(g here)[j]?=some q/\x=Bz q:=by
   rw[aaj]at hx;cases e:(g here)[j]? with
   |none=>rw[e]at hx;cases hx
   |some q=>rw[e]at hx;exact#[q,rfl,(aar hx).symm]
  have T8:=aaA hq;unfold Bz;lia;refine ae (pf) ?_;lia;by_cases Jc:q.2∈C0 Hn
  .obtain⟨c,_,_,ev⟩:=pO Ki.ok.nd Jc;rw[ev];refine k2 _ #[Hn,KD,_,_,rfl,Ki,Fm,Kh,λi r hi hr=>?_,ms];by_cases ei:i<0+j
   .exact seen i r ei hr
   .have:i=j:=by omega
    subst this;rw[hq]at hr;cases hr;exact Jc
  .rw[tE Jc];have BU:Hn.length<ps.length:=by
    have:=aI (ys:=ps) (List.nodup_cons.mpr #[Jc,Ki.ok.nd]) λy hy=>by
     rcases List.mem_cons.mp hy with rfl|hy
     .exact GD here Uw q T8
     .exact Ki.Dt y hy
    simp[C0]at this;omega
   have Ra:KD.length<=100000:=by have:=Ki.al;omega
   simp only[MO];lia;have Zp:G9 (.Bp (Hn.map λc=>((aav c.1:Key),Hm c.2))) (.str q.2) (.tup [.str q.1,.str here])=some (D1 (Hn++[(q.2,some (q.1,here))])):=by refine(if_pos #[3]).trans ?_;show some (PV.Bp (EM _ (aav q.2) _))=_;rw[iU Jc];unfold D1;rw[aaO];rfl
   refine ae (Zp) ?_;try lia
   refine ae (Em (by simpa using Ra)) ?_;have Ho:∀y,y∈C0 (Hn++[(q.2,some (q.1,here))])↔y∈C0 Hn\/y=q.2:=λy=>by simp[C0]
   refine k2 _ #[_,KD++[q.2],some #[0,.str q.1],some #[0,.str q.2],?_,#[Ki.ok.snoc Jc Fm T8,λy hy=>?_,λy hy=>?_,by have:=Ki.al;simp;omega],(Ho _).mpr (.inl Fm),λy hy C5 hn r hr=>?_,λi r hi hr=>?_,?_]
   .rw[aaO];rfl
   .rcases(Ho y).mp hy with z|rfl
    .exact Ki.Dt y z
    .exact GD here Uw q T8
   .rcases List.mem_append.mp hy with z|z
    .exact(Ho y).mpr (.inl (Ki.sub y z))
    .simp at z;exact(Ho y).mpr (.inr z)
   .rcases(Ho y).mp hy with z|rfl
    .exact(Ho _).mpr (.inl (Kh y z C5 (λw=>hn (by simp[w])) r hr))
    .exact absurd #[0] hn
   .by_cases ei:i<0+j
    .exact(Ho _).mpr (.inl (seen i r ei hr))
    .have:i=j:=by omega
     subst this;rw[hq]at hr;cases hr;exact(Ho _).mpr (.inr rfl)
   .simp;omega
 .rintro e ⟨Hn,KD,w5,w6,rfl,Ki,Fm,Kh,seen,ms⟩;refine km _ _ ms #[Hn,KD,_,_,_,rfl,Ki,λy hy hn r hr=>?_,rfl];by_cases e:y=here
  .subst e;obtain⟨i,hi,rfl⟩:=aeA hr;exact seen i _ (by simp;exact hi) (aab hi)
  .exact Kh y hy e hn r hr
def xU(cs:Cs):((cs.map λc=>((aav c.1:Key),Hm c.2)).map (·.1)).mapM Fh=some (C0 cs):=by
 induction cs with
 |nil=>rfl
 |cons c cs ih=>rw[aaw,aaw,abh,ih];rfl
theorem oe(xs:Aab)(P:Aao)(h:er xs P):Q.run 2 iq xs P:=by
 obtain⟨ps,g,start,rfl,rise,EZ,GD,Cj,h⟩:=h;lia;refine#[ps,g,start,rfl,bR rise,EZ,GD,#[],λcs ok Dt cl=>?_];have hlen:=aI ok.nd Dt;refine#[_,xU cs,#[],λts up=>?_];have e  := bZ (gW up.2 (up.1.nodup_iff.mpr ok.nd)) (rise.sublist abQ) λz=>by rw[up.1.mem_iff,ok.iff cl,ac1,CQ];exact#[λh=>#[h.Dt EZ GD,h],λh=>h.2]
 rw[<- e]at h;exact ae rfl h
theorem um(xs:Aab)(P:Aao)(h:fU xs P):Q.run 2 mN xs P:=by
 obtain⟨ps,ns,ts,hx,hl,Gf,h⟩:=h;obtain⟨nv,rfl,GD⟩:∃nv,xs=[A6 ps ts,nv]/\∀x:Str,Cz (.str x) nv=some (.bl (decide (x∈ns))):=by
  rcases hx with rfl|rfl
  .exact#[_,rfl,λx=>aX]
  .exact#[_,rfl,λx=>nH]
 have e0:iD (A6 ps ts) (.int 0)=some _:=ak rfl;have e1:iD (A6 ps ts) (.int 1)=some _:=ak rfl;lia;refine ae e0 (ae e1 ?_);lia;refine cT (λx=>match x with|.tup [.str a,.str b,.str c,.int d]=>if Bl ns #[a,b,c,d]=true then some (.tup [.str a,.str b,.str c,.int d])else none|_=>none) (λx hx R hR=>?_) #[3] ?_
 .obtain⟨t,ht,rfl⟩:=List.mem_map.mp hx;refine ae (ak rfl) (ae (GD _) ?_);replace hR:R (if Bl ns t=true then some _ else none) _:=hR;show opt (some (Bl ns t)) _;rw[aG];cases e:Bl ns t with
  |false=>rw[e]at hR;exact hR
  |true=>rw[e]at hR;exact hR
 .rw[ac3];have e:ts.filterMap ((λx=>match x with|PV.tup [.str a,.str b,.str c,.int d]=>if Bl ns #[a,b,c,d]=true then some (.tup [.str a,.str b,.str c,.int d])else none|_=>none) ∘ iF)=(ts.filter _).map iF:=bx _ iF ts;rw[e];exact ae rfl h
def AG(a b:Bool):DW (.bl a) (.bl b)=some (.bl (!decide (a=b))):=by cases a<;>cases b<;>rfl
def vK{cs:Cs}(nd:(C0 cs).Nodup){i j:Nat}{v w:Option (Str×Str)}(h1:cs[i]?=some (a,v))(h2:cs[j]?=some (a,w)):i=j:=by
 have g1:(C0 cs)[i]?=some a:=by simp_all
 have g2:(C0 cs)[j]?=some a:=by simp_all
 obtain⟨i1,i2⟩:=List.getElem?_eq_some_iff.mp g1;obtain⟨j1,j2⟩:=List.getElem?_eq_some_iff.mp g2;exact(abk nd).mp (i2.trans j2.symm)
def AV{cs:Cs}(nd:(C0 cs).Nodup){i:Nat}{v:Option (Str×Str)}(h:cs[i]?=some (a,v)):iD (D1 cs) (.str a)=some (Hm v):=by have:=bv (g:=λc=>Hm c.2) nd (aaA h);exact this
def vJ{cs:Cs}(h:y∈C0 cs):∃(i:Nat) (v:Option (Str×Str)),cs[i]?=some (y,v):=by obtain⟨c,hc,rfl⟩:=List.mem_map.mp h;obtain⟨i,hi,e⟩:=List.mem_iff_getElem.mp hc;exact#[i,c.2,#[1]]
theorem wB(xs:Aab)(P:Aao)(h:la xs P):Q.run 8 oK xs P:=by
 obtain⟨ps,ts,fs,one,A4,rfl,nt,tn,fl,h1,h2,hN,hW⟩:=h;have snd  := tn.sublist ((List.filter_sublist.trans abQ:(E8 ps fs ts).Sublist ts).map _);refine ag λN FN=>?_;lia;refine#[ps,fs,ts,.inl rfl,nt.tl,fl,?_];refine#[ps,_,rfl,#[nt.rise,λt ht=>nt.ne t (List.mem_filter.mp ht).1,nt.pl,aaK (abe _ _) nt.tl],?_];refine#[ps,_,A4,rfl,bR nt.rise,h2,λp hp q hq=>ic q hq,by have:=nt.pl;omega,λcs ok sub cl=>?_];have Z1:cs.length<=60:=by have:=aI ok.nd sub;rw[aad]at this;have:=nt.pl;omega
 subst FN;refine ag λN FN=>?_;lia;refine ae pf ?_;by_cases hc:one∈C0 cs;case neg=>rw[tE hc];lia;exact hN λr=>hc ((ok.iff cl).mpr r)
 obtain⟨c,_,_,ec⟩:=pO ok.nd hc;rw[ec];lia;show N _;subst FN;refine ag λN FN=>?_;lia;subst FN;refine ag λN FN=>?_;lia;subst FN;refine ag λN FN=>dy λC B hC hB=>?_;obtain⟨k0,w0,WC⟩:=vJ hc;refine dD (λk e=>∃(ns:A3) (y:Str) (w:Option _) (v7:Aaq),e=[some _,some _,some _,some _,some _,some #[1,.lst (ns.map .str)],some #[0,.str y],v7]/\cs[k]?=some (y,w)/\Wk (E8 ps fs ts) one ns y/\ns.Nodup/\ns.length+k<=60/\∀n∈ns,∃i,k<i/\∃y' x',cs[i]?=some (y',some (n,x'))) ?_ (k:=k0)
  #[[],one,w0,none,rfl,WC,rfl,#[0],by have:=(List.getElem?_eq_some_iff.mp WC).1;simp;omega,#[0]]
 rintro k e M ⟨ns,y,w,v7,rfl,hk,hw,nd,hl,hu⟩ km;subst hC;lia;refine ae (pj _ _) ?_;lia;by_cases e:y=A4
 .rw[decide_eq_true e];lia;show N _;subst FN;lia;refine ae rfl (hW ns (e ▸ hw) nd #[])
 rw[decide_eq_false e];lia;rcases ok.tree k _ hk with ⟨rfl,e2⟩|⟨_,nm,x,e2,e3,e4⟩
 .cases e2;exact absurd rfl e
 subst e2;obtain⟨j,w',hj⟩:=vJ e4;have HR:j<k:=by have:=(List.getElem?_eq_some_iff.mp hj).1;rw[abp]at this;omega
 have E2:cs[j]?=some (x,w'):=by simp_all
 obtain⟨t,ht,en,q⟩:=((nJ ps fs ts).mem _ _ _).mp e3;have XQ:nm∉ns:=λz=>by
  obtain⟨i,hi,y',x',hy⟩:=hu nm z;rcases ok.tree i _ hy with ⟨rfl,_⟩|⟨_,nm',x2,g2,g3,g4⟩
  .exact absurd hi (Nat.not_lt_zero _)
  .cases g2;obtain⟨t',KZ,Zq,q'⟩:=((nJ ps fs ts).mem _ _ _).mp g3;have:t=t':=bJ snd ht KZ (en.symm.trans Zq);subst this;rcases Ends.two q q' with ⟨_,z2⟩|⟨_,z2⟩
   .subst z2;have:=vK ok.nd hk hy;omega
   .subst z2;have:=vK ok.nd E2 hy;omega
 subst hB;refine ag λM' Hj=>?_;lia;refine ae (AV ok.nd hk) #[rfl,?_];subst Hj;lia;refine ae (Em (by rw[aad];omega)) ?_;refine km j _ HR #[ns++[nm],x,w',_,by rw[aaO];rfl,E2,hw.app #[t,ht,en.symm,x,Ends.sym q,rfl],?_,#[3],λn hn=>?_]
 .rw[abH];exact#[nd,#[0],λa ha b hb=>by simp at hb;subst hb;exact λe=>XQ (e ▸ ha)]
 .rcases List.mem_append.mp hn with z|z
  .obtain⟨i,hi,r⟩:=hu n z;exact#[i,#[],r]
  .simp at z;subst z;exact#[k,HR,y,x,hk]
def Fv{S:A3}{k:Str}:y∈ED S k↔y∈S\/y=k:=by
 unfold ED;split
 .rename_i h;exact#[.inl,λz=>z.elim id λe=>e ▸ h]
 .simp
def n5{S:A3}{k:Str}(h:S.Nodup):(ED S k).Nodup:=by
 unfold ED;split
 .exact h
 .rename_i hk;rw[abH];exact#[h,#[0],λa ha b hb=>by simp at hb;subst hb;exact λe=>hk (e ▸ ha)]
def wT{S:A3}:C9 (.str y) (.set S)=some (.bl (!decide (y∈S))):=rfl
theorem qj(xs:Aab)(P:Aao)(h:fT xs P):Q.run 7 fq xs P:=by
 obtain⟨ps,ts,rfl,ok,h⟩:=h;have rise:=ok.rise;have e0:iD (A6 ps ts) (.int 0)=some (.tup (ps.map .str)):=ak (j:=0) rfl;have Dt:∀p∈ps,∀q∈Ci ps ts p,q.2∈ps:=λp _=>ic;unfold fq;refine ag λN hN=>?_;lia;refine#[ps,ts,rfl,ok,?_];revert Dt h;generalize Ci ps ts=g;intro h Dt;subst hN;refine ag λN hN=>?_;show N _;subst hN;refine ag λN hN=>?_;show N _;subst hN;refine ag λN hN=>aU λG B hG hB=>?_;lia;refine ae e0 ?_;refine aB (λi e=>∃(S:A3) (v4 v5 v6:Aaq),e=[some #[0,A6 ps ts],some #[0,Ec ps g],some #[1,.set S],some #[1,.lst ((((ps.take i).filter (root ps g)).map λs=>ps.filter (rb g s)).map λq=>.tup (q.map .str))],v4,v5,v6]/\S.Nodup/\(∀y∈S,y∈ps)/\(∀y,y∈S↔∃p∈ps.take i,BS g p y)) (i:=0)
  #[[],none,none,none,rfl,#[0],#[0],λy=>#[0]] ?_ ?_
 case refine_2=>rintro e ⟨S,v4,v5,v6,rfl,_⟩;show N _;rw[aad,aaG,aa2];subst hN;exact ae rfl h
 rintro i x e M hx ⟨S,v4,v5,v6,rfl,Wa,Kt,hS⟩ k;rw[aaG]at k hS ⊢;have hit:i<ps.length:=by have:=(List.getElem?_eq_some_iff.mp hx).1;rwa [aad]at this
 have ex:x=.str ps[i]:=by simp_all
 subst ex hG hB;have fs:=iG (f:=root ps g) hit;have before:∀p∈ps,Bv p ps[i]↔p∈ps.take i:=λp hp=>by
  constructor
  .intro BU;obtain⟨j,hj,rfl⟩:=aeA hp;rcases Nat.lt_trichotomy j i with z|z|z
   .exact List.mem_take_iff_getElem.mpr #[j,#[],rfl]
   .subst z;exact absurd BU (b9 _)
   .exact absurd BU (dh (List.pairwise_iff_getElem.mp rise i j hit hj z))
  .intro hm;obtain⟨j,hj,rfl⟩:=List.mem_take_iff_getElem.mp hm;exact List.pairwise_iff_getElem.mp rise j i #[] hit #[]
 have rt:root ps g ps[i]=!decide (ps[i]∈S):=by
  rw[aaQ,BF,adc,decide_eq_false_iff_not];constructor
  .intro h e;obtain⟨p,hp,hr⟩:=(hS _).mp e;have Sh:=abr hp;exact absurd ((before p Sh).mpr hp) (h p Sh hr)
  .intro h p hp hr BU;exact h ((hS _).mpr #[p,(before p hp).mp BU,hr])
 have tk:∀p,p∈ps.take (i+1)↔p∈ps.take i\/p=ps[i]:=λp=>by rw[abC,aab hit,acB];simp
 refine eT λA1 B1 US UR=>?_;lia;refine ae wT ?_;lia;by_cases eS:ps[i]∈S
 .have e:(!decide (ps[i]∈S))=false:=by simp[eS]
  rw[e]at rt;simp only[e,abA,if_false];subst UR;refine k _ #[S,some #[0,.str ps[i]],v5,v6,?_,Wa,Kt,λy=>?_]
  .rw[fs,rt];simp
  .rw[hS y];constructor
   .rintro⟨p,hp,hr⟩;exact#[p,(tk p).mpr (.inl hp),hr]
   .rintro⟨p,hp,hr⟩;rcases(tk p).mp hp with hp|rfl
    .exact#[p,hp,hr]
    .obtain⟨p',Si,J0⟩:=(hS _).mp eS;exact#[p',Si,BS.trans J0 hr]
 .have e:(!decide (ps[i]∈S))=true:=by simp[eS]
  rw[e]at rt;simp only[e,if_true];subst US;refine ag λN2 Rb=>?_;lia;refine#[ps,g,ps[i],rfl,rise,aa8 _,Dt,ok.pl,?_];lia;subst Rb;refine ag λN2 Rb=>aU λG B hG hB=>?_;lia;subst hG hB;refine aB (λj e=>∃(S':A3) (v6:Aaq),e=[some #[0,A6 ps ts],some #[0,Ec ps g],some #[1,.set S'],some _,some #[0,.str ps[i]],some _,v6]/\S'.Nodup/\(∀y∈S',y∈ps)/\(∀y,y∈S'↔y∈S\/y∈(ps.filter (rb g ps[i])).take j)) (i:=0)
   #[S,v6,rfl,Wa,Kt,λy=>#[0]] ?_ ?_
  .rintro j x e M2 hx ⟨S',w6,rfl,Om,Sa,NG⟩ k2;rw[aaG]at k2 NG;have hj  :=by have:=(List.getElem?_eq_some_iff.mp hx).1;rwa [aad]at this
   have ex:x=.str (ps.filter (rb g ps[i]))[j]:=by simp_all
   subst ex;have hlen:=aI Om Sa;refine#[trivial,by have:=ok.pl;omega,k2 _ #[_,_,rfl,n5 Om,λy hy=>?_,λy=>?_]]
   .rcases Fv.mp hy with z|rfl
    .exact Sa y z
    .exact(List.mem_filter.mp (aa8 hj)).1
   .rw[Fv,NG y,abC,aab hj,acB];simp only[Option.toList_some,aeL];exact or_assoc
  .rintro e ⟨S',w6,rfl,Om,Sa,NG⟩;rw[aaG,aad,aa2]at NG;show N2 _;subst Rb;lia;refine ae (Em (by simp;have:=abe (root ps g) (ps.take i);simp at this;have:=ok.pl;omega)) ?_;refine k _ #[S',some #[0,.str ps[i]],some #[0,.tup ((ps.filter (rb g ps[i])).map .str)],w6,?_,Om,Sa,λy=>?_]
   .rw[fs,rt];simp
   .rw[NG y,hS y];constructor
    .rintro(⟨p,hp,hr⟩|hy)
     .exact#[p,(tk p).mpr (.inl hp),hr]
     .exact#[ps[i],(tk _).mpr (.inr rfl),CQ.mp (List.mem_filter.mp hy).2]
    .rintro⟨p,hp,hr⟩;rcases(tk p).mp hp with hp|rfl
     .exact .inl #[p,hp,hr]
     .exact .inr (List.mem_filter.mpr #[hr.Dt (aa8 _) Dt,CQ.mpr hr])
end
section
variable{one A4:Str}{i:Nat}{js:Aah}{R:Hs}
def ne_int(a b:Int):DW (.int a) (.int b)=some (.bl (!decide (a=b))):=by show some _=_;simp
structure Cm(ps:A3)(os:Aah)(p:Str)(fs:A3):Prop where
 nd:fs.Nodup
 st:p∈fs
 Dt:∀y∈fs,y∈ps
 LI:∀y∈fs,BS (Ci ps os) p y
def Cm.snoc{p nm:Str}{fs:A3}(c:Cm ps os p fs)(hx:x∈fs)(hy:y∉fs)(h:(nm,y)∈Ci ps os x):Cm ps os p (fs++[y]):=by
 refine#[?_,abt _ c.st,λz hz=>?_,λz hz=>?_]
 .rw[abH];refine#[c.nd,#[0],λa ha b hb e=>?_];rw[List.mem_singleton.mp hb]at e;exact hy (e ▸ ha)
 .rcases List.mem_append.mp hz with z1|z1
  .exact c.Dt z z1
  .rw[List.mem_singleton.mp z1];exact ic _ h
 .rcases List.mem_append.mp hz with z1|z1
  .exact c.LI z z1
  .rw[List.mem_singleton.mp z1];exact .step (c.LI x hx) h
def Cm.full{p:Str}{fs:A3}(c:Cm ps os p fs)(cl:∀t∈os,t.one∈fs↔t.A4∈fs){z:Str}(r:BS (Ci ps os) p z):z∈fs:=by
 induction r with
 |refl=>exact c.st
 |step _ e ih=>
  obtain⟨t,ht,_,_,h⟩:=Ed.mp e;rcases h with ⟨rfl,rfl⟩|⟨rfl,rfl⟩
  .exact(cl t ht).mp ih
  .exact(cl t ht).mpr ih
theorem ux(xs:Aab)(P:Aao)(h:jg xs P):Q.IP 8 fu xs P:=by
 obtain⟨ps,os,p,rfl,up,hp,ho,Sh,oo,h⟩:=h;have pn:=bR up;unfold fu;refine ag λN hN=>?_;show N _;subst hN;refine ag λN hN=>?_;show N _;subst hN;refine ag λN hN=>dy λC B hC hB=>?_;have c0:Cm ps os p [p]:=#[#[0],#[0],λy hy=>by rw[List.mem_singleton.mp hy];exact Sh,λy hy=>by rw[List.mem_singleton.mp hy];exact .refl]
 refine dD (λk e=>∃(fs:A3) (m:Nat) (v4 v5 v6 v7:Aaq),e=[some #[0,.str p],some #[0,.lst (os.map iF)],some #[1,.lst (fs.map .str)],some #[0,.int (m:Int)],v4,v5,v6,v7]/\Cm ps os p fs/\(fs.length<=m->∀t∈os,t.one∈fs↔t.A4∈fs)/\k=ps.length+1 - m) (k:=ps.length+1) ?_ #[[p],0,none,none,none,none,rfl,c0,λq=>by simp at q,rfl];rintro k e M ⟨fs,m,v4,v5,v6,v7,rfl,cm,cl,rfl⟩ km;subst hC;have fl:fs.length<=ps.length:=aI cm.nd cm.Dt;lia;rw[aad];by_cases hm:(m:Int)<fs.length;case neg=>
  rw[decide_eq_false hm,if_neg #[0]];show N _;subst hN;refine#[fs,gg _,#[],λss us=>?_];have e:ss=ps.filter (rb (Ci ps os) p):=by refine bZ (gW us.2 (us.1.nodup_iff.mpr cm.nd)) (up.sublist abQ) λz=>?_;rw[us.1.mem_iff,ac1,CQ];exact#[λhz=>#[cm.Dt z hz,cm.LI z hz],λhz=>cm.full (cl #[]) hz.2]
  rw[e];exact h
 rw[decide_eq_true hm,if_pos rfl];subst hB;refine ag λM' Hj=>?_;lia;rw[aad];subst Hj;refine aU λG B hG hB=>?_;lia;refine aB (λj e=>∃(ext:A3) (v4 v5 v6 v7:Aaq),e=[some #[0,.str p],some #[0,.lst (os.map iF)],some #[1,.lst ((fs++ext).map .str)],some #[0,.int (fs.length:Int)],v4,v5,v6,v7]/\Cm ps os p (fs++ext)/\(ext=[]->∀t∈os.take j,t.one∈fs↔t.A4∈fs)) (i:=0) #[[],v4,v5,v6,v7,by rw[aa0],by rw[aa0];exact cm,λ_ t ht=>by simp at ht] ?_ ?_;case refine_2=>
  rintro e ⟨ext,w4,w5,w6,w7,rfl,Mi,Kh⟩;rw[aad,aaG,aa2]at Kh;refine km (ps.length+1 - fs.length) _ #[] #[fs++ext,fs.length,w4,w5,w6,w7,rfl,Mi,λq=>?_,rfl];have:ext=[]:=by rw[aan]at q;exact List.length_eq_zero_iff.mp #[]
  rw[this,aa0];exact Kh this
 rintro j x e M2 hj ⟨ext,w4,w5,w6,w7,rfl,Mi,Kh⟩ k;rw[aaG]at k Kh;have QZ:j<os.length:=by have:=(List.getElem?_eq_some_iff.mp hj).1;simpa using this
 obtain⟨t,et⟩:∃t,os[j]?=some t:=#[_,aab QZ]
 have ex:x=iF t:=by simp_all
 have tm:t∈os:=aaA et;have Ll:os.take (j+1)=os.take j++[t]:=by rw[abC,et];rfl
 have e1  := Ed.mpr #[t,tm,oo t tm,rfl,.inl #[rfl,rfl]];have e2  := Ed.mpr #[t,tm,oo t tm,rfl,.inr #[rfl,rfl]];have gl  := aI Mi.nd Mi.Dt;subst ex hG hB;generalize os.map iF=ov at k ⊢;unfold iF;lia;refine ae bW (ae bW (ae (AG _ _) ?_));lia;have push:∀y:Str,Cm ps os p ((fs++ext)++[y])->M2 [some #[0,.str p],some #[0,.lst ov],some #[1,.lst ((fs++ext).map .str++[.str y])],some #[0,.int (fs.length:Int)],some #[0,.str t.nm],some #[0,.str t.one],some #[0,.str t.A4],some #[0,.int t.cost]]:=λy hy=>by refine k _ #[ext++[y],some ⟨0,.str t.nm⟩,some ⟨0,.str t.one⟩,some ⟨0,.str t.A4⟩,some ⟨0,.int t.cost⟩,#[1],by rw[<- abS];exact hy,λq=>by simp at q]
 have ln:((fs++ext).map PV.str).length<=100000:=by rw[aad];omega
 by_cases c1:t.one∈fs++ext<;>by_cases c2:t.A4∈fs++ext
 .rw[decide_eq_true c1,decide_eq_true c2,if_neg #[2]];refine k _ #[ext,_,_,_,_,rfl,Mi,λq u hu=>?_];rw[Ll]at hu;rcases List.mem_append.mp hu with z|z
  .exact Kh q u z
  .rw[List.mem_singleton.mp z];rw[q,aa0]at c1 c2;exact#[λ_=>c2,λ_=>c1]
 .rw[decide_eq_true c1,decide_eq_false c2,if_pos #[2]];simp only[Lp];lia;refine ae bW ?_;rw[decide_eq_true c1];lia;exact ae (Em ln) (push _ (Mi.snoc c1 c2 e1))
 .rw[decide_eq_false c1,decide_eq_true c2,if_pos #[2]];simp only[Lp];lia;refine ae bW ?_;rw[decide_eq_false c1];lia;exact ae (Em ln) (push _ (Mi.snoc c2 c1 e2))
 .rw[decide_eq_false c1,decide_eq_false c2,if_neg #[2]];refine k _ #[ext,_,_,_,_,rfl,Mi,λq u hu=>?_];rw[Ll]at hu;rcases List.mem_append.mp hu with z|z
  .exact Kh q u z
  .rw[List.mem_singleton.mp z];rw[q,aa0]at c1 c2;exact#[λw=>absurd w c1,λw=>absurd w c2]
abbrev Hs:=List (Str×A3)
structure Rw(os:Aah)(one A4:Str)(i:Nat)(js:Aah)(R:Hs):Prop where
 wk:∀r∈R,Wk os one r.2 r.1/\r.2.Nodup
 nd:(R.map (·.2)).Nodup
 rt:(one,[])∈R
 par:∀r∈R,r.2=[]\/∃(k:Nat) (r':Str×A3) (m:Str),k<=i/\R[k]?=some r'/\r.2=r'.2++[m]/\(k=i->m∈js.map oR.nm)
 cl:∀(k:Nat) (r:Str×A3),R[k]?=some r->k<i->r.1≠A4/\∀t∈os,t.nm∉r.2->∀c,Ends t r.1 c->(c,r.2++[t.nm])∈R
 cj:∀r:Str×A3,R[i]?=some r->∀t∈js,t.nm∉r.2->∀c,Ends t r.1 c->(c,r.2++[t.nm])∈R
def Rw.new:Rw os one A4 0 [] [(one,[])]:=by
 refine#[λr hr=>?_,#[0],#[0],λr hr=>?_,λk r _ h=>absurd h (Nat.not_lt_zero _),λr _ t ht=>#[1]]
 .rw[List.mem_singleton.mp hr];exact#[rfl,#[0]]
 .rw[List.mem_singleton.mp hr];exact .inl rfl
theorem Rw.next(h:Rw os one A4 i os R){r:Str×A3}(hr:R[i]?=some r)(ho:r.1≠A4):Rw os one A4 (i+1) [] R:=by
 refine#[h.wk,h.nd,h.rt,λs hs=>?_,λk s hk hl=>?_,λs _ t ht=>#[1]]
 .rcases h.par s hs with z|⟨k,r',m,k1,k2,k3,_⟩
  .exact .inl z
  .exact .inr #[k,r',m,#[],k2,k3,λe=>#[]]
 .rcases aaS k i with z|z
  .exact h.cl k s hk z
  .have e:k=i:=by omega
   rw[e]at hk;have e2  := aar (hk.symm.trans hr);rw[e2];exact#[ho,h.cj r hr]
def Rw.skip(h:Rw os one A4 i js R){r:Str×A3}(hr:R[i]?=some r)(hs:t.nm∈r.2\/∀c,¬ Ends t r.1 c):Rw os one A4 i (js++[t]) R:=by
 refine#[h.wk,h.nd,h.rt,λs La=>?_,h.cl,λs hk u hu hn c hc=>?_]
 .rcases h.par s La with z|⟨k,r',m,k1,k2,k3,k4⟩
  .exact .inl z
  .exact .inr #[k,r',m,k1,k2,k3,λe=>#[1]]
 .rcases List.mem_append.mp hu with z|z
  .exact h.cj s hk u z hn c hc
  .rw[hr]at hk;cases hk;rw[List.mem_singleton.mp z]at hn hc;rcases hs with q|q
   .exact absurd q hn
   .exact absurd hc (q c)
theorem Rw.add(h:Rw os one A4 i js R){r:Str×A3}(hr:R[i]?=some r)(ht:t∈os)(ne:t.one≠t.A4)(hn:t.nm∉r.2)(hc:Ends t r.1 c)(hj:t.nm∉js.map oR.nm):Rw os one A4 i (js++[t]) (R++[(c,r.2++[t.nm])]):=by
 have hm  := aaA hr;have il  := (List.getElem?_eq_some_iff.mp hr).1;have old:∀(k:Nat) (s:Str×A3),k<R.length->(R++[(c,r.2++[t.nm])])[k]?=some s->R[k]?=some s:=λk s hk e=>by rwa [aat hk]at e
 obtain⟨w,d⟩:=h.wk r hm;have new:r.2++[t.nm]∉R.map (·.2):=λz=>by
  obtain⟨s,hs,e⟩:=List.mem_map.mp z;rcases h.par s hs with q|⟨k,r',m,k1,k2,k3,k4⟩
  .rw[q]at e;exact absurd e #[0]
  .rw[e]at k3;have q:=List.append_inj' k3 rfl;have ki:k=i:=by
    have g1:(R.map (·.2))[k]?=some r'.2:=by simp_all
    have g2:(R.map (·.2))[i]?=some r.2:=by simp_all
    obtain⟨a1,a2⟩:=List.getElem?_eq_some_iff.mp g1;obtain⟨b1,b2⟩:=List.getElem?_eq_some_iff.mp g2;exact(abk h.nd).mp (a2.trans (q.1.symm.trans b2.symm))
   have m1:t.nm=m:=by simp_all
   exact hj (m1 ▸ k4 ki)
 refine#[λs hs=>?_,?_,abt _ h.rt,λs hs=>?_,λk s hk hl=>?_,λs hk u hu Jo c' Fm=>?_]
 .rcases List.mem_append.mp hs with z|z
  .exact h.wk s z
  .rw[List.mem_singleton.mp z];refine#[w.app #[t,ht,rfl,c,hc,rfl],?_];rw[abH];exact#[d,#[0],λa ha b hb e=>hn #[1]]
 .rw[aaO,abH];exact#[h.nd,#[0],λa ha b hb e=>new #[1]]
 .rcases List.mem_append.mp hs with z|z
  .rcases h.par s z with q|⟨k,r',m,k1,k2,k3,k4⟩
   .exact .inl q
   .refine .inr #[k,r',m,k1,?_,k3,λe=>#[1]];rw[aat #[]];exact k2
  .rw[List.mem_singleton.mp z];refine .inr #[i,r,t.nm,aai _,?_,rfl,λ_=>#[1]];rw[aat il];exact hr
 .obtain⟨a,b⟩:=h.cl k s (old k s #[] hk) hl;exact#[a,λu hu hn c hc=>abt _ (b u hu hn c hc)]
 .have hk:=old i s il hk;rcases List.mem_append.mp hu with z|z
  .exact abt _ (h.cj s hk u z Jo c' Fm)
  .rw[hr]at hk;cases hk;rw[List.mem_singleton.mp z]at Jo Fm ⊢;rw[Ends.one ne Fm hc];exact aaH _ #[0]
theorem Rw.full(h:Rw os one A4 i [] R)(hl:R.length<=i):∀(n:Nat) (ns:A3) (v:Str),ns.length=n->Wk os one ns v->ns.Nodup->(v,ns)∈R
 |0,ns,v,e,w,_=>by have:=List.length_eq_zero_iff.mp e;subst this;cases w;exact h.rt
 |n+1,ns,v,e,w,d=>by
  obtain⟨ms,m,rfl⟩:∃ms m,ns=ms++[m]:=#[ns.dropLast,ns.getLast (λz=>#[1]),(List.dropLast_concat_getLast _).symm]
  obtain⟨b,w1,t,ht,et,c,q,w2⟩:=w.cut;subst w2;obtain⟨d1,_,d2⟩:=List.nodup_append.mp d;have ih:=Rw.full h hl n ms b #[1] w1 d1;obtain⟨k,hk,ek⟩:=List.mem_iff_getElem.mp ih;have:=(h.cl k (b,ms) #[1] #[]).2 t ht (λz=>d2 _ z _ #[0] et) c q
  rwa [et]at this
theorem Rw.len(h:Rw os one A4 i js R)(nd:(os.map oR.nm).Nodup)(ne:∀t∈os,t.one≠t.A4)(ac:LA os)(oo:∀t∈os,BD ps t=true)(ho:one∈ps):R.length<=ps.length:=by
 have fn:(R.map (·.1)).Nodup:=by
  rw[ab7,acf];intro a b ha hb WK e;rw[aad]at ha hb;rw[adi,adi]at e;obtain⟨w1,d1⟩:=h.wk R[a] (aa8 _);obtain⟨w2,d2⟩:=h.wk R[b] (aa8 _);rw[<- e]at w2;have q:=mL nd ne ac w1 w2 d1 d2;have:(R.map (·.2))[a]'#[1]=(R.map (·.2))[b]'#[1]:=by simp_all
  have:=(abk h.nd).mp this;omega
 have:=aI fn λv hv=>by obtain⟨r,hr,rfl⟩:=List.mem_map.mp hv;exact BS.Dt (jh (Dv oo) (h.wk r hr).1) ho λp _ q hq=>ic q hq
 rwa [aad]at this
noncomputable def DN(r:Str×A3):PV:=.tup [.str r.1,.tup (r.2.map .str)]
def zd(x a b:Str):Cz (.str x) (.tup [.str a,.str b])=some (.bl (decide (x=a\/x=b))):=by
 have:=aX (ys:=[a,b]) (x:=x);have e:decide (x∈[a,b])=decide (x=a\/x=b):=by simp
 rw[<- e];exact this
theorem uq(xs:Aab)(P:Aao)(h:bB xs P):Q.IP 1 iK xs P:=by
 obtain⟨ps,ts,rfl,hl,h⟩:=h;have e0:iD (A6 ps ts) (.int 0)=some _:=ak rfl;have e1:iD (A6 ps ts) (.int 1)=some _:=ak rfl;simp only[IP,FX];lia;refine ae e1 ?_;lia;refine cT (λx=>match x with|.tup [.str a,.str b,.str c,.int d]=>if BD ps #[a,b,c,d]=true then some (.tup [.str a,.str b,.str c,.int d])else none|_=>none) (λx hx R hR=>?_) #[3] ?_
 .obtain⟨t,ht,rfl⟩:=List.mem_map.mp hx;refine ae (ak rfl) (ae e0 (ae aX ?_));replace hR:R (if BD ps t=true then some _ else none) _:=hR;unfold BD at hR;show opt _ _;rw[aG];cases e:decide (t.one∈ps)with
  |false=>rw[e]at hR;exact hR
  |true=>
   rw[e]at hR;refine ae (ak rfl) (ae e0 (ae aX ?_));show opt _ _;rw[aG];cases e2:decide (t.A4∈ps)with
   |false=>rw[e2]at hR;exact hR
   |true=>rw[e2]at hR;exact hR
 .rw[ac3];have e:ts.filterMap ((λx=>match x with|PV.tup [.str a,.str b,.str c,.int d]=>if BD ps #[a,b,c,d]=true then some (.tup [.str a,.str b,.str c,.int d])else none|_=>none) ∘ iF)=(ts.filter _).map iF:=bx _ iF ts;rw[e];exact h
end
section
variable{one A4:Str}{i:Nat}{js:Aah}{R:Hs}
theorem be{g:WG}{f:WE}{js:Aae}(X G:O->PV):∀{l:List O} {acc:Aab},(∀a∈l,∀R:PV->En->Prop,R (G a) env->g (X a) (Eb js env) λb1=>f b1 λy b3=>R y (BV js env b3))->acc.length+l.length<=100000->P (.lst (acc++l.map G)) env->Cg g Ei f js P (l.map X) env acc
 |[],acc,_,_,k=>by simpa[Cg]using k
 |a::l,acc,h,hl,k=>by
  have Jp  :=by simpa[abZ]using hl
  exact h a #[0] (λy e=>acc.length<=100000/\Cg g Ei f js P _ e _) #[#[],be X G (λy hy=>h y #[1]) #[3] #[1]]
end
variable{f:WE}
theorem dm{g:WG}{c:WT}(X:O->PV)(K:O->Bool)(V:O->PV):∀{l:List O} {acc:Aab},(∀a∈l,∀R:Aat->En->Prop,R (if K a=true then some (V a)else none) env ->
   g (X a) (Eb js env) λb1=>c b1 λok b2=>if ok=true then f b2 λy b3=>R (some y) (BV js env b3)else R none (BV js env b2))->acc.length+l.length<=100000->P (.lst (acc++(l.filter K).map V)) env->Cg g c f js P (l.map X) env acc
 |[],acc,_,_,k=>by simpa[Cg]using k
 |a::l,acc,h,hl,k=>by
  rw[aay]at hl;exact h a #[0] (λo e=>match o with|some y=>acc.length<=100000/\Cg g c f js P (l.map X) e (acc++[y])|none=>Cg g c f js P (l.map X) e acc) (by
   cases e:K a with
   |false=>exact dm X K V (λb hb=>h b (by simp[hb])) #[] (by simpa[ad8,e]using k)
   |true=>exact#[#[],dm X K V (λb hb=>h b (by simp[hb])) #[3] (by simpa[ad8,e]using k)])
def kf(f:O->Str)(g:O->PV):∀l:List O,(l.map λx=>PV.tup [.str (f x),g x]).mapM D5=some (l.map λx=>((aav (f x):Key),g x))
 |[]=>rfl
 |x::l=>by rw[aaw,abh,kf f g l];rfl
def nR(f:O->Str)(g:O->PV):∀(l done:List O),((done++l).map f).Nodup->(l.map λx=>((aav (f x):Key),g x)).foldl (λacc kv=>EM acc kv.1 kv.2) (done.map λx=>((aav (f x):Key),g x))=(done++l).map λx=>((aav (f x):Key),g x)
 |[],done,_=>by rw[aa0];rfl
 |x::l,done,nd=>by
  rw[aaw,ac2];have hn:f x∉done.map f:=λz=>by rw[aaO,abH]at nd;exact nd.2.2 _ z _ #[0] rfl
  show List.foldl _ (EM _ (aav (f x)) (g x)) _=_;rw[iU hn];have e:(done.map λx=>((aav (f x):Key),g x))++[(aav (f x),g x)]=(done++[x]).map λx=>((aav (f x):Key),g x):=by rw[aaO];rfl
  rw[e,nR f g l (done++[x]) (by rwa [abS]),abS];rfl
def kQ(f:O->Str)(g:O->PV)(l:List O)(nd:(l.map f).Nodup)(hl:l.length<=1000):EB [.lst (l.map λx=>PV.tup [.str (f x),g x])]=some (.Bp (l.map λx=>((aav (f x):Key),g x))):=by show (if (l.map λx=>PV.tup [.str (f x),g x]).length<=1000 then ((l.map λx=>PV.tup [.str (f x),g x]).mapM D5).map (λgE=>PV.Bp (DT gE))else none)=_;rw[if_pos (by simpa using hl),kf];show some (PV.Bp (DT _))=_;have:=nR f g l [] (by simpa using nd);rw[aaL]at this;unfold DT;rw[show ([]:List (Key×PV))=([]:List O).map λx=>((aav (f x):Key),g x)from rfl,this]
def xG(a b:A3):Br 60 (.lst (a.map .str)) (.lst (b.map .str))=some (decide (a=b)):=by
 have t:=xE (d:=58) a b;change (((a.map PV.str).zip (b.map PV.str)).mapM (λp=>Br 59 p.1 p.2)).map (λbs=>bs.all id && (a.map PV.str).length==(b.map PV.str).length)=_ at t;show (if (a.map PV.str).length=(b.map PV.str).length then (((a.map PV.str).zip (b.map PV.str)).mapM (λp=>Br 59 p.1 p.2)).map (λbs=>bs.all id)else some false)=_;by_cases h:(a.map PV.str).length=(b.map PV.str).length
 .rw[if_pos h];cases e:((a.map PV.str).zip (b.map PV.str)).mapM (λp=>Br 59 p.1 p.2)with
  |none=>rw[e]at t;cases t
  |some bs=>rw[e]at t;rw[<- t,h];simp
 .rw[if_neg h,decide_eq_false λz=>h (by rw[z])]
def xF(l:Aab):BJ (.tup l) (.tup [])=some (.bl (l.length==0)):=by have z:Br 60 (.tup l) (.tup [])=((l.zip ([]:Aab)).mapM λp=>Br 59 p.1 p.2).map λbs=>bs.all id && l.length==0:=rfl;show (Br 60 (.tup l) (.tup [])).map _=_;rw[z,aeK];rfl
def yd{side gs:A3}(h:D3 (D0 side) gs):side=gs↔side.Pairwise Bv:=by
 have gd:gs.Nodup:=h.1.nodup_iff.mpr (lS side);have gr:gs.Pairwise Bv:=gW h.2 gd;constructor
 .rintro rfl;exact gr
 .intro r;exact bZ r gr λz=>by rw[h.1.mem_iff,kR]
noncomputable def FU(ps:A3):PV->Bool
 |.str p=>decide (p∈ps)
 |_=>false
def oM:∀(zs:Aab),(∀y∈zs,FU ps y=true)->∃side:A3,zs=side.map .str/\∀p∈side,p∈ps
 |[],_=>#[[],rfl,#[0]]
 |z::zs,h=>by
  obtain⟨sd,e1,e2⟩:=oM zs λy hy=>h y (aaq _ hy);have:=h z aaz;cases z with
  |str p=>exact#[p::sd,by rw[e1];rfl,λq hq=>(List.mem_cons.mp hq).elim (λe=>e ▸ of_decide_eq_true this) (e2 q)]
  |_=>cases this
variable{l:Aab}
theorem fg{r:Int}(h0:0<=r)(h1:r<l.length):∃z∈l,iD (.lst l) (.int r)=some z:=by
 obtain⟨i,rfl⟩:∃i:Nat,r=i:=#[r.toNat,#[]]
 have hi:i<l.length:=by omega
 exact#[l[i],aa8 _,ak (aab hi)]
section
variable{one A4:Str}
theorem wZ{us:Aah}{ix:Aan}(hl:ix.length=us.length)(nd:ix.Nodup)(lt:∀i∈ix,i<us.length):(ix.map λi=>us.getD i t0).Perm us:=by
 have h1:ix.Perm (aa3 us.length):=by
  refine(List.perm_ext_iff_of_nodup nd ad7).mpr λi=>?_;rw[List.mem_range];refine#[lt i,λhi=>?_];have:=aI nd (λx hx=>List.mem_range.mpr (lt x hx));exact acL λhn=>by
   have h2:(i::ix).Nodup:=List.nodup_cons.mpr #[hn,nd];have h3:=aI (ys:=aa3 us.length) h2 (λx hx=>by
    rcases List.mem_cons.mp hx with rfl|hx
    .exact List.mem_range.mpr hi
    .exact List.mem_range.mpr (lt x hx))
   simp at h3;omega
 have h2:((aa3 us.length).map λi=>us.getD i t0)=us:=by
  apply abR;intro i;rw[aaj];by_cases hi:i<us.length
  .rw[acq hi];simp[hi]
  .rw[aam (by simpa using hi),aam #[]];rfl
 have h3:=h1.map λi=>us.getD i t0;rw[h2]at h3;exact h3
end
noncomputable def KP(ps:A3)(L:Str->Int):PV:=.Bp (ps.map λp=>(aav p,.int (L p)))
def nC{L:Str->Int}{p:Str}(nd:ps.Nodup)(h:p∈ps):iD (KP ps L) (.str p)=some (.int (L p)) :=
 bv (f:=id) (g:=λp=>PV.int (L p)) (l:=ps) (a:=p) (by simpa using nd) h
theorem xf(nd:ps.Nodup):∃L:Str->Int,(∀x∈ps,∀y∈ps,L x=L y->x=y)/\(ps.zipIdx.map λq=>((aav q.1:Key),PV.int (q.2:Int)))=ps.map λp=>((aav p:Key),PV.int (L p)):=by
 refine#[λp=>(ps.idxOf p:Int),λx hx y hy e=>?_,?_]
 .have e:((ps.idxOf x:Nat):Int)=(ps.idxOf y:Nat):=e;have e:ps.idxOf x=ps.idxOf y:=by omega
  have h1:=aeO (List.idxOf_lt_length_iff.mpr hx);have h2:=aeO (List.idxOf_lt_length_iff.mpr hy);rw[<- h1,<- h2];congr 1
 .apply abR;intro i;rw[aaj,aaj,adl];rcases aaS i ps.length with z|z
  .rw[aab z];show some ((aav ps[i]:Key),PV.int ((0+i:Nat):Int))=some (aav ps[i],PV.int (ps.idxOf ps[i]:Int));have hl:=List.idxOf_lt_length_iff.mpr (aa8 z);have:=(abk nd).mp (aeO hl);rw[aaG,this]
  .rw[aam z];rfl
noncomputable def FT(t:oR):PV:=.tup [.int t.cost,.str t.nm,iF t]
def vy:∀os:Aah,(os.map FT).mapM HV=some (os.map λu=>(u.cost,u.nm))
 |[]=>rfl
 |t::os=>by rw[aaw,abh,vy os];rfl
def Ae:(Ct (ts.map λt=>((aav t.nm:Key),iF t)) (aav n)).isSome=decide (n∈ts.map oR.nm):=by
 induction ts with
 |nil=>rfl
 |cons t ts ih=>
  rw[aaw];by_cases e:t.nm=n
  .rw[show Ct ((aav t.nm,iF t)::ts.map λt=>((aav t.nm:Key),iF t)) (aav n)=some (iF t)from by simp[Ct,abX,e]];simp[e]
  .have e2:Ct ((aav t.nm,iF t)::ts.map λt=>((aav t.nm:Key),iF t)) (aav n)=Ct (ts.map λt=>((aav t.nm:Key),iF t)) (aav n):=by simp[Ct,abX,e]
   rw[e2,ih];simp[abz e]
def AH:Cz (.str n) (.Bp (ts.map λt=>((aav t.nm:Key),iF t)))=some (.bl (decide (n∈ts.map oR.nm))):=by show some (PV.bl (Ct (ts.map λt=>((aav t.nm:Key),iF t)) (aav n)).isSome)=_;rw[Ae]
def ya(bs:List Bool):II [.lst (bs.map .bl)]=some (.bl (bs.any id)):=by show ((bs.map PV.bl).mapM EV).map _=_;rw[kY];rfl
def Nk.nt(h:Nk ps ts):Nt ps ts:=AF h.ok h.pl h.tl
def Fx.only(h:Fx ps ts T):ts.filter (Bl (T.map oR.nm))=T:=lp (bn h.nk.ok) h.sb
def Fx.len(h:Fx ps ts T):T.length<=60:=aaK h.sb.length_le h.nk.tl
def Fx.rise(h:Fx ps ts T):(T.map oR.nm).Pairwise Bv:=h.nk.ok.names.sublist (h.sb.map _)
def Fx.Dt(h:Fx ps ts T):∀n∈T.map oR.nm,n∈aA ps ts:=λn hn=>by obtain⟨t,ht,rfl⟩:=List.mem_map.mp hn;exact abo (List.mem_filter.mpr #[h.sb.subset ht,h.op t ht])
def Fx.word(h:Fx ps ts T):∀n∈T.map oR.nm,Bh n:=λn hn=>wM h.nk.ok n (h.Dt n hn)
def Fx.some(h:Fx ps ts T):E8 ps (T.map oR.nm) ts=T:=by unfold E8;rw[lO,h.only];exact List.filter_eq_self.mpr h.op
theorem zj(ok:Nk ps ts)(r:ns.Pairwise Bv)(i:∀n∈ns,n∈aA ps ts):(∃T,PV.tup (ns.map .str)=Bn T/\Fx ps ts T)↔((Gz ps (Ci ps (ts.filter (Bl ns)))).length:Int)=(ps.length:Int) - (ns.length:Int):=by
 have nd:=bn ok.ok;have pn:=bR ok.ok.rise;constructor
 .rintro⟨T,e,fx⟩;obtain rfl:=eM e;rw[fx.only,aad];have:=jL pn fx.nd fx.op fx.br;omega
 .intro h;have en:(ts.filter (Bl ns)).map oR.nm=ns:=bZ (ok.ok.names.sublist (List.filter_sublist.map _)) r λz=>by
   rw[List.mem_map];constructor
   .rintro⟨t,ht,rfl⟩;exact BZ.mp (List.mem_filter.mp ht).2
   .intro hz;obtain⟨t,ht,e⟩:=List.mem_map.mp (i z hz);exact#[t,List.mem_filter.mpr #[(List.mem_filter.mp ht).1,BZ.mpr (e ▸ hz)],e]
  have op:∀t∈ts.filter (Bl ns),BD ps t=true:=λt ht=>by obtain⟨h1,h2⟩:=List.mem_filter.mp ht;obtain⟨u,hu,e⟩:=List.mem_map.mp (i _ (BZ.mp h2));obtain⟨u1,u2⟩:=List.mem_filter.mp hu;rw[<- bJ nd u1 h1 e];exact u2
  refine#[ts.filter (Bl ns),by rw[Bn,en],ok,abQ,op,vF pn (nd.sublist (List.filter_sublist.map _)) op ?_];have:=congrArg acD en;rw[aad]at this;omega
theorem mj(xs:Aab)(P:Aao)(h:cL xs P):Q.run 3 cE xs P:=by
 obtain⟨ps,ts,x,rfl,nk,px,h⟩:=h;have ok:=nk.nt;have e0:iD (A6 ps ts) (.int 0)=some (.tup (ps.map .str)):=ak (j:=0) rfl;have no:¬ (∃T,x=Bn T/\Fx ps ts T)->P (.bl false):=λz=>by rw[Jt,cb z]at h;exact h
 unfold cE;refine ag λN hN=>?_;lia;refine#[x,rfl,px,?_];show opt (some (E5 x)) _;refine Dq.mpr ?_;cases hw:E5 x with
 |false=>refine no ?_;rintro⟨T,rfl,fx⟩;rw[pV fx.rise fx.word]at hw;cases hw
 |true=>
 obtain⟨ys,rfl⟩:∃ys,x=.tup ys:=by cases x<;>first|exact#[_,rfl]|cases hw
 have TU:(ys.all Cb && FK (ys.filterMap B7))=true:=hw;rw[aaM,abN]at TU;have es:=gU TU.1;have hr:=rn TU.2;have Wm:=px.1;generalize ys.filterMap B7=ns at es hr;subst es;rw[aad]at Wm;show N _;subst hN;refine ag λN hN=>?_;lia;refine#[ps,ts,rfl,ok.tl,?_];lia;subst hN;refine ag λN hN=>?_;lia;refine bo (λx=>match x with|.str n=>.bl (decide (n∈aA ps ts))|_=>.AZ) (λx hx R hR=>?_) #[3] ?_
 .obtain⟨n,hn,rfl⟩:=List.mem_map.mp hx;exact ae aX hR
 have e:(ns.map PV.str).map (λx=>match x with|.str n=>PV.bl (decide (n∈aA ps ts))|_=>.AZ)=(ns.map λn=>decide (n∈aA ps ts)).map PV.bl:=by rw[aax,aax];rfl
 rw[aaL,e,bm,aG];rw[adg];have e':ns.all (id ∘ λn=>decide (n∈aA ps ts))=ns.all λn=>decide (n∈aA ps ts):=rfl;rw[e'];lia;cases CH:(ns.all λn=>decide (n∈aA ps ts))with
 |false=>refine no ?_;rintro⟨T,e,fx⟩;obtain rfl:=eM e;rw[List.all_eq_true.mpr λn hn=>decide_eq_true (fx.Dt n hn)]at CH;cases CH
 |true=>
 have GD:∀n∈ns,n∈aA ps ts:=λn hn=>decide_eq_true_eq.mp (List.all_eq_true.mp CH n hn);show N _;subst hN;lia;refine#[ps,ns,ts,.inl rfl,ok.tl,Wm,ps,_,rfl,#[ok.rise,λt ht=>ok.ne t (List.mem_filter.mp ht).1,ok.pl,aaK (abe _ _) ok.tl],?_];lia;refine ae e0 ?_;lia;refine ae (z:=.int ((ps.length:Int) - (ns.length:Int))) (by simp[DM,iI]) ?_;refine ae (eq_int _ _) ?_;rw[aad];have e2:(((Gz ps (Ci ps (ts.filter (Bl ns)))).length:Int)==(ps.length:Int) - (ns.length:Int))=Jt ps ts (.tup (ns.map .str)):=by rw[aaQ,Jt,B9,zj nk hr GD,beq_iff_eq]
 rw[e2];exact h
theorem wC(xs:Aab)(P:Aao)(h:fj xs P):Q.run 11 jN xs P:=by
 obtain⟨ps,os,one,A4,rfl,nd,ol,oo,ac,hp,h1,h0,h⟩:=h;have ne:∀t∈os,t.one≠t.A4:=λt ht=>(oo t ht).1;have op:∀t∈os,BD ps t=true:=λt ht=>(oo t ht).2;unfold jN;refine ag λN hN=>?_;show N [some #[0,.lst (os.map iF)],some #[0,.str one],some #[0,.str A4],some #[1,.lst ([(one,[])].map DN)],none,none,none,none,none,none,none];subst hN;refine ag λN hN=>?_;show N [some #[0,.lst (os.map iF)],some #[0,.str one],some #[0,.str A4],some #[1,.lst ([(one,[])].map DN)],some #[0,.int ((0:Nat):Int)],none,none,none,none,none,none];subst hN;refine ag λN hN=>dy λC B hC hB=>?_;refine dD (λk e=>∃(R:Hs) (i:Nat) (v5 v6 v7 v8 v9 v10:Aaq),e=[some #[0,.lst (os.map iF)],some #[0,.str one],some #[0,.str A4],some #[1,.lst (R.map DN)],some #[0,.int (i:Int)],v5,v6,v7,v8,v9,v10]/\Rw os one A4 i [] R/\k=ps.length+1 - i) (k:=ps.length+1) ?_ #[[(one,[])],0,none,none,none,none,none,none,rfl,Rw.new,rfl];rintro k e M ⟨R,i,v5,v6,v7,v8,v9,v10,rfl,PQ,rfl⟩ km;subst hC;have rl:=PQ.len nd ne ac op h1;lia;rw[aad];by_cases hi:(i:Int)<R.length;case neg=>rw[decide_eq_false hi,if_neg #[0]];subst hN;refine h0 ?_;rintro⟨M7,w0,d0⟩;have hm:=PQ.full #[] _ M7 A4 rfl w0 d0;obtain⟨k,hk,ek⟩:=List.mem_iff_getElem.mp hm;exact(PQ.cl k _ (by rw[aab hk,ek]) #[]).1 rfl
 rw[decide_eq_true hi,if_pos rfl];have Fk:i<R.length:=by omega
 obtain⟨r,hr⟩:∃r,R[i]?=some r:=#[_,aab Fk]
 obtain⟨V2,rd⟩:=PQ.wk r (aaA hr);subst hB;refine ag λM' Hj=>?_;simp only[Ha,EU];lia;refine ae (z:=DN r) (ak (by rw[aaj,hr];rfl)) ?_;refine#[rfl,?_];show M' [some #[0,.lst (os.map iF)],some #[0,.str one],some #[0,.str A4],some #[1,.lst (R.map DN)],some #[0,.int (i:Int)],some #[0,.str r.1],some #[0,.tup (r.2.map .str)],v7,v8,v9,v10];subst Hj;refine ag λM' Hj=>?_;lia;refine ae (eq_str _ _) ?_;lia;by_cases hq:r.1=A4
 .rw[if_pos (beq_iff_eq.mpr hq)];exact h r.2 (hq ▸ V2) rd
 rw[if_neg (by simpa using hq)];subst Hj;refine ag λM' Hj=>aU λG B hG hB=>?_;lia;refine aB (λj e=>∃(R':Hs) (v7 v8 v9 v10:Aaq),e=[some #[0,.lst (os.map iF)],some #[0,.str one],some #[0,.str A4],some #[1,.lst (R'.map DN)],some #[0,.int (i:Int)],some #[0,.str r.1],some #[0,.tup (r.2.map .str)],v7,v8,v9,v10]/\Rw os one A4 i (os.take j) R'/\R'[i]?=some r) (i:=0) #[R,v7,v8,v9,v10,rfl,PQ,hr] ?_ ?_;case refine_2=>rintro e ⟨R',w7,w8,w9,Pc,rfl,LG,J0⟩;rw[aad,aaG,aa2]at LG;show M' _;subst Hj;lia;refine ae aM ?_;exact km (ps.length+1 - (i+1)) _ #[] #[R',i+1,_,_,_,_,_,_,rfl,LG.next J0 hq,rfl]
 rintro j x e M2 hj ⟨R',w7,w8,w9,Pc,rfl,LG,J0⟩ k;rw[aaG]at k LG;have QZ:j<os.length:=by have:=(List.getElem?_eq_some_iff.mp hj).1;simpa using this
 obtain⟨t,et⟩:∃t,os[j]?=some t:=#[_,aab QZ]
 have ex:x=iF t:=by rw[aaj,et]at hj;exact(aar hj).symm
 have tm:t∈os:=aaA et;have Ll:os.take (j+1)=os.take j++[t]:=by rw[abC,et];rfl
 have rl':=LG.len nd ne ac op h1;have nj:t.nm∉(os.take j).map oR.nm:=λz=>by
  rw[aeM]at z;obtain⟨a,ha,e⟩:=List.mem_take_iff_getElem.mp z;have g:(os.map oR.nm)[j]'(by rw[aad];exact QZ)=t.nm:=by rw[adi];rw[aab QZ]at et;rw[aar et]
  have:=(abk nd).mp (e.trans g.symm);omega
 subst ex hG hB;rw[Ll]at k;generalize os.map iF=ov at k ⊢;unfold iF;lia;refine ae (fL _ _) ?_;lia;by_cases c1:t.nm∈r.2
 .rw[decide_eq_true c1];lia;exact k _ #[R',_,_,_,_,rfl,LG.skip J0 (.inl c1),J0]
 rw[decide_eq_false c1];lia;refine ae (zd _ _ _) ?_;lia;by_cases c2:r.1=t.one\/r.1=t.A4;case neg=>
  rw[decide_eq_false c2];lia;refine k _ #[R',_,_,_,_,rfl,LG.skip J0 (.inr λc hc=>c2 ?_),J0];rcases hc with ⟨a,_⟩|⟨a,_⟩
  .exact .inl a.symm
  .exact .inr a.symm
 rw[decide_eq_true c2];lia;simp only[Lp];lia;refine ae (eq_str _ _) ?_;lia;have ln:(R'.map DN).length<=100000:=by rw[aad];omega
 have al:(r.2.map PV.str).length+[PV.str t.nm].length<=100000:=by have:=qN V2 rd;rw[aad];simp;omega
 have push:∀c:Str,Ends t r.1 c->M2 [some #[0,.lst ov],some #[0,.str one],some #[0,.str A4],some #[1,.lst (R'.map DN++[.tup [.str c,.tup (r.2.map .str++[.str t.nm])]])],some #[0,.int (i:Int)],some #[0,.str r.1],some #[0,.tup (r.2.map .str)],some #[0,.str t.nm],some #[0,.str t.one],some #[0,.str t.A4],some #[0,.int t.cost]]:=λc hc=>by
  refine k _ #[R'++[(c,r.2++[t.nm])],some #[0,.str t.nm],some #[0,.str t.one],some #[0,.str t.A4],some #[0,.int t.cost],?_,LG.add J0 tm (ne t tm) c1 hc nj,?_]
  .have e2:DN (c,r.2++[t.nm])=.tup [.str c,.tup (r.2.map .str++[.str t.nm])]:=by unfold DN;rw[aaO];rfl
   rw[aaO,<- e2];rfl
  .rw[aat (List.getElem?_eq_some_iff.mp J0).1];exact J0
 by_cases c3:r.1=t.one
 .rw[if_pos (beq_iff_eq.mpr c3)];try lia
  refine ae (aP al) ?_;try lia
  refine ae (Em ln) ?_;exact push _ (.inl #[c3.symm,rfl])
 .rw[if_neg (by simpa using c3)];try lia
  refine ae (aP al) ?_;try lia
  refine ae (Em ln) ?_;exact push _ (.inr #[(c2.resolve_left c3).symm,rfl])
variable{d:Nat}
def K0.plain{x:PV}(h:K0 d x):Plain x:=by
 cases d with
 |zero=>exact h.elim
 |succ d=>
  cases x with
  |str s=>exact h
  |set _=>exact h.elim
  |Cq _=>exact h.elim
  |_=>trivial
theorem Kd.plainT{x:PV}(h:Kd x):Ii x:=by
 rcases h with h|⟨_,rfl⟩
 .cases x with
  |tup l=>exact#[aaK h.1 #[],λy hy=>(h.2 y hy).plain]
  |str s=>exact h
  |set _=>exact h.elim
  |Cq _=>exact h.elim
  |_=>trivial
 .trivial
def dn{y:PV}(h:K0 d y)(n:¬ ∃l,y=.tup l):Dc "tuple" y=some (.bl false):=by
 cases d with
 |zero=>exact h.elim
 |succ d=>
  cases y with
  |tup l=>exact absurd #[l,rfl] n
  |set _=>exact h.elim
  |Cq _=>exact h.elim
  |_=>rfl
theorem kj(xs:Aab)(P:Aao)(h:cf xs P):Q.run 2 bX xs P:=by
 obtain⟨n,y,rfl,ky,h⟩:=h;have no:¬ DC n y->P (.bl false):=λz=>by rw[cb z]at h;exact h
 have yes:DC n y->P (.bl true):=λz=>by rw[bG z]at h;exact h
 clear h;unfold bX;refine ag λN hN=>?_;by_cases ht:∃l,y=.tup l;case neg=>show opt (Dc "tuple" y) _;refine ae (dn ky ht) (ae rfl ?_);exact no (by rintro⟨ls,e,_⟩;exact ht #[_,e])
 .obtain⟨l,rfl⟩:=ht;lia;refine ae (ne_int _ _) ?_;lia;by_cases hl:(l.length:Int)=2;case neg=>rw[decide_eq_false hl];lia;refine no ?_;rintro⟨ls,e,_⟩;cases e;exact hl rfl
  obtain⟨a,b,rfl⟩:∃a b,l=[a,b]:=by
   match l,hl with
   |[a,b],_=>exact#[a,b,rfl]
   |[],h=>simp at h
   |[_],h=>simp at h
   |_::_::_::_,h=>simp at h;omega
  rw[decide_eq_true hl];lia;have i0:iD (.tup [a,b]) (.int 0)=some a:=ak (j:=0) rfl;have i1:iD (.tup [a,b]) (.int 1)=some b:=ak (j:=1) rfl;refine ae i0 #[a,rfl,(ky.2 a #[0]).plain,ae rfl ?_];cases hw:Cb a with
  |false=>refine no ?_;rintro⟨ls,e,w,_⟩;cases e;rw[show Cb (.str n)=G2 n from rfl,CT.mpr w]at hw;cases hw
  |true=>
  obtain⟨s,rfl⟩:∃s,a=.str s:=by cases a<;>first|exact#[_,rfl]|cases hw
  have hs:=CT.mp (show G2 s=true from hw);lia;refine ae i0 (ae (pj _ _) ?_);by_cases hn:s=n;case neg=>rw[show (!decide (s=n))=true by simp[hn]];refine ae rfl (no ?_);rintro⟨ls,e,_⟩;cases e;exact hn rfl
  subst hn;refine ae (z:=false) #[0] ?_;show N _;subst hN;lia;refine ae i1 ?_;by_cases hb:∃m,b=.tup m;case neg=>
   refine ae (dn (ky.2 b #[0]) hb) (ae rfl ?_);exact no (by rintro⟨ls,e,_⟩;injection e with e;injection e with _ e;injection e with e _;exact hb #[_,e])
  .obtain⟨m,rfl⟩:=hb;obtain⟨ml,mk⟩:=ky.2 (.tup m) #[0];lia;refine ae i1 ?_;lia;refine bo (λx=>.bl (Cb x)) (λx hx R hR=>#[x,rfl,(mk x hx).plain,hR]) #[3] ?_;have e:m.map (λx=>PV.bl (Cb x))=(m.map Cb).map PV.bl:=by rw[aax];rfl
   rw[aaL,e,bm,aG,adg];cases CH:m.all (id ∘ Cb)with
   |true=>
    have CH:∀y∈m,Cb y=true:=List.all_eq_true.mp CH;have es:=gU CH;refine yes #[m.filterMap B7,?_,hs,λx hx=>?_]
    .unfold Ek;rw[<- es]
    .have:PV.str x∈m:=by rw[es];exact abo hx
     exact CT.mp (CH _ this)
   |false=>
    refine no ?_;rintro⟨ls,e,_,wl⟩;have e:m=ls.map .str:=by cases e;rfl
    subst e;rw[List.all_eq_true.mpr λy hy=>?_]at CH
    .cases CH
    .obtain⟨x,hx,rfl⟩:=List.mem_map.mp hy;exact CT.mpr (wl x hx)
def vO(ns:A3)(l:Aab):Eh (ns.map PV.str) l=(ns.zip l).map λq=>PV.tup [.str q.1,q.2]:=by
 unfold Eh;induction ns generalizing l with
 |nil=>rfl
 |cons n ns ih=>
  cases l with
  |nil=>rfl
  |cons y l=>have:=ih l;simp only[aaw,abb]at this ⊢;rw[this]
theorem iY(xs:Aab)(P:Aao)(h:bQ xs P):Q.run 2 bN xs P:=by
 obtain⟨ns,y,rfl,nl,ky,h⟩:=h;have no:¬ fh ns y->P (.bl false):=λz=>by rw[cb z]at h;exact h
 have yes:fh ns y->P (.bl true):=λz=>by rw[bG z]at h;exact h
 clear h;unfold bN;refine ag λN hN=>?_;rcases ky with ky|⟨gE,rfl⟩;case inr=>show opt (Dc "tuple" (.Bp gE)) _;refine ae (z:=.bl false) rfl (ae rfl ?_);exact no (by rintro⟨ls,e,_⟩;cases e)
 by_cases ht:∃l,y=.tup l;case neg=>show opt (Dc "tuple" y) _;refine ae (dn ky ht) (ae rfl ?_);exact no (by rintro⟨ls,e,_⟩;exact ht #[_,e])
 .obtain⟨l,rfl⟩:=ht;lia;refine ae (ne_int _ _) ?_;rw[aad];by_cases hl:l.length=ns.length;case neg=>rw[decide_eq_false #[]];refine ae rfl (no ?_);rintro⟨ls,e,e2,_⟩;cases e;exact hl e2
  rw[decide_eq_true #[]];refine ae rfl ?_;show N _;subst hN;lia;simp only[Nj];lia;simp only[IQ];rw[vO];refine be (λq:Str×PV=>PV.tup [.str q.1,q.2]) (λq=>.bl (cB (DC q.1 q.2))) (λq hq R hR=>?_) #[3] ?_
  .exact#[rfl,q.1,q.2,rfl,ky.2 q.2 (ac0 hq).2,hR]
  have e:(ns.zip l).map (λq=>PV.bl (cB (DC q.1 q.2)))=((ns.zip l).map λq=>cB (DC q.1 q.2)).map PV.bl:=by rw[aax];rfl
  rw[aaL,e,bm,aG,adg];cases CH:(ns.zip l).all (id ∘ λq=>cB (DC q.1 q.2))with
  |true=>refine yes #[l,rfl,hl,λi n z hi hz=>?_];have:(n,z)∈ns.zip l:=aaA (i:=i) (by rw[aaF];exact#[hi,hz]);exact B9.mp (List.all_eq_true.mp CH _ this)
  |false=>
   refine no ?_;rintro⟨ls,e,e2,hq⟩;cases e;rw[List.all_eq_true.mpr λq hm=>?_]at CH
   .cases CH
   .obtain⟨i,hi⟩:=List.mem_iff_getElem?.mp hm;rw[aaF]at hi;exact bG (hq i _ _ hi.1 hi.2)
theorem m7(xs:Aab)(P:Aao)(h:du xs P):Q.run 8 cY xs P:=by
 obtain⟨ps,ts,rfl,nk,h⟩:=h;have ok:=nk.ok;have hp:=nk.pl;have ht:=nk.tl;have pn:=bR ok.rise;have tn:=bn ok;obtain⟨L0,X2,Zt⟩:=xf pn;unfold cY;refine ag λN hN=>?_;simp only[Ck,BE,aS,DE,TL];lia;refine ae (Tp ps ts) ?_;lia;have en:CL (ps.map .str)=ps.zipIdx.map λq=>PV.tup [.int (q.2:Int),.str q.1]:=by unfold CL;rw[List.zipIdx_map,aax];rfl
 rw[en];refine bo (λx=>match x with|.tup [a,b]=>.tup [b,a]|_=>.AZ) (λx hx R hR=>?_) #[3] ?_
 .obtain⟨q,hq,rfl⟩:=List.mem_map.mp hx;exact#[rfl,hR]
 rw[aaL,aax];have em:(ps.zipIdx.map ((λx=>match x with|PV.tup [a,b]=>PV.tup [b,a]|_=>.AZ) ∘ λq=>PV.tup [.int (q.2:Int),.str q.1]))=ps.zipIdx.map λq=>PV.tup [.str q.1,.int (q.2:Int)]:=rfl;rw[em];refine ae (kQ (λq=>q.1) (λq=>PV.int (q.2:Int)) ps.zipIdx (by rw[List.zipIdx_map_fst];exact pn) (by rw[adE];omega)) ?_;rw[Zt];show N [some #[0,A6 ps ts],some #[1,KP ps L0],none,none,none,none,none,none];subst hN;refine ag λN hN=>?_;show N [some #[0,A6 ps ts],some #[1,KP ps L0],some #[1,.lst []],none,none,none,none,none];subst hN;have oo:∀u∈ts.filter (BD ps),BD ps u=true:=λu hu=>(List.mem_filter.mp hu).2;have ol:(ts.filter (BD ps)).length<=60:=aaK (abe _ _) ht;have V7:((ts.filter (BD ps)).map oR.nm).Nodup:=tn.sublist (List.filter_sublist.map _);refine ag λN hN=>aU λG B hG hB=>?_;simp only[iS,Ic,aS,DE];lia;refine#[ps,ts,rfl,#[],?_];lia;refine bo (λx=>match x with|.tup [.str a,.str b,.str c,.int d]=>.tup [.int d,.str a,.tup [.str a,.str b,.str c,.int d]]|_=>.AZ) (λx hx R hR=>?_) #[3] ?_
 .obtain⟨t,KZ,rfl⟩:=List.mem_map.mp hx;refine ae (z:=.int t.cost) (ak (j:=3) rfl) (ae (z:=.str t.nm) (ak (j:=0) rfl) ?_);exact hR
 rw[aaL,aax];have Zs:((ts.filter (BD ps)).map ((λx=>match x with|PV.tup [.str a,.str b,.str c,.int d]=>PV.tup [.int d,.str a,.tup [.str a,.str b,.str c,.int d]]|_=>.AZ) ∘ iF))=(ts.filter (BD ps)).map FT:=rfl;rw[Zs];refine#[_,vy _,by rw[aax];exact V7,by rw[aad];omega,λix QC=>?_];rw[aad]at QC;obtain⟨vs,pm,ev⟩:∃vs:Aah,vs.Perm (ts.filter (BD ps))/\(ix.map λi=>((ts.filter (BD ps)).map FT).getD i .AZ)=vs.map FT:=#[ix.map λi=>(ts.filter (BD ps)).getD i t0,wZ QC.len QC.nd QC.lt,m4 QC.lt]
 rw[ev];have vl:vs.length<=60:=by rw[pm.length_eq];exact ol
 have vo:∀u∈vs,BD ps u=true:=λu hu=>oo u (pm.mem_iff.mp hu);have vd:(vs.map oR.nm).Nodup:=(pm.map oR.nm).nodup_iff.mpr V7;refine aB (λj e=>∃(g:Str->Int) (ks:Aah) (v3 v4 v5 v6 v7:Aaq),e=[some #[0,A6 ps ts],some #[1,KP ps g],some #[1,.lst (ks.map iF)],v3,v4,v5,v6,v7]/\ks.Sublist (vs.take j)) (i:=0)
  #[L0,[],none,none,none,none,none,rfl,afe _] ?_ ?_
 case refine_2=>rintro e ⟨g,ks,v3,v4,v5,v6,v7,rfl,sb⟩;show N _;rw[aad,aaG,aa2]at sb;subst hN;simp only[Be,Ib];lia;have kl:ks.length<=60:=aaK sb.length_le vl;refine#[_,qZ ks,vd.sublist (sb.map _),by rw[aad];omega,λix il TH iw=>?_];rw[aad]at il TH;rw[m4 (a:=t0) TH];refine h _ (λt Yh=>?_) (by rw[aad];omega);obtain⟨i,hi,rfl⟩:=List.mem_map.mp Yh;have hk:=TH i hi;rw[aau,aab hk];exact(List.mem_filter.mp (pm.mem_iff.mp (sb.subset (aa8 hk)))).1
 rintro j x e M hx ⟨g,ks,v3,v4,v5,v6,v7,rfl,sb⟩ k;rw[aaG]at k sb;have hj:j<vs.length:=by have:=(List.getElem?_eq_some_iff.mp hx).1;simpa using this
 obtain⟨t,et⟩:∃t,vs[j]?=some t:=#[_,aab hj]
 have ex:x=FT t:=by rw[aaj,et]at hx;exact(aar hx).symm
 have tv:t∈vs:=aaA et;obtain⟨o1,o2⟩:=B8.mp (vo t tv);have Ll:vs.take (j+1)=vs.take j++[t]:=by rw[abC,et];rfl
 have kl:ks.length<=60:=aaK sb.length_le (by rw[abp];omega);subst ex hG hB;have i1:iD (iF t) (.int 1)=some (.str t.one):=ak (j:=1) rfl;have i2:iD (iF t) (.int 2)=some (.str t.A4):=ak (j:=2) rfl;unfold FT;generalize Np:iF t=VO at i1 i2;simp only[gT,Bb,gN,CF];lia;simp only[EU];lia;refine ae i1 ?_;try lia
 refine ae (nC pn o1) ?_;try lia
 refine ae i2 ?_;try lia
 refine ae (nC pn o2) ?_;try lia
 refine ae (ne_int _ _) ?_;lia;by_cases hg:g t.one=g t.A4
 .rw[decide_eq_true hg,ad3,if_neg #[0]];exact k _ #[g,ks,some #[0,.int t.cost],some #[0,.str t.nm],some #[0,VO],some #[0,.int (g t.one)],some #[0,.int (g t.A4)],rfl,by rw[Ll];exact sb.trans (List.sublist_append_left _ _)]
 .rw[decide_eq_false hg,adK,if_pos rfl];refine ae (Em #[3]) ?_;simp only[hJ];lia;show Cg _ _ _ _ _ ((ps.map λp=>((aav p:Key),PV.int (g p))).map Iw) _ [];rw[aax];have Zr:(Iw ∘ λp=>((aav p:Key),PV.int (g p)))=λp=>PV.tup [.str p,.int (g p)]:=rfl;rw[Zr];refine be (λp=>PV.tup [.str p,.int (g p)]) (λp=>PV.tup [.str p,.int (if g p=g t.one then g t.A4 else g p)]) (λp Si R hR=>?_) #[3] ?_
  .refine#[rfl,?_];show opt (BJ (.int (g p)) (.int (g t.one))) _;refine ae (bc _ _) ?_;show opt (some (decide (g p=g t.one))) _;refine Dq.mpr ?_;by_cases z:g p=g t.one
   .rw[decide_eq_true z];rw[if_pos z]at hR;exact hR
   .rw[decide_eq_false z];rw[if_neg z]at hR;exact hR
  rw[aaL];refine ae (kQ id (λp=>PV.int (if g p=g t.one then g t.A4 else g p)) ps (by simpa using pn) #[]) ?_;refine k _ #[λp=>if g p=g t.one then g t.A4 else g p,ks++[t],some #[0,.int t.cost],some #[0,.str t.nm],some #[0,VO],some #[0,.int (g t.one)],some #[0,.int (g t.A4)],?_,by rw[Ll];exact List.Sublist.append sb (adR _)];rw[aaO,<- Np];rfl
def Sx:Nat->PV->Prop
 |0,_=>False
 |d+1,.tup l=>∀y∈l,Sx d y
 |_+1,.str _=>True
 |_+1,.AZ=>True
 |_+1,_=>False
theorem Sx.mono:∀{d e:Nat} {x:PV},d<=e->Sx d x->Sx e x
 |0,_,_,_,h=>h.elim
 |d+1,0,_,h,_=>absurd h #[]
 |d+1,e+1,x,hd,h=>by
  cases x with
  |tup l=>exact λy hy=>Sx.mono #[] (h y hy)
  |str s=>trivial
  |AZ=>trivial
  |_=>exact h.elim
theorem qK{n:Nat}(H:∀{x y:PV},K0 d x->Sx n y->Br n x y=some (cB (x=y))):∀(xs ys:Aab),(∀x∈xs,K0 d x)->(∀y∈ys,Sx n y)->∃bs,(xs.zip ys).mapM (λp=>Br n p.1 p.2)=some bs/\(bs.all id && xs.length==ys.length)=cB (xs=ys)
 |[],[],_,_=>#[[],rfl,by rw[bG rfl];rfl]
 |[],y::ys,_,_=>#[[],rfl,by rw[cb #[0]];rfl]
 |x::xs,[],_,_=>#[[],rfl,by rw[cb #[0]];rfl]
 |x::xs,y::ys,hx,hy=>by
  obtain⟨bs,e1,e2⟩:=qK H xs ys (λz hz=>hx z (aaq _ hz)) λz hz=>hy z (aaq _ hz);refine#[cB (x=y)::bs,?_,?_]
  .rw[abb,abh,e1,H (hx x aaz) (hy y aaz)];rfl
  .have e3:((x::xs).length==(y::ys).length)=(xs.length==ys.length):=by rw[aaQ,beq_iff_eq,beq_iff_eq,aay,aay];omega
   rw[e3,List.all_cons,Bool.and_assoc,e2,aaQ,aaM,B9,B9];show cB (x=y)=true/\_↔_;rw[B9,List.cons.injEq]
def nP:∀{n d:Nat} {x y:PV},K0 d x->Sx n y->Br n x y=some (cB (x=y))
 |0,_,_,_,_,h=>h.elim
 |n+1,0,_,_,h,_=>h.elim
 |n+1,d+1,x,y,hx,hy=>by
  have ff:∀{p:Prop},¬ p->some false=some (cB p):=λh=>by rw[cb h]
  cases y with
  |AZ=>
   cases x with
   |AZ=>exact congrArg some (bG rfl).symm
   |set _=>exact hx.elim
   |Cq _=>exact hx.elim
   |Bp _=>exact hx.elim
   |_=>exact ff #[0]
  |str b=>
   cases x with
   |str a=>show some (a==b)=_;congr 1;rw[aaQ,beq_iff_eq,B9,PV.str.injEq]
   |set _=>exact hx.elim
   |Cq _=>exact hx.elim
   |Bp _=>exact hx.elim
   |_=>exact ff #[0]
  |tup ys=>
   cases x with
   |tup xs=>obtain⟨bs,e1,e2⟩:=qK (n:=n) (d:=d) (λh1 h2=>nP h1 h2) xs ys hx.2 hy;show ((xs.zip ys).mapM λp=>Br n p.1 p.2).map _=_;rw[e1];show some (bs.all id && xs.length==ys.length)=_;rw[e2];congr 1;rw[aaQ,B9,B9,PV.tup.injEq]
   |set _=>exact hx.elim
   |Cq _=>exact hx.elim
   |Bp _=>exact hx.elim
   |_=>exact ff #[0]
  |_=>exact hy.elim
def vZ(l:A3):Sx (d+2) (.tup (l.map .str)):=λy hy=>by obtain⟨x,_,rfl⟩:=List.mem_map.mp hy;trivial
def CY:u∈BC ps ts T↔u∈ts/\BD ps u=true/\u.nm∉T.map oR.nm:=by unfold BC;rw[ac1,ac1,adc,<- Bool.not_eq_true,BZ];exact and_assoc
def fK:(BC ps ts T).length<=ts.length:=aaK (abe _ _) (abe _ _)
def cW(h:Wy T t.one t.A4):Gn T t=.tup ((B4 T t.one t.A4).map .str):=by unfold Gn;rw[if_pos h]
def gb(h:¬ Wy T t.one t.A4):Gn T t=.AZ:=by unfold Gn;rw[if_neg h]
def re(t:oR):Sx (d+2) (Gn T t):=by
 by_cases h:Wy T t.one t.A4
 .rw[cW h];exact vZ _
 .rw[gb h];trivial
theorem vY:Sx 60 (Cw ps ts T):=Sx.mono (d:=4) #[] λy hy=>by
 obtain⟨t,_,rfl⟩:=List.mem_map.mp hy;intro z hz;rcases List.mem_cons.mp hz with rfl|hz
 .trivial
 .rw[List.mem_singleton.mp hz];exact re t
def Fx.B4(h:Fx ps ts T)(w:Wk T a ns b)(d:ns.Nodup):ns=Pre.B4 T a b:=by obtain⟨w',d'⟩:=lb #[ns,w,d];exact mL h.nd h.ne h.NW w w' d d'
def dz(k:Fx ps ts T)(h:Wy T t.one t.A4):Wk T t.one (Pre.B4 T t.one t.A4) t.A4/\(∀x∈Pre.B4 T t.one t.A4,Bh x)/\(Pre.B4 T t.one t.A4).length<=60:=by obtain⟨w,d⟩:=lb h;refine#[w,λx hx=>?_,aaK (qN w d) k.len];obtain⟨v,hv,rfl⟩:=w.mem x hx;exact(k.nk.ok.tie v (k.sb.subset hv)).nm
noncomputable def LR(ps ns:A3):PV->Option PV
 |.tup [.str a,.str b,.str c,.int d]=>if (BD ps #[a,b,c,d] && !Bl ns #[a,b,c,d])=true then some (.tup [.str a,.str b,.str c,.int d])else none
 |_=>none
theorem n9(xs:Aab)(P:Aao)(h:eh xs P):Q.run 3 ip xs P:=by
 obtain⟨ps,ts,T,rfl,k,h⟩:=h;have o:=k.nk;have tl:=o.tl;have nd:=bn o.ok;have ol:(BC ps ts T).length<=60:=aaK fK tl;refine ag λN hN=>?_;lia;refine ae (M8 ps ts) ?_;lia;refine cT (LR ps (T.map oR.nm)) (λx hx R hR=>?_) #[3] ?_
 .obtain⟨t,KZ,rfl⟩:=List.mem_map.mp hx;replace hR:R (if (BD ps t && !Bl _ t)=true then some _ else none) _:=hR;refine#[ps,ts,t,rfl,?_];show opt (some _) _;rw[aG];cases e:BD ps t with
  |false=>rw[e]at hR;exact hR
  |true=>
   rw[e]at hR;refine ae (ak rfl) (ae (fL _ _) ?_);show opt (some (!Bl _ t)) _;rw[aG];cases e2:Bl _ t with
   |false=>rw[e2]at hR;exact hR
   |true=>rw[e2]at hR;exact hR
 rw[ac3];have e:ts.filterMap (LR ps (T.map oR.nm) ∘ iF)=(ts.filter _).map iF:=bx _ iF ts;have e2:(ts.filter λt=>BD ps t && !Bl (T.map oR.nm) t)=BC ps ts T:=by unfold BC;rw[adF];exact acl λt _=>Bool.and_comm _ _
 rw[e,e2];subst hN;lia;refine be iF (CW T) (λt KZ R hR=>?_) #[3] ?_
 .obtain⟨t1,t2,_⟩:=CY.mp KZ;have ot:=B8.mp t2;refine ae (ak rfl) (ae (ak rfl) (ae (ak rfl) ?_));refine#[ps,ts,_,t.one,t.A4,rfl,o.nt,nd,by have:=k.len;rw[aad];omega,ot.1,ot.2,λnr=>?_,λns w d hl=>?_]
  .rw[k.only]at nr;have hn:¬ Wy T t.one t.A4:=λ#[ns,w,_]=>nr ((Dv k.op).El (jh (Dv k.op) w));rw[CW,gb hn]at hR;exact hR
  .rw[k.some]at w;rw[CW,cW #[ns,w,d],<- k.B4 w d]at hR;exact hR
 .exact ae rfl h
def Fx.one{T':Aah}(h:Fx ps ts T)(h':Fx ps ts T')(e:Bn T'=Bn T):T'=T:=by rw[<- h.only,<- h'.only,eM e]
theorem nI{K:Aab->En->Prop}{b:En}(hb:b.set k none=b)(V:Str->PV):∀{ys:A3} {acc:Aab},(∀y∈ys,∀R:PV->En->Prop,R (V y) (b.set k (some #[0,.str y]))->f (b.set k (some #[0,.str y])) R)->acc.length+ys.length<=100000 ->
  K (acc++ys.map V) b->KR k f K (ys.map PV.str) b acc
 |[],acc,_,_,h=>by rw[aej,aa0]at h;exact h
 |y::ys,acc,hf,hl,h=>by rw[aay]at hl;refine hf y aaz _ #[#[],?_];rw[List.set_set,hb];refine nI hb V (λz hz=>hf z (aaq _ hz)) (by rw[aan,adf];omega) ?_;rw[abS];exact h
theorem ie(xs:Aab)(P:Aao)(h:bH xs P):Q.run 4 bE xs P:=by
 obtain⟨ps,ts,x,y,rfl,nk,kx,ky,h⟩:=h;have nd:=bn nk.ok;have tl:=nk.tl;have no:¬ (∃T,x=Bn T/\Fx ps ts T/\y=Cw ps ts T/\∀t∈BC ps ts T,Gd T t)->P (.bl false):=λz=>by rw[FV,cb z]at h;exact h
 have yes:(∃T,x=Bn T/\Fx ps ts T/\y=Cw ps ts T/\∀t∈BC ps ts T,Gd T t)->P (.bl true):=λz=>by rw[FV,bG z]at h;exact h
 clear h;unfold bE;refine ag λN hN=>?_;lia;refine#[ps,ts,x,rfl,nk,kx.plainT,ae rfl ?_];cases hf:Jt ps ts x with
 |false=>refine no ?_;rintro⟨T,e,fx,_⟩;rw[Jt,bG #[T,e,fx]]at hf;cases hf
 |true=>
 obtain⟨T,rfl,k⟩:=B9.mp hf;have ol:(BC ps ts T).length<=60:=aaK fK tl;show N _;subst hN;refine ag λN hN=>?_;lia;refine#[ps,ts,T,rfl,k,?_];subst hN;refine ag λN hN=>?_;lia;refine be (CW T) (λt=>.str t.nm) (λt ht R hR=>ae (ak (j:=0) rfl) hR) #[3] ?_;rw[aaL];refine#[(BC ps ts T).map oR.nm,y,by rw[aax];rfl,by rw[aad];omega,ky,ae rfl ?_];cases hp:cB (fh ((BC ps ts T).map oR.nm) y)with
 |false=>
  refine no ?_;rintro⟨T',e,fx,rfl,g⟩;obtain rfl:=fx.one k e;have q:fh ((BC ps ts T).map oR.nm) (Cw ps ts T):=by refine#[_,rfl,by rw[aad,aad],λi n z hi hz=>?_];rw[aaj,aas]at hi hz;obtain⟨t,h1,rfl⟩:=hi;obtain⟨t',h2,rfl⟩:=hz;rw[h1]at h2;cases h2;have ht:=aaA h1;obtain⟨w,ww,_⟩:=dz k (g t ht).1;exact#[B4 _ t.one t.A4,by rw[CW,cW (g t ht).1];rfl,(nk.ok.tie t (CY.mp ht).1).nm,ww]
  rw[bG q]at hp;cases hp
 |true=>
 obtain⟨ls,rfl,ll,hq⟩:=B9.mp hp;lia;refine ae (z:=.bl (!cB (PV.tup ls=Cw ps ts T))) ?_ (ae rfl ?_)
 .show (Br 60 (.tup ls) (Cw ps ts T)).map _=_;rcases ky with ky|⟨_,e⟩
  .rw[nP ky vY];rfl
  .cases e
 by_cases e:PV.tup ls=Cw ps ts T;case neg=>rw[cb e];refine no ?_;rintro⟨T',e2,fx,e3,_⟩;obtain rfl:=fx.one k e2;exact e e3
 rw[bG e];have el:ls=(BC ps ts T).map (CW T):=by unfold Cw at e;exact PV.tup.inj e
 have wy:∀t∈BC ps ts T,Wy T t.one t.A4:=λt ht=>acL λn=>by obtain⟨i,hi⟩:=List.mem_iff_getElem?.mp ht;obtain⟨l,e2,_⟩:=hq i t.nm (CW T t) (by rw[aaj,hi];rfl) (by rw[el,aaj,hi];rfl);rw[CW,gb n]at e2;cases e2
 show N _;subst hN;lia;rw[e];let B:oR->List Bool:=λt=>(B4 T t.one t.A4).map λn=>cB (∃v∈T,v.nm=n/\EC v t);have go:∀(l:Aah) (bs:List Bool),(∀t∈l,t∈BC ps ts T)->bs.length+60*l.length<=100000->opt (CM [.lst ((bs++l.flatMap B).map .bl)]) (λz=>P z)->He (G3 (.tp [0,1])) (iS (eV 1)) 2 (A9 ck (aS (eV 3) (aS (eV 2) (aS (eV 0) aT)))) [none,none,none,some 0] (λx e1=>opt (CM [x]) λz=>P z) (l.map (CW T)) [some #[0,A6 ps ts],some #[0,Bn T],some #[0,Cw ps ts T],some #[0,Cw ps ts T]] (bs.map .bl):=λl=>by
  induction l with
  |nil=>intro bs _ _ hb;rw[List.flatMap_nil,aa0]at hb;exact hb
  |cons t l ih=>
   intro bs hm hl hb;rw[aay]at hl;have ht:=hm t aaz;obtain⟨w,_,wl⟩:=dz k (wy t ht);rw[aaw,CW,cW (wy t ht)];refine#[rfl,?_];refine nI rfl (λn=>.bl (cB (∃v∈T,v.nm=n/\EC v t))) (λm hn R hR=>?_) (by rw[aad];omega) ?_
   .obtain⟨v,hv,rfl⟩:=w.mem m hn;refine#[ps,ts,v,t,rfl,#[],nd,k.sb.subset hv,(CY.mp ht).1,?_];have e4:decide (EC v t)=cB (∃u∈T,u.nm=v.nm/\EC u t):=by rw[aaQ,decide_eq_true_eq,B9];exact#[λc=>#[v,hv,rfl,c],λ#[u,hu,e5,c]=>bJ k.nd hu hv e5 ▸ c]
    rw[e4];exact hR
   .have e6:bs.map PV.bl++(B4 T t.one t.A4).map (λn=>PV.bl (cB (∃v∈T,v.nm=n/\EC v t)))=(bs++B t).map PV.bl:=by rw[aaO,aax];rfl
    rw[e6];refine ih _ (λu hu=>hm u (aaq _ hu)) (by rw[aan,aad];omega) ?_;rw[abS];rw[List.flatMap_cons]at hb;exact hb
 refine go _ [] (λ_ h=>h) #[3] ?_;rw[aaL];refine ae (bm _) ?_;have iff:((BC ps ts T).flatMap B).all id=true↔∀t∈BC ps ts T,Gd T t:=by
  rw[abN];constructor
  .intro h t ht;refine#[wy t ht,λv hv hn=>?_];obtain⟨u,hu,e5,c⟩:=B9.mp (h (cB (∃u∈T,u.nm=v.nm/\EC u t)) (List.mem_flatMap.mpr #[t,ht,abo (f:=λn=>cB (∃v∈T,v.nm=n/\EC v t)) hn]));exact bJ k.nd hu hv e5 ▸ c
  .intro h b hb;obtain⟨t,ht,hb⟩:=List.mem_flatMap.mp hb;obtain⟨n,hn,rfl⟩:=List.mem_map.mp hb;obtain⟨v,hv,rfl⟩:=(dz k (wy t ht)).1.mem n hn;exact bG #[v,hv,rfl,(h t ht).2 v hv hn]
 cases hb:((BC ps ts T).flatMap B).all id with
 |true=>exact yes #[T,rfl,k,e,iff.mp hb]
 |false=>refine no ?_;rintro⟨T',e2,fx,e3,g⟩;obtain rfl:=fx.one k e2;rw[iff.mpr g]at hb;cases hb
def wF(nd:(ts.map oR.nm).Nodup)(h:t∈ts.filter (BD ps)):iD (.Bp ((ts.filter (BD ps)).map λt=>((aav t.nm:Key),iF t))) (.str t.nm)=some (iF t) :=
 bv (f:=oR.nm) (g:=iF) (nd.sublist (List.filter_sublist.map _)) h
def AY(ok:Nk ps ts)(r:ns.Pairwise Bv)(i:∀n∈ns,n∈aA ps ts):(ts.filter (Bl ns)).map oR.nm=ns/\∀t∈ts.filter (Bl ns),BD ps t=true:=by
 refine#[bZ (ok.ok.names.sublist (List.filter_sublist.map _)) r λz=>?_,λt ht=>?_]
 .rw[List.mem_map];constructor
  .rintro⟨t,ht,rfl⟩;exact BZ.mp (List.mem_filter.mp ht).2
  .intro hz;obtain⟨t,ht,e⟩:=List.mem_map.mp (i z hz);exact#[t,List.mem_filter.mpr #[(List.mem_filter.mp ht).1,BZ.mpr (e ▸ hz)],e]
 .obtain⟨h1,h2⟩:=List.mem_filter.mp ht;obtain⟨u,hu,e⟩:=List.mem_map.mp (i _ (BZ.mp h2));obtain⟨u1,u2⟩:=List.mem_filter.mp hu;rw[<- bJ (bn ok.ok) u1 h1 e];exact u2
theorem mo(xs:Aab)(P:Aao)(h:bM xs P):Q.run 5 cH xs P:=by
 obtain⟨ps,ts,x,rfl,nk,kx,h⟩:=h;have nd:=bn nk.ok;have tl:=nk.tl;have pn:=bR nk.ok.rise;have ol:(ts.filter (BD ps)).length<=60:=aaK (abe _ _) tl;have no:¬ (∃T,x=Bn T/\Fx ps ts T)->P (.bl false):=λz=>by rw[Jt,cb z]at h;exact h
 have yes:(∃T,x=Bn T/\Fx ps ts T)->P (.bl true):=λz=>by rw[Jt,bG z]at h;exact h
 clear h;unfold cH;refine ag λN hN=>?_;lia;refine#[ps,ts,rfl,#[],?_];lia;refine be iF (λt=>.tup [.str t.nm,iF t]) (λt ht R hR=>by refine ae (z:=.str t.nm) (ak (j:=0) rfl) ?_;exact hR) #[3] ?_
 rw[aaL];refine ae (kQ oR.nm iF (ts.filter (BD ps)) (nd.sublist (List.filter_sublist.map _)) #[]) ?_;try lia
 subst hN;refine ag λN hN=>?_;rcases kx with kx|⟨gE,rfl⟩;case inr=>show opt (Dc "tuple" (.Bp gE)) _;refine ae (z:=.bl false) rfl (ae rfl ?_);exact no (by rintro⟨ls,e,_⟩;cases e)
 by_cases ht:∃l,x=.tup l;case neg=>show opt (Dc "tuple" x) _;refine ae (dn kx ht) (ae rfl ?_);exact no (by rintro⟨ls,e,_⟩;exact ht #[_,e])
 .obtain⟨l,rfl⟩:=ht;obtain⟨ll,lk⟩:=kx;lia;refine bo (λy=>.bl (FU (aA ps ts) y)) (λy hy R hR=>?_) #[3] ?_
  .have ky:=lk y hy;cases y with
   |str s=>refine ae (z:=.bl true) rfl (ae (z:=true) rfl ?_);rw[if_pos rfl];exact ae AH hR
   |set _=>exact ky.elim
   |Cq _=>exact ky.elim
   |_=>refine ae (z:=.bl false) rfl (ae (z:=false) rfl ?_);exact hR
  have e:l.map (λy=>PV.bl (FU (aA ps ts) y))=(l.map (FU (aA ps ts))).map PV.bl:=by rw[aax];rfl
  rw[aaL,e,bm,aG,adg];lia;cases CH:l.all (id ∘ FU (aA ps ts))with
  |false=>
   refine no ?_;rintro⟨T,e,fx⟩;have e:l=(T.map oR.nm).map .str:=PV.tup.inj e;subst e;have:((T.map oR.nm).map PV.str).all (id ∘ FU (aA ps ts))=true:=List.all_eq_true.mpr λy hy=>by obtain⟨n,hn,rfl⟩:=List.mem_map.mp hy;exact decide_eq_true (fx.Dt n hn)
   rw[this]at CH;cases CH
  |true=>
  obtain⟨ns,rfl,GD⟩:=oM l (List.all_eq_true.mp CH);rw[aad]at ll;show N _;subst hN;refine ag λN hN=>?_;have dl:(D0 ns).length<=60:=by have:=aI (lS ns) λz hz=>GD z (by rwa [kR]at hz);unfold aA at this;rw[aad]at this;omega
  lia;refine ae (z:=.lst (ns.map .str)) rfl ?_;try lia
  refine#[ns,gg ns,#[],#[],λgs up=>?_];have ne:Oj (.lst (ns.map .str)) (.lst (gs.map .str))=some (.bl (!decide (ns=gs))):=by show (Br 60 _ _).map _=_;rw[xG];rfl
  refine ae ne (ae rfl ?_);have ui:=yd up;by_cases hg:ns=gs;case neg=>rw[decide_eq_false hg];refine no ?_;rintro⟨T,e,fx⟩;obtain rfl:=eM e;exact hg (ui.mpr fx.rise)
  rw[decide_eq_true hg];have hr:=ui.mp hg;show N _;subst hN;obtain⟨en,op⟩:=AY nk hr GD;have sb:(ts.filter (Bl ns)).Sublist ts:=abQ;have Z8:(ts.filter (Bl ns)).length<=60:=aaK sb.length_le tl;generalize ts.filter (Bl ns)=T0 at en op sb Z8;subst en;have XS:(T0.map oR.nm).Nodup:=nd.sublist (sb.map _);have fi:=zk pn XS op;refine ag λN hN=>?_;lia;subst hN;refine ag λN hN=>aU λG B hG hB=>?_;lia;subst hG hB;refine aB (i:=0) (λi e=>∃v4:Aaq,e=[some #[0,A6 ps ts],some #[0,Bn T0],some #[0,.Bp ((ts.filter (BD ps)).map λt=>((aav t.nm:Key),iF t))],some #[1,.lst ((T0.take i).map iF)],v4]/\∀(j:Nat) (h:j<T0.length),j<i->¬ BS (Ci ps (T0.take j)) T0[j].one T0[j].A4) #[none,rfl,λj _ h=>absurd h #[]] ?_ ?_;case refine_2=>rintro e ⟨v4,rfl,hj⟩;show N _;subst hN;lia;refine yes #[T0,rfl,nk,sb,op,fi.mpr λj h=>hj j h ?_];rw[aad,aad];omega
  rintro i y e M hy ⟨v4,rfl,hj⟩ k;rw[aaG]at k hj ⊢;rw[aax,aaj,aas]at hy;obtain⟨t,et,rfl⟩:=hy;have hi:i<T0.length:=(List.getElem?_eq_some_iff.mp et).1;have W4:T0[i]=t:=(List.getElem?_eq_some_iff.mp et).2;have tm:t∈T0:=aaA et;have tf:t∈ts.filter (BD ps):=List.mem_filter.mpr #[sb.subset tm,op t tm];obtain⟨o1,o2⟩:=B8.mp (op t tm);have g0:=wF nd tf;have Ll:T0.take (i+1)=T0.take i++[t]:=by rw[abC,et];rfl
  have i1:iD (iF t) (.int 1)=some (.str t.one):=ak (j:=1) rfl;have i2:iD (iF t) (.int 2)=some (.str t.A4):=ak (j:=2) rfl;rw[Ll]at k;have kl:((T0.take i).map iF).length<=60:=by rw[aad,abp];omega
  generalize hK:(ts.filter (BD ps)).map (λt=>((aav t.nm:Key),iF t))=kv at g0 k ⊢;show (iN _ _) _ _;refine ag λM' Hj=>?_;lia;refine ae g0 (ae i2 ?_);try lia
  refine ae g0 (ae i1 ?_);try lia
  refine#[ps,T0.take i,t.one,rfl,nk.ok.rise,nk.pl,by rw[abp];omega,o1,λu hu=>op u (abr hu),#[_,rfl],?_];refine ae nH (ae rfl ?_);by_cases QS:BS (Ci ps (T0.take i)) t.one t.A4
  .rw[decide_eq_true (List.mem_filter.mpr #[o2,CQ.mpr QS])];refine no ?_;rintro⟨T,e,fx⟩;have e:=eM e;have:T=T0:=by rw[<- fx.only,<- lp nd sb,e]
   subst this;subst W4;exact fi.mp fx.br i hi QS
  .rw[decide_eq_false λz=>QS (CQ.mp (List.mem_filter.mp z).2)];show M' _;subst Hj;lia;refine ae g0 ?_;refine ae (Em #[]) ?_;refine k _ #[some #[0,.str t.nm],?_,λj h1 h2=>?_]
   .rw[aaO];rfl
   .by_cases e:j=i
    .subst e;rw[W4];exact QS
    .exact hj j h1 #[]
def tM(k:Fx ps ts T)(o:BD ps t=true){R:Aao}(hR:R (Gn T t)):fj [.lst (T.map iF),.str t.one,.str t.A4] R:=by
 refine#[ps,T,t.one,t.A4,rfl,k.nd,k.len,λu hu=>#[k.ne u hu,k.op u hu],k.NW,k.nk.pl,(B8.mp o).1,λhn=>?_,λns w d=>?_]
 .rw[gb hn]at hR;exact hR
 .rw[cW #[ns,w,d],<- k.B4 w d]at hR;exact hR
def ze(t u:oR):UW (.tup [.int u.cost,.str u.nm]) (.tup [.int t.cost,.str t.nm])=some (.bl (decide (EC t u))):=by have e:gtB (u.cost,u.nm) (t.cost,t.nm)=decide (EC t u):=decide_eq_decide.mpr Iff.rfl;rw[<- e];rfl
def si{x y:PV}(h:K0 d x)(k:Sx 60 y):Oj x y=some (.bl (!cB (x=y))):=by show (Br 60 x y).map _=_;rw[nP h k];rfl
def vN(us:Aah)(l:Aab):Eh (us.map iF) l=(us.zip l).map λq=>PV.tup [iF q.1,q.2]:=by
 unfold Eh;induction us generalizing l with
 |nil=>rfl
 |cons n us ih=>
  cases l with
  |nil=>rfl
  |cons y l=>have:=ih l;simp only[aaw,abb]at this ⊢;rw[this]
theorem ig(xs:Aab)(P:Aao)(h:bI xs P):Q.run 7 bF xs P:=by
 obtain⟨ps,ts,x,y,rfl,nk,kx,ky,h⟩:=h;have nd:=bn nk.ok;have tl:=nk.tl;have ol:(ts.filter (BD ps)).length<=60:=aaK (abe _ _) tl;have no:¬ (∃T,x=Bn T/\Fx ps ts T/\y=Cw ps ts T/\∀t∈BC ps ts T,Gd T t)->P (.bl false):=λz=>by rw[FV,cb z]at h;exact h
 have yes:(∃T,x=Bn T/\Fx ps ts T/\y=Cw ps ts T/\∀t∈BC ps ts T,Gd T t)->P (.bl true):=λz=>by rw[FV,bG z]at h;exact h
 clear h;unfold bF;refine ag λN hN=>?_;lia;refine#[ps,ts,x,rfl,nk,kx,ae rfl ?_];cases hf:Jt ps ts x with
 |false=>refine no ?_;rintro⟨T,e,fx,_⟩;rw[Jt,bG #[T,e,fx]]at hf;cases hf
 |true=>
 obtain⟨T,rfl,k⟩:=B9.mp hf;have xl:(BC ps ts T).length<=60:=aaK fK tl;show N _;subst hN;refine ag λN hN=>?_;lia;refine#[ps,ts,rfl,#[],?_];lia;refine dm iF (Bl (T.map oR.nm)) iF (λt ht R hR=>?_) #[3] ?_
 .refine ae (z:=.str t.nm) (ak (j:=0) rfl) (ae aX (ae rfl ?_));unfold Bl at hR;cases e:decide (t.nm∈T.map oR.nm)with
  |false=>rw[e]at hR;exact hR
  |true=>rw[e]at hR;exact hR
 rw[aaL,show (ts.filter (BD ps)).filter (Bl (T.map oR.nm))=T from k.some];subst hN;refine ag λN hN=>?_;lia;refine#[ps,ts,rfl,#[],?_];lia;refine dm iF (λt=>!Bl (T.map oR.nm) t) iF (λt ht R hR=>?_) #[3] ?_
 .refine ae (z:=.str t.nm) (ak (j:=0) rfl) (ae (fL _ _) (ae rfl ?_));unfold Bl at hR;cases e:decide (t.nm∈T.map oR.nm)with
  |false=>rw[e]at hR;exact hR
  |true=>rw[e]at hR;exact hR
 rw[aaL,show (ts.filter (BD ps)).filter (λt=>!Bl (T.map oR.nm) t)=BC ps ts T from rfl];subst hN;refine ag λN hN=>?_;have neg:(¬ ∃l,y=.tup l)->P (.bl false):=λz=>no λ#[T',_,_,e,_]=>z #[_,e];rcases ky with ky|⟨gE,rfl⟩;case inr=>show opt (Dc "tuple" (.Bp gE)) _;refine ae (z:=.bl false) rfl (ae rfl ?_);exact neg (by rintro⟨l,e⟩;cases e)
 by_cases ht:∃l,y=.tup l;case neg=>show opt (Dc "tuple" y) _;refine ae (dn ky ht) (ae rfl ?_);exact neg ht
 .obtain⟨l,rfl⟩:=ht;obtain⟨ll,lk⟩:=ky;lia;refine ae (ne_int _ _) ?_;rw[aad];have one:∀{T'},Bn T=Bn T'->Fx ps ts T'->PV.tup l=Cw ps ts T'->T'=T/\l=(BC ps ts T).map (CW T):=λ{T'} e fx e2=>by have:=fx.one k e;subst this;exact#[rfl,PV.tup.inj e2]
  by_cases hl:l.length=(BC ps ts T).length;case neg=>rw[decide_eq_false #[]];refine ae rfl (no ?_);rintro⟨T',e,fx,e2,_⟩;rw[(one e fx e2).2,aad]at hl;exact hl rfl
  rw[decide_eq_true #[]];refine ae rfl ?_;show N _;subst hN;refine ag λN hN=>aU λG B hG hB=>?_;lia;simp only[Nj];lia;simp only[IQ];rw[vN];subst hG hB;have kl:=k.len;refine aB (i:=0) (λi e=>∃v5 v6:Aaq,e=[some #[0,A6 ps ts],some #[0,Bn T],some #[0,.tup l],some #[0,.lst (T.map iF)],some #[0,.lst ((BC ps ts T).map iF)],v5,v6]/\∀(j:Nat) (t:oR) (z:PV),j<i->(BC ps ts T)[j]?=some t->l[j]?=some z->z=CW T t/\Gd T t) #[none,none,rfl,λj _ _ h=>absurd h #[]] ?_ ?_;case refine_2=>
   rintro e ⟨v5,v6,rfl,hj⟩;show N _;subst hN;lia;have hz:∀j,j<l.length->j<((BC ps ts T).zip l).length:=λj h=>by rw[acC];omega
   refine yes #[T,rfl,k,?_,λt ht=>?_]
   .unfold Cw;congr 1;refine abR λj=>?_;rw[aaj];rcases aaS j l.length with q|q
    .have q2:j<(BC ps ts T).length:=by omega
     rw[aab q2,aab q];refine congrArg some (hj j _ _ ?_ (aab q2) (aab q)).1;rw[aad,aaG];exact hz j q
    .rw[aam q,aam #[]];rfl
   .obtain⟨j,Ox⟩:=List.mem_iff_getElem?.mp ht;have q2:j<(BC ps ts T).length:=(List.getElem?_eq_some_iff.mp Ox).1;have q:j<l.length:=by omega
    refine(hj j t _ ?_ Ox (aab q)).2;rw[aad,aaG];exact hz j q
  rintro i w e M hw ⟨v5,v6,rfl,hj⟩ kk;rw[aaG]at kk hj;rw[aaj,aas]at hw;obtain⟨⟨t,z⟩,hq,rfl⟩:=hw;rw[aaF]at hq;obtain⟨h1,h2⟩:=hq;have ht:=aaA h1;have kz:=lk z (aaA h2);obtain⟨t1,t2,t3⟩:=CY.mp ht;have bad:¬ (z=CW T t/\Gd T t)->P (.bl false):=λq=>no λ#[T',e,fx,e2,g]=>q (by obtain⟨rfl,e3⟩:=one e fx e2;refine#[?_,g t ht];rw[e3,aaj,h1]at h2;exact(aar h2).symm)
  have good:z=CW T t->Gd T t->∀v5 v6:Aaq,M [some #[0,A6 ps ts],some #[0,Bn T],some #[0,.tup l],some #[0,.lst (T.map iF)],some #[0,.lst ((BC ps ts T).map iF)],v5,v6]:=λq1 q2 v5 v6=>kk _ #[v5,v6,rfl,λj t' z' hji g1 g2=>by
   by_cases e:j=i
   .subst e;rw[h1]at g1;rw[h2]at g2;cases g1;cases g2;exact#[q1,q2]
   .exact hj j t' z' #[] g1 g2]
  clear kk hj;have c0:iD (iF t) (.int 0)=some (.str t.nm):=ak (j:=0) rfl;have c1:iD (iF t) (.int 1)=some (.str t.one):=ak (j:=1) rfl;have c2:iD (iF t) (.int 2)=some (.str t.A4):=ak (j:=2) rfl;have c3:iD (iF t) (.int 3)=some (.int t.cost):=ak (j:=3) rfl;generalize Np:iF t=tv at c0 c1 c2 c3 ⊢;generalize (BC ps ts T).map iF=ov at good ⊢;refine#[rfl,?_];show iN _ _ _ [some #[0,A6 ps ts],some #[0,Bn T],some #[0,.tup l],some #[0,.lst (T.map iF)],some #[0,.lst ov],some #[0,tv],some #[0,z]];refine ag λM' Hj=>?_;by_cases TM:∃m,z=.tup m;case neg=>show opt (Dc "tuple" z) _;refine ae (dn kz TM) (ae rfl ?_);exact bad (by rintro⟨e,_⟩;exact TM #[_,e])
  .obtain⟨m,rfl⟩:=TM;obtain⟨_,mk⟩:=kz;lia;refine ae (ne_int _ _) (ae rfl ?_);by_cases hm:(m.length:Int)=2;case neg=>rw[decide_eq_false hm];refine bad ?_;rintro⟨e,_⟩;have e:m=[.str t.nm,Gn T t]:=PV.tup.inj e;rw[e]at hm;exact hm rfl
   obtain⟨a,b,rfl⟩:∃a b,m=[a,b]:=by
    match m,hm with
    |[a,b],_=>exact#[a,b,rfl]
    |[],h=>simp at h
    |[_],h=>simp at h
    |_::_::_::_,h=>simp at h;omega
   have ka:=mk a #[0];have kb:=mk b #[0];rw[decide_eq_true hm];have i0:iD (.tup [a,b]) (.int 0)=some a:=ak (j:=0) rfl;have i1:iD (.tup [a,b]) (.int 1)=some b:=ak (j:=1) rfl;generalize hz:PV.tup [a,b]=zz at i0 i1 ⊢;lia;refine ae i0 (ae c0 (ae (si ka trivial) (ae rfl ?_)));by_cases ha:a=.str t.nm;case neg=>rw[cb ha];refine bad ?_;rintro⟨e,_⟩;unfold CW at e;injection e with e;injection e with e _;exact ha e
   rw[bG ha];lia;refine ae i1 ?_;have nt:(∀bs,b≠.tup bs)->P (.bl false):=λq=>bad (by rintro⟨e,g⟩;unfold CW at e;injection e with e;injection e with _ e;injection e with e _;rw[cW g.1]at e;exact q _ e)
   by_cases UH:∃bs,b=.tup bs;case neg=>refine ae (dn kb UH) (ae rfl ?_);exact nt λbs e=>UH #[bs,e]
   .obtain⟨bs,rfl⟩:=UH;lia;subst Hj;show iN _ _ _ _;refine ag λM' Hj=>?_;lia;refine ae i1 (ae c1 (ae c2 (tM k t2 ?_)));refine ae (si kb (Sx.mono (d:=2) #[] (re t))) (ae rfl ?_);by_cases hb:PV.tup bs=Gn T t;case neg=>rw[cb hb];refine bad ?_;rintro⟨e,_⟩;unfold CW at e;injection e with e;injection e with _ e;injection e with e _;exact hb e
    rw[bG hb];have wy:Wy T t.one t.A4:=acL λn=>by rw[gb n]at hb;cases hb
    have YU:bs=(B4 T t.one t.A4).map .str:=by rw[cW wy]at hb;exact PV.tup.inj hb
    show M' _;subst Hj;lia;refine dm iF (Bl (B4 T t.one t.A4)) (λu=>.bl (decide (EC t u))) (λu hu R hR=>?_) #[3] ?_
    .have Dt:Cz (.str u.nm) (.tup bs)=some (.bl (Bl (B4 T t.one t.A4) u)):=by rw[YU];exact aX
     refine ae (z:=.str u.nm) (ak (j:=0) rfl) (ae i1 (ae Dt (ae rfl ?_)));cases e:Bl (B4 T t.one t.A4) u with
     |false=>rw[e]at hR;exact hR
     |true=>rw[e]at hR;rw[if_pos rfl];refine ae (z:=.int u.cost) (ak (j:=3) rfl) (ae (z:=.str u.nm) (ak (j:=0) rfl) ?_);refine ae c3 (ae c0 (ae (ze t u) ?_));exact hR
    have e:(T.filter (Bl (B4 T t.one t.A4))).map (λu=>PV.bl (decide (EC t u)))=((T.filter (Bl (B4 T t.one t.A4))).map λu=>decide (EC t u)).map PV.bl:=by rw[aax];rfl
    rw[aaL,e];refine ae (ya _) (ae rfl ?_);have zr:PV.tup [a,.tup bs]=CW T t:=by unfold CW;rw[ha,hb]
    cases Q9:((T.filter (Bl (B4 T t.one t.A4))).map λu=>decide (EC t u)).any id with
    |true=>refine bad ?_;rintro⟨_,g⟩;obtain⟨c,hc,ND⟩:=List.any_eq_true.mp Q9;obtain⟨u,hu,rfl⟩:=List.mem_map.mp hc;obtain⟨GC,Yg⟩:=List.mem_filter.mp hu;exact Al (g.2 u GC (BZ.mp Yg)) (of_decide_eq_true ND)
    |false=>show M _;rw[<- Np];refine good zr #[wy,λv hv hn=>?_] _ _;have ne:v.nm≠t.nm:=λe=>t3 (e ▸ abo hv);refine(x4 ne).resolve_right λc=>?_;have:((T.filter (Bl (B4 T t.one t.A4))).map λu=>decide (EC t u)).any id=true:=List.any_eq_true.mpr #[true,List.mem_map.mpr #[v,List.mem_filter.mpr #[hv,BZ.mpr hn],decide_eq_true c],rfl];rw[Q9]at this;cases this
def zi(nk:Nk ps ts):Fx ps ts []:=#[nk,afe _,λ_ h=>by simp at h,λ_ h=>by simp at h]
def oI(h:¬ Wy T a b):B4 T a b=[]:=by unfold B4;rw[dif_neg h]
theorem rN(xs:Aab)(P:Aao)(h:dI xs P):Q.run 4 gf xs P:=by
 obtain⟨ps,ts,x,rfl,nk,kx,h⟩:=h;have tl:=nk.tl;have ol:(ts.filter (BD ps)).length<=60:=aaK (abe _ _) tl;unfold gf;refine ag λN hN=>?_;have rest:∀T,Fx ps ts T->N [some #[0,A6 ps ts],some #[0,Bn T],none,none]:=λT k=>by
  have xl:(BC ps ts T).length<=60:=aaK fK tl;subst hN;refine ag λN hN=>?_;lia;refine#[ps,ts,rfl,#[],?_];lia;refine dm iF (Bl (T.map oR.nm)) iF (λt ht R hR=>?_) #[3] ?_
  .refine ae (z:=.str t.nm) (ak (j:=0) rfl) (ae aX (ae rfl ?_));unfold Bl at hR;cases e:decide (t.nm∈T.map oR.nm)with
   |false=>rw[e]at hR;exact hR
   |true=>rw[e]at hR;exact hR
  rw[aaL,show (ts.filter (BD ps)).filter (Bl (T.map oR.nm))=T from k.some];subst hN;refine ag λN hN=>?_;lia;refine#[ps,ts,rfl,#[],?_];lia;refine dm iF (λt=>!Bl (T.map oR.nm) t) iF (λt ht R hR=>?_) #[3] ?_
  .refine ae (z:=.str t.nm) (ak (j:=0) rfl) (ae (fL _ _) (ae rfl ?_));unfold Bl at hR;cases e:decide (t.nm∈T.map oR.nm)with
   |false=>rw[e]at hR;exact hR
   |true=>rw[e]at hR;exact hR
  rw[aaL,show (ts.filter (BD ps)).filter (λt=>!Bl (T.map oR.nm) t)=BC ps ts T from rfl];subst hN;lia;refine be iF (λt=>Ek t.nm (B4 T t.one t.A4)) (λt ht R hR=>?_) #[3] ?_
  .obtain⟨t1,t2,_⟩:=CY.mp ht;refine ae (z:=.str t.nm) (ak (j:=0) rfl) ?_;refine ae (z:=.str t.one) (ak (j:=1) rfl) ?_;refine ae (z:=.str t.A4) (ak (j:=2) rfl) ?_;refine#[ps,T,t.one,t.A4,rfl,k.nd,k.len,λu hu=>#[k.ne u hu,k.op u hu],k.NW,k.nk.pl,(B8.mp t2).1,λhn=>?_,λns w d=>?_]
   .rw[oI hn]at hR;exact ae (z:=false) rfl hR
   .rw[<- k.B4 w d]at hR;cases ns with
    |nil=>exact ae (z:=false) rfl hR
    |cons a r=>exact ae (z:=true) rfl hR
  rw[aaL];refine ae rfl ?_;have:=h ((BC ps ts T).map λt=>(t.nm,B4 T t.one t.A4)) #[by rw[aad];omega,λr hr=>?_]
  .unfold JK at this;rw[aax]at this;exact this
  .obtain⟨t,ht,rfl⟩:=List.mem_map.mp hr;refine#[(nk.ok.tie t (CY.mp ht).1).nm,?_];by_cases wy:Wy T t.one t.A4
   .obtain⟨_,a,b⟩:=dz k wy;exact#[b,a]
   .show (B4 T t.one t.A4).length<=60/\∀x∈B4 T t.one t.A4,Bh x;rw[oI wy];exact#[#[0],#[0]]
 lia;refine#[ps,ts,x,rfl,nk,kx,ae rfl ?_];cases hf:Jt ps ts x with
 |false=>exact rest [] (zi nk)
 |true=>obtain⟨T,rfl,k⟩:=B9.mp hf;exact rest T k
def Oo:∀z∈([]:Aab),Kd z:=λz h=>by cases h
def DD{a:PV}(h:Kd a)(k:∀z∈l,Kd z):∀z∈a::l,Kd z:=λz hz=>(List.mem_cons.mp hz).elim (λe=>e ▸ h) (k z)
def TC{a b:Aab}(h:∀z∈a,Kd z)(k:∀z∈b,Kd z):∀z∈a++b,Kd z:=λz hz=>(List.mem_append.mp hz).elim (h z) (k z)
def R7:∀z∈([]:Aab),K0 7 z:=λz h=>by cases h
def Gc{a:PV}(h:K0 7 a)(k:∀z∈l,K0 7 z):∀z∈a::l,K0 7 z:=λz hz=>(List.mem_cons.mp hz).elim (λe=>e ▸ h) (k z)
def TF{a b:Aab}(h:∀z∈a,K0 7 z)(k:∀z∈b,K0 7 z):∀z∈a++b,K0 7 z:=λz hz=>(List.mem_append.mp hz).elim (h z) (k z)
def bq(h:x.length<=1000):K0 (d+1) (.str x):=h
def bg(h:Bh x):x.length<=8:=by
 have e:x.length=x.cps.toList.length:=by simp[Str.length]
 rw[e];exact h.hi
def cU{l:A3}(hl:l.length<=200)(h:∀x∈l,x.length<=1000):K0 (d+2) (.tup (l.map .str)):=#[by rw[aad];exact hl,λy hy=>by obtain⟨x,hx,rfl⟩:=List.mem_map.mp hy;exact h x hx]
def cy{a b:Aab}(hl:a.length+b.length<=200)(ha:∀y∈a,K0 d y)(hb:∀y∈b,K0 d y):K0 (d+1) (.tup (a++b)):=#[by rw[aan];exact hl,λy hy=>(List.mem_append.mp hy).elim (ha y) (hb y)]
def bf{x:PV}(h:K0 d x):∀y∈[x],K0 d y:=λy hy=>by rw[List.mem_singleton.mp hy];exact h
def gH:K0 (d+1) (.tup []):=#[#[0],λy hy=>by simp at hy]
def aE{x z:PV}(h:K0 d x)(k:K0 d z):K0 (d+1) (.tup [x,z]):=#[#[0],λy hy=>by
 rcases List.mem_cons.mp hy with rfl|hy
 .exact h
 .rw[List.mem_singleton.mp hy];exact k]
def tN{ss gs:A3}(up:D3 (D0 ss) gs)(h:∀n∈ss,Bh n):(∀n∈gs,Bh n)/\gs.length<=ss.length:=#[λn hn=>h n (by
 have:=up.1.mem_iff.mp hn
 rwa [kR]at this),by rw[up.1.length_eq];exact hZ ss]
theorem mn(c:PV)(xs:Aab)(P:Aap)(h:cN c xs P):Q.HI 9 cG c xs P:=by
 obtain⟨F,ps,ts,T,rfl,hF,rfl,nk,Ts,Tl,h⟩:=h;have tl:=nk.tl;unfold cG;refine ag λN hN=>?_;lia;refine ae (M8 ps ts) ?_;lia;refine be iF (λt=>.str t.nm) (λt ht R hR=>ae (z:=.str t.nm) (ak (j:=0) rfl) hR) #[3] ?_;rw[aaL];have es:ts.map (λt=>PV.str t.nm)=(ts.map oR.nm).map .str:=by rw[aax];rfl
 rw[es];subst hN;refine ag λN hN=>?_;have Tw:∀t∈T,Bh t.nm:=λt ht=>(nk.ok.tie t (Ts t ht)).nm;have go:∀(f:Nat) (ex:A3),F<=f+1->ex.length<=1->(∀n∈ex,Bh n)->N [some #[2,.int (f:Int)],some #[0,A6 ps ts],some #[0,Bn T],some #[0,.lst ((ts.map oR.nm).map .str)],some #[0,.lst (ex.map .str)],none,none,none,none]:=λf ex hf exl Zm=>by
  subst hN;generalize (ts.map oR.nm).map PV.str=nv;have M7:∀n∈T.map oR.nm,Bh n:=λn hn=>by obtain⟨t,ht,rfl⟩:=List.mem_map.mp hn;exact Tw t ht
  have nl:(T.map oR.nm).length<=60:=by rw[aad];exact Tl
  unfold Bn;generalize T.map oR.nm=ns at M7 nl;refine ag λN hN=>?_;lia;rw[aad];refine ae aM ?_;refine dr #[] #[] #[] λf2 r YL hr=>?_;try lia
  subst hN;refine ag λN hN=>?_;lia;have l1:=aV (ns.map PV.str) none (some (r:Int));have l2:=aV (ns.map PV.str) (some ((r:Int)+1)) none;rw[aad]at l1 l2;refine ae aM (ae rfl (ae (aP #[]) ?_));have e6:BQ (ns.map PV.str) none (some (r:Int))++BQ (ns.map PV.str) (some ((r:Int)+1)) none=(ns.take r++ns.drop (r+1)).map .str:=by rw[pN,show (r:Int)+1=((r+1:Nat):Int)from rfl,gK,aaO,aeM,aeN]
  rw[e6];have lw:∀n∈ns.take r++ns.drop (r+1),Bh n:=λn hn=>(List.mem_append.mp hn).elim (λq=>M7 n (abr q)) λq=>M7 n (adk q);have le:(ns.take r++ns.drop (r+1)).length<=60:=by rw[aan,abp,ab8];omega
  clear l1 l2 e6;generalize ns.take r++ns.drop (r+1)=ls at lw le;subst hN;refine ag λN hN=>?_;lia;have hk:∀{d:Nat},∀y∈ns.map PV.str,K0 (d+1) y:=λy hy=>by obtain⟨n,hn,rfl⟩:=List.mem_map.mp hy;have:=bg (M7 n hn);exact bq #[]
  have sl:(ns.map PV.str).length<=60:=by rw[aad];exact nl
  have kn:K0 8 (.tup (ns.map .str)):=#[#[],hk]
  have XY:K0 8 (.tup (ls.map .str)):=cU #[] λn hn=>by have:=bg (lw n hn);omega
  have cl:=aV (ns.map PV.str) none (some 1);refine ae rfl (ae (aP #[]) (ae rfl (ae (aP #[3]) (ae (aP #[3]) ?_))));have kz:∀z∈[PV.AZ,.lst (ns.map .str),.str (aao "tree"),.int 0,.tup (ns.map PV.str++BQ (ns.map PV.str) none (some 1)),.tup (ns.map PV.str).reverse,.tup (ns.map PV.str++[.str (aao "zzzz")]),.tup [.tup (ns.map .str)],.tup (ns.map PV.str++[.int 0])],Kd z:=DD (.inl (trivial)) (DD (.inl (#[#[],hk])) (DD (.inl (bq #[2])) (DD (.inl (trivial)) (DD (.inl (cy #[] hk λy hy=>hk y (bz hy))) (DD (.inl (#[by rw[aez];omega,λy hy=>hk y (List.mem_reverse.mp hy)])) (DD (.inl (cy #[3] hk (bf (bq #[2])))) (DD (.inl (#[#[0],bf #[#[],hk]])) (DD (.inl (cy #[3] hk (bf trivial))) (Oo)))))))));generalize QL:[PV.AZ,.lst (ns.map .str),.str (aao "tree"),.int 0,.tup (ns.map PV.str++BQ (ns.map PV.str) none (some 1)),.tup (ns.map PV.str).reverse,.tup (ns.map PV.str++[.str (aao "zzzz")]),.tup [.tup (ns.map .str)],.tup (ns.map PV.str++[.int 0])]=zs at kz;have zl:zs.length=9:=by rw[<- QL];rfl
  show N [some #[2,.int (f2:Int)],some #[0,A6 ps ts],some #[0,.tup (ns.map .str)],some #[0,.lst nv],some #[0,.lst (ex.map .str)],some #[0,.int (r:Int)],some #[0,.tup (ls.map .str)],some #[0,.lst zs],none];clear QL;subst hN;refine ag λN hN=>?_;lia;refine ae (aP #[3]) (ae (bu #[3]) ?_);have Qu:∀z∈zs++[.Bp [],.tup [.AZ],.tup (ns.map PV.str++[.AZ])],Kd z:=TC kz (DD (.inr #[_,rfl]) (DD (.inl #[#[0],bf trivial]) (DD (.inl (cy #[3] hk (bf trivial))) (Oo))));have SF:(zs++[PV.Bp [],.tup [.AZ],.tup (ns.map PV.str++[.AZ])]).length=12:=by rw[aan,zl];rfl
  generalize zs++[PV.Bp [],.tup [.AZ],.tup (ns.map PV.str++[.AZ])]=ys at Qu SF;subst hN;refine ag λN hN=>?_;lia;have ml:∀a b:A3,(a.map PV.str++b.map PV.str).mapM B7=some (a++b):=λa b=>by rw[<- aaO];exact gg _
  have al:∀a:A3,a.length<=60->(a.map PV.str).length+(ex.map PV.str).length<=100000:=λa h=>by rw[aad,aad];omega
  refine ae rfl (ae (bu (al ns nl)) ?_);refine#[ns++ex,ml ns ex,by rw[aan];omega,by have:=hZ (ns++ex);rw[aan]at this;omega,λgs up=>?_];refine ae rfl ?_;refine ae rfl (ae (bu (al ls le)) ?_);refine#[ls++ex,ml ls ex,by rw[aan];omega,by have:=hZ (ls++ex);rw[aan]at this;omega,λWZ Xk=>?_];refine ae rfl ?_;have kg:∀{ss gs:A3},ss.length<=60->(∀n∈ss,Bh n)->D3 (D0 (ss++ex)) gs->K0 8 (.tup (gs.map .str)):=λ{ss gs} sl sw up=>by
   obtain⟨w,wl⟩:=tN up λn hn=>(List.mem_append.mp hn).elim (sw n) (Zm n);rw[aan]at wl;exact cU #[] λn hn=>by have:=bg (w n hn);omega
  have kw:∀z∈[PV.tup (ns.map .str),.tup (ns.map .str),.tup (ls.map .str),.tup (gs.map .str),.tup (WZ.map .str)],Kd z:=DD (.inl (kn)) (DD (.inl (kn)) (DD (.inl (XY)) (DD (.inl (kg nl M7 up)) (DD (.inl (kg le lw Xk)) (Oo)))));generalize Wn:[PV.tup (ns.map .str),.tup (ns.map .str),.tup (ls.map .str),.tup (gs.map .str),.tup (WZ.map .str)]=ws at kw;have wl:ws.length=5:=by rw[<- Wn];rfl
  show N [some #[2,.int (f2:Int)],some #[0,A6 ps ts],some #[0,.tup (ns.map .str)],some #[0,.lst nv],some #[0,.lst (ex.map .str)],some #[0,.int (r:Int)],some #[0,.tup (ls.map .str)],some #[0,.lst ys],some #[0,.lst ws]];clear Wn;subst hN;refine ag λN hN=>?_;lia;obtain⟨z4,Wj,e4⟩:=fg (l:=ws) (r:=4) #[] #[];refine ae e4 (ae e4 ?_);refine dr #[] #[] #[] λf3 q YK hq=>?_;obtain⟨z5,X8,e5⟩:=fg (l:=ys) (r:=(q:Int)) #[] hq;refine ae e5 (ae (bu #[3]) ?_);have kv:∀z∈ws++[z4,z4,z5],Kd z:=TC kw (DD (kw _ Wj) (DD (kw _ Wj) (DD (Qu _ X8) (Oo))));have vl:(ws++[z4,z4,z5]).length=8:=by rw[aan,wl];rfl
  generalize ws++[z4,z4,z5]=vs at kv vl;subst hN;lia;refine dr #[] #[] #[] λf4 q2 YJ Hg=>?_;obtain⟨z6,X7,e6⟩:=fg (l:=vs) (r:=(q2:Int)) #[] Hg;refine ae e6 ?_;exact h f4 z6 #[] (kv _ X7)
 lia;simp only[Lp];lia;refine ae (z:=.bl (!((ts.map oR.nm).map PV.str).isEmpty)) rfl (ae rfl ?_);cases OA:((ts.map oR.nm).map PV.str).isEmpty with
 |true=>exact go F [] #[] #[0] #[0]
 |false=>
  have ln:((ts.map oR.nm).map PV.str).length≠0:=λz=>by rw[List.isEmpty_iff.mpr (List.length_eq_zero_iff.mp z)]at OA;cases OA
  have ln2:((ts.map oR.nm).map PV.str).length<=60:=by rw[aad,aad];exact tl
  rw[adK,if_pos rfl];refine dr #[] #[] #[] λf q hf hq=>?_;obtain⟨z,hz,e⟩:=fg (l:=(ts.map oR.nm).map PV.str) (r:=(q:Int)) #[] hq;obtain⟨n,hn,rfl⟩:=List.mem_map.mp hz;obtain⟨t,ht,rfl⟩:=List.mem_map.mp hn;refine ae e ?_;exact go f [t.nm] #[] #[0] λm hm=>by rw[List.mem_singleton.mp hm];exact(nk.ok.tie t ht).nm
theorem qk(c:PV)(xs:Aab)(P:Aap)(h:fV c xs P):Q.HI 8 ft c xs P:=by
 obtain⟨F,rs,rfl,hF,rfl,ok,h⟩:=h;have rl:=ok.len;have kr:∀{d:Nat},∀y∈rs.map (λr=>Ek r.1 r.2),K0 (d+3) y:=λy hy=>by
  obtain⟨r,hr,rfl⟩:=List.mem_map.mp hy;obtain⟨h1,h2,h3⟩:=ok.row r hr;have:=bg h1;exact aE (bq #[]) (cU #[] λx hx=>by
   have:=bg (h3 x hx)
   omega)
 have ml:(rs.map λr=>Ek r.1 r.2).length<=60:=by rw[aad];exact rl
 unfold ft;refine ag λN hN=>?_;lia;refine ae rfl ?_;subst hN;refine ag λN hN=>?_;lia;have dd:GR [.tup (rs.map λr=>Ek r.1 r.2)]=some (.Bp (DT (rs.map λr=>((aav r.1:Key),PV.tup (r.2.map .str))))):=by show (if (rs.map λr=>Ek r.1 r.2).length<=1000 then ((rs.map λr=>Ek r.1 r.2).mapM D5).map (λgE=>PV.Bp (DT gE))else none)=_;rw[if_pos #[]];have:=kf (λr:Str×List Str=>r.1) (λr=>PV.tup (r.2.map .str)) rs;unfold Ek;rw[this];rfl
 have ix:∀i:Nat,i<rs.length->∃(n:Str) (l:A3),iD (.tup (rs.map λr=>Ek r.1 r.2)) (.int (i:Int))=some (.tup [.str n,.tup (l.map .str)])/\n.length<=8/\l.length<=60/\∀x∈l,x.length<=8:=λi hi=>by obtain⟨h1,h2,h3⟩:=ok.row rs[i] (aa8 hi);refine#[rs[i].1,rs[i].2,ak ?_,bg h1,h2,λx hx=>bg (h3 x hx)];rw[aaj,aab hi];rfl
 have el:(rs.map λr=>Ek r.1 r.2).length=rs.length:=aad _;generalize (rs.map λr=>Ek r.1 r.2)=ms at kr ml dd ix el ⊢;generalize DT (rs.map λr=>((aav r.1:Key),PV.tup (r.2.map .str)))=dk at dd;clear ok;have cl:=aV ms none (some 1);have cl2:=aV ms (some 1) none;refine ae rfl (ae rfl (ae (aP #[]) (ae dd ?_)));have kz:∀z∈[PV.tup [],.AZ,.lst ms,.tup ms.reverse,.tup (ms++BQ ms none (some 1)),.tup (BQ ms (some 1) none),.tup [.tup ms],.str (aao ""),.int 0,.Bp dk],Kd z:=DD (.inl gH) (DD (.inl trivial) (DD (.inl #[#[],kr]) (DD (.inl #[by rw[aez];omega,λy hy=>kr y (List.mem_reverse.mp hy)]) (DD (.inl (cy #[] kr λy hy=>kr y (bz hy))) (DD (.inl #[#[],λy hy=>kr y (bz hy)]) (DD (.inl #[#[0],bf #[#[],kr]]) (DD (.inl (bq #[2])) (DD (.inl trivial) (DD (.inr #[_,rfl]) (Oo))))))))));generalize QL:[PV.tup [],.AZ,.lst ms,.tup ms.reverse,.tup (ms++BQ ms none (some 1)),.tup (BQ ms (some 1) none),.tup [.tup ms],.str (aao ""),.int 0,.Bp dk]=zs at kz;have zl:zs.length=10:=by rw[<- QL];rfl
 show N [some #[2,.int (F:Int)],some #[0,.tup ms],some #[0,.lst zs],none,none,none,none,none];clear QL;subst hN;refine ag λN hN=>?_;lia;refine ae (aP #[3]) (ae (bu #[3]) ?_);have ka:∀s:Str,s.length<=8->∀{d:Nat},K0 (d+2) (.tup [.str s,.tup []]):=λs hs d=>aE (bq #[]) gH;have Qu:∀z∈zs++[.tup [.tup [.str (aao "a"),.tup []]],.tup [.tup []],.tup [.AZ],.tup (ms++[.tup [.str (aao "zzzz"),.tup []]])],Kd z:=TC kz (DD (.inl #[#[0],bf (ka _ #[2])]) (DD (.inl #[#[0],bf gH]) (DD (.inl #[#[0],bf trivial]) (DD (.inl (cy #[3] kr (bf (ka _ #[2])))) (Oo)))));have SF:(zs++[PV.tup [.tup [.str (aao "a"),.tup []]],.tup [.tup []],.tup [.AZ],.tup (ms++[.tup [.str (aao "zzzz"),.tup []]])]).length=14:=by rw[aan,zl];rfl
 generalize zs++[PV.tup [.tup [.str (aao "a"),.tup []]],.tup [.tup []],.tup [.AZ],.tup (ms++[.tup [.str (aao "zzzz"),.tup []]])]=ys at Qu SF;subst hN;refine ag λN hN=>?_;lia;have pick:∀f:Nat,1<=f->F<=f+3->aq (.int (f:Int)) [.int (ys.length:Int)] λr c'=>opt (iD (.lst ys) r) λz=>P z c':=λf h1 h2=>dr h1 #[] #[] λf' q hf hq=>by obtain⟨z,hz,e⟩:=fg (l:=ys) (r:=(q:Int)) #[] hq;exact ae e (h f' z #[] (Qu z hz))
 refine ae (xF ms) (ae rfl ?_);cases OA:ms.length==0 with
 |true=>exact pick F #[] #[]
 |false=>
 have h0:ms.length≠0:=by simpa using OA
 rw[if_neg #[0]];refine dr #[] #[] #[] λf1 q Jq hq=>?_;refine ae (bc _ _) (ae rfl ?_);cases Yn:decide ((q:Int)=0)with
 |true=>exact pick f1 #[] #[]
 |false=>
 rw[if_neg #[0]];subst hN;refine ag λN hN=>?_;lia;refine dr #[] #[] #[] λf2 i YL hi=>?_;subst hN;refine ag λN hN=>?_;simp only[Ha];lia;obtain⟨n,l,e1,nl,ll,lw⟩:=ix i #[];refine ae e1 ?_;refine#[rfl,?_];show N [some #[2,.int (f2:Int)],some #[0,.tup ms],some #[0,.lst ys],some #[0,.int (i:Int)],some #[0,.str n],some #[0,.tup (l.map .str)],none,none];subst hN;refine ag λN hN=>?_;lia;refine dr #[] #[] #[] λf3 j YK hj=>?_;obtain⟨n2,l2,e2,nl2,ll2,XU⟩:=ix j #[];refine ae e2 ?_;subst hN;refine ag λN hN=>?_;lia;have LX:∀{d:Nat},∀y∈l.map PV.str,K0 (d+1) y:=λy hy=>by obtain⟨x,hx,rfl⟩:=List.mem_map.mp hy;have:=lw x hx;exact bq #[]
 have al:(l.map PV.str).length<=60:=by rw[aad];exact ll
 have kn:∀{d:Nat},K0 (d+1) (.str n):=bq #[];have XX:∀{d:Nat},K0 (d+1) (.str n2):=bq #[];have k2:∀{d:Nat},K0 (d+2) (.tup (l2.map .str)):=cU #[] λx hx=>by have:=XU x hx;omega
 have Wi:iD (.tup [.str n2,.tup (l2.map .str)]) (.int 0)=some (.str n2):=ak (j:=0) rfl;have Wh:iD (.tup [.str n2,.tup (l2.map .str)]) (.int 1)=some (.tup (l2.map .str)):=ak (j:=1) rfl;generalize l.map PV.str=A at LX al;generalize l2.map PV.str=A2 at k2 Wi Wh;have kA:∀{d:Nat},K0 (d+2) (.tup A):=#[#[],LX]
 have c1:=aV A none (some 1);have c2:=aV A (some 1) none;have c3:=aV A none (some (-1));have kc:∀{d:Nat} (lo hi:Option Int),K0 (d+2) (.tup (BQ A lo hi)):=λlo hi=>#[by have:=aV A lo hi;omega,λy hy=>LX y (bz hy)]
 refine ae rfl (ae (aP #[]) (ae rfl ?_));have kv:∀z∈[PV.tup [.str n,.tup A.reverse],.tup [.str n,.tup (BQ A (some 1) none)],.tup [.str n,.tup (BQ A none (some (-1)))],.tup [.str n,.tup (A++BQ A none (some 1))],.tup [.str n,.lst A]],K0 7 z:=Gc (aE kn #[by rw[aez];omega,λy hy=>LX y (List.mem_reverse.mp hy)]) (Gc (aE kn (kc _ _)) (Gc (aE kn (kc _ _)) (Gc (aE kn (cy #[] LX λy hy=>LX y (bz hy))) (Gc (aE kn #[#[],LX]) (R7)))));generalize FD:[PV.tup [.str n,.tup A.reverse],.tup [.str n,.tup (BQ A (some 1) none)],.tup [.str n,.tup (BQ A none (some (-1)))],.tup [.str n,.tup (A++BQ A none (some 1))],.tup [.str n,.lst A]]=vs at kv;have vl:vs.length=5:=by rw[<- FD];rfl
 show N [some #[2,.int (f3:Int)],some #[0,.tup ms],some #[0,.lst ys],some #[0,.int (i:Int)],some #[0,.str n],some #[0,.tup A],some #[0,.tup [.str n2,.tup A2]],some #[0,.lst vs]];clear FD;subst hN;refine ag λN hN=>?_;show opt (AS (.lst vs) (.lst [.lst [.str n,.tup A],.tup [.str n],.tup [.str n,.tup A,.tup []],.tup [.tup A,.str n],.tup [.AZ,.tup A],.tup [.str n,.AZ],.tup [.str n,.tup [.int 0]]])) _;refine ae (bu #[3]) ?_;have Tx:∀z∈vs++[.lst [.str n,.tup A],.tup [.str n],.tup [.str n,.tup A,.tup []],.tup [.tup A,.str n],.tup [.AZ,.tup A],.tup [.str n,.AZ],.tup [.str n,.tup [.int 0]]],K0 7 z:=TF kv (Gc (#[#[0],(aE (d:=6) kn kA).2]) (Gc (#[#[0],bf kn]) (Gc (by
   refine#[#[0],λy hy=>?_];simp only[aaY,aa7,or_false]at hy;rcases hy with rfl|rfl|rfl
   .exact kn
   .exact kA
   .exact gH) (Gc (aE kA kn) (Gc (aE trivial kA) (Gc (aE kn trivial) (Gc (aE kn #[#[0],bf trivial]) (R7))))))))
 have SJ:(vs++[PV.lst [.str n,.tup A],.tup [.str n],.tup [.str n,.tup A,.tup []],.tup [.tup A,.str n],.tup [.AZ,.tup A],.tup [.str n,.AZ],.tup [.str n,.tup [.int 0]]]).length=12:=by rw[aan,vl];rfl
 generalize vs++[PV.lst [.str n,.tup A],.tup [.str n],.tup [.str n,.tup A,.tup []],.tup [.tup A,.str n],.tup [.AZ,.tup A],.tup [.str n,.AZ],.tup [.str n,.tup [.int 0]]]=us at Tx SJ;clear kv vl;show N [some #[2,.int (f3:Int)],some #[0,.tup ms],some #[0,.lst ys],some #[0,.int (i:Int)],some #[0,.str n],some #[0,.tup A],some #[0,.tup [.str n2,.tup A2]],some #[0,.lst us]];subst hN;refine ag λN hN=>?_;have zz:AS (.str n) (.str (aao "z"))=some (.str (n++aao "z")):=add_str (by
  have:(aao "z").length=1:=rfl
  omega)
 show opt (AS (.tup A) (.tup [.str (aao "zzzz")])) _;refine ae (aP #[3]) ?_;show opt (AS (.str n) (.str (aao "z"))) _;refine ae zz ?_;show opt (iD (.tup [.str n2,.tup A2]) (.int 0)) _;refine ae Wi ?_;show opt (iD (.tup [.str n2,.tup A2]) (.int 1)) _;refine ae Wh ?_;show opt (AS (.lst us) (.lst [.tup [.str n,.tup (A++[.str (aao "zzzz")])],.tup [.str (n++aao "z"),.tup A],.tup [.str n2,.tup A],.tup [.str n,.tup A2],.tup [.str n,.tup [.tup A]]])) _;refine ae (bu #[3]) ?_;have Tv:∀z∈us++[PV.tup [.str n,.tup (A++[.str (aao "zzzz")])],.tup [.str (n++aao "z"),.tup A],.tup [.str n2,.tup A],.tup [.str n,.tup A2],.tup [.str n,.tup [.tup A]]],K0 7 z:=TF Tx (Gc (aE kn (cy #[3] LX (bf (bq #[2])))) (Gc (by
   refine aE (bq ?_) kA;have:(aao "z").length=1:=rfl;rw[pq]
   omega) (Gc (aE XX kA) (Gc (aE kn k2) (Gc (aE kn #[#[0],bf kA]) (R7))))))
 have SI:(us++[PV.tup [.str n,.tup (A++[.str (aao "zzzz")])],.tup [.str (n++aao "z"),.tup A],.tup [.str n2,.tup A],.tup [.str n,.tup A2],.tup [.str n,.tup [.tup A]]]).length=17:=by rw[aan,SJ];rfl
 show N [some #[2,.int (f3:Int)],some #[0,.tup ms],some #[0,.lst ys],some #[0,.int (i:Int)],some #[0,.str n],some #[0,.tup A],some #[0,.tup [.str n2,.tup A2]],some #[0,.lst (us++[.tup [.str n,.tup (A++[.str (aao "zzzz")])],.tup [.str (n++aao "z"),.tup A],.tup [.str n2,.tup A],.tup [.str n,.tup A2],.tup [.str n,.tup [.tup A]]])]];generalize us++[PV.tup [.str n,.tup (A++[.str (aao "zzzz")])],.tup [.str (n++aao "z"),.tup A],.tup [.str n2,.tup A],.tup [.str n,.tup A2],.tup [.str n,.tup [.tup A]]]=vs at Tv SI;clear Tx SJ;subst hN;refine ag λN hN=>?_;show opt (AS (.lst vs) (.lst [.tup [.str n,.tup []],.tup [.str n,.str n],.tup [.bl true,.tup A]])) _;refine ae (bu #[3]) ?_;have Wc:∀z∈vs++[PV.tup [.str n,.tup []],.tup [.str n,.str n],.tup [.bl true,.tup A]],K0 7 z:=TF Tv (Gc (aE kn gH) (Gc (aE kn kn) (Gc (aE trivial kA) (R7))));have Xh:(vs++[PV.tup [.str n,.tup []],.tup [.str n,.str n],.tup [.bl true,.tup A]]).length=20:=by rw[aan,SI];rfl
 show N [some #[2,.int (f3:Int)],some #[0,.tup ms],some #[0,.lst ys],some #[0,.int (i:Int)],some #[0,.str n],some #[0,.tup A],some #[0,.tup [.str n2,.tup A2]],some #[0,.lst (vs++[.tup [.str n,.tup []],.tup [.str n,.str n],.tup [.bl true,.tup A]])]];generalize vs++[PV.tup [.str n,.tup []],.tup [.str n,.str n],.tup [.bl true,.tup A]]=us at Wc Xh;clear Tv SI;subst hN;lia;have c4:=aV ms none (some (i:Int));have c5:=aV ms (some ((i:Int)+1)) none;refine dr #[] #[] #[] λf4 q YJ hq=>?_;obtain⟨z,hz,e⟩:=fg (l:=us) (r:=(q:Int)) #[] hq;refine ae e (ae (aP #[3]) (ae aM (ae rfl (ae (aP #[3]) ?_))));refine h f4 _ #[] (.inl #[#[3],λy hy=>?_]);rcases List.mem_append.mp hy with hy|hy
 .rcases List.mem_append.mp hy with hy|hy
  .exact kr y (bz hy)
  .rw[List.mem_singleton.mp hy];exact Wc z hz
 .exact kr y (bz hy)
theorem yL{M T:Int}{P:Aap}(hF:1000<=F)(h0:0<=M)(h1:M<=40)(h2:8<=T)(h3:T<=50)(k:∀(f':Nat) (ps:A3) (ts:Aah),F<=f'+1000->Gk ps ts->(ps.length:Int)<=M->(ts.length:Int)<=T->P (A6 ps ts) (.int (f':Int))):fm (.int (F:Int)) [.int M,.int T] P :=
 #[F - 1000,M,T,by rw[Nat.sub_add_cancel hF],rfl,h0,h1,h2,h3,λps ts f' h=>k f' ps ts #[]]
def Told(z:PV):Prop:=∃a b,z=.tup [a,b]/\Kd a/\Kd b
theorem vE{rs:List (Str×A3)}(ok:NY rs):Kd (JK rs):=.inl #[by have:=ok.len;rw[aad];omega,λy hy=>by
 obtain⟨r,hr,rfl⟩:=List.mem_map.mp hy;obtain⟨h1,h2,h3⟩:=ok.row r hr;have:=bg h1;exact aE (bq #[]) (cU #[] λx hx=>by
  have:=bg (h3 x hx)
  omega)]
theorem wE(ns:Aar)(x:PV)(hn:ns.length<=63)(hx:x=.Cq ns\/x=.lst (ns.map .int)):Q.run 10 gR [x] λr=>r=.bl true:=by
 unfold gR;refine ag λN hN=>?_;show Q.eJ 1 0 _ [some #[0,x],none,none,none,none,none,none,none,none,none];refine#[#[ns,hx,hn],?_];show N _;generalize hF:(1000000:Nat)=F;subst hN;refine ag λN hN=>aU λG B hG hB=>?_;simp only[KU,aS,aT,eC,Iz,aG];refine#[#[],#[],?_];refine aB (λi e=>∃(f:Nat) (v2 v3 v4 v5 v6 v7 v8 v9:Aaq),F<=f+10000*i/\e=[some #[0,x],some #[4,.int (f:Int)],v2,v3,v4,v5,v6,v7,v8,v9]) (i:=0) #[F,none,none,none,none,none,none,none,none,#[],rfl] ?_ ?_;case refine_2=>rintro e ⟨f,v2,v3,v4,v5,v6,v7,v8,v9,_,rfl⟩;show N _;subst hN;rfl
 rintro j y e M hj ⟨f,v2,v3,v4,v5,v6,v7,v8,v9,hf,rfl⟩ k;obtain⟨Oy,rfl⟩:=gy hj;have j3:j<2:=Oy;rw[aaG]at hf k;subst hG hB;refine ag λN1 Jg=>?_;refine#[rfl,?_];lia;show fm (.int (f:Int)) [.int 12,.int 30] _;refine yL #[] #[2] #[2] #[2] #[2] λf' ps ts h1 ok h3 h4=>?_;have o:Nk ps ts:=#[ok,#[],#[]]
 subst Jg;refine ag λN1 Jg=>?_;lia;refine#[ps,ts,rfl,o,λT Ts Tl=>?_];try lia
 refine be iF (λt=>.str t.nm) (λt ht R hR=>ae (z:=.str t.nm) (ak (j:=0) rfl) hR) #[3] ?_;rw[aaL];have es:T.map (λt=>PV.str t.nm)=(T.map oR.nm).map .str:=by rw[aax];rfl
 rw[es];refine ae rfl ?_;subst Jg;have kT:Kd (Bn T):=.inl (cU (by rw[aad];omega) λn hn=>by
  obtain⟨t,ht,rfl⟩:=List.mem_map.mp hn;have:=bg (ok.tie t (Ts t ht)).nm
  omega)
 refine ag λN1 Jg=>?_;lia;refine#[ps,ts,Bn T,rfl,o,kT,λrs Xz=>?_];try lia
 subst Jg;refine ag λN1 Jg=>aU λG B hG hB=>?_;simp only[KU,aS,aT,eC,Iz,aG];refine#[#[],#[],?_];refine aB (λi e=>∃(g:Nat) (zs:Aab) (v6 v7 v8 v9:Aaq),f'<=g+300*i/\zs.length=i+1/\(∀z∈zs,Told z)/\e=[some #[0,x],some #[4,.int (g:Int)],some #[0,.int (j:Int)],some #[0,A6 ps ts],some #[0,Bn T],some #[1,.lst zs],v6,v7,v8,v9]) (i:=0) #[f',[.tup [Bn T,JK rs]],_,_,_,_,#[],rfl,λz hz=>by rw[List.mem_singleton.mp hz];exact#[_,_,rfl,kT,vE Xz],rfl] ?_ ?_;case refine_2=>
  rintro e ⟨g,zs,v6,v7,v8,v9,hg,zl,kz,rfl⟩;rw[cP,aaG]at hg zl;replace hg:f'<=g+300*6:=hg;replace zl:zs.length=6+1:=zl;show N1 _;subst Jg;refine aU λG B hG hB=>?_;lia;simp only[EU];lia;have cl:=aV zs none (some 1);refine ae (bu #[]) ?_;have kq:∀z∈zs++BQ zs none (some 1),Told z:=λz hz=>(List.mem_append.mp hz).elim (kz z) λq=>kz z (bz q);generalize zs++BQ zs none (some 1)=qs at kq;show Fo _ _ _ qs _;refine aB (λi e=>∃v7 v8 v9:Aaq,e=[some #[0,x],some #[4,.int (g:Int)],some #[0,.int (j:Int)],some #[0,A6 ps ts],some #[0,Bn T],some #[0,.lst zs],v6,v7,v8,v9]) (i:=0) #[_,_,_,rfl] ?_ ?_;case refine_2=>rintro e ⟨v7,v8,v9,rfl⟩;exact k _ #[g,_,_,_,_,_,_,_,_,#[],rfl]
  rintro i y e M2 hi ⟨v7,v8,v9,rfl⟩ kk;obtain⟨a,b,rfl,ka,kb⟩:=kq y (aaA hi);subst hG hB;refine#[rfl,?_];show iN _ _ _ [some #[0,x],some #[4,.int (g:Int)],some #[0,.int (j:Int)],some #[0,A6 ps ts],some #[0,Bn T],some #[0,.lst zs],v6,some #[0,a],some #[0,b],v9];refine ag λN2 Rb=>?_;lia;refine#[ps,ts,a,b,rfl,o,ka,kb,?_];try lia
  subst Rb;lia;refine#[ps,ts,a,b,rfl,o,ka,kb,?_];refine ae (z:=.bl false) ?_ (ae rfl ?_)
  .show some (PV.bl (!decide _))=_;simp
  exact kk _ #[_,_,_,rfl]
 rintro i y e M hi ⟨g,zs,v6,v7,v8,v9,hg,zl,kz,rfl⟩ kk;obtain⟨YD,rfl⟩:=gy hi;have i3:i<6:=YD;rw[aaG]at hg kk zl;subst hG hB;refine ag λN1 Jg=>?_;refine#[rfl,?_];lia;refine#[g,ps,ts,T,rfl,#[],rfl,o,Ts,Tl,λg1 z hg1 k1=>?_];try lia
 subst Jg;refine ag λN1 Jg=>?_;lia;refine#[ps,ts,z,rfl,o,k1,λXy PR=>?_];try lia
 subst Jg;refine ag λN1 Jg=>?_;have rest:∀(g2:Nat) (w:PV),f'<=g2+300*(i+1)->Kd w->N1 [some #[0,x],some #[4,.int (g2:Int)],some #[0,.int (j:Int)],some #[0,A6 ps ts],some #[0,Bn T],some #[1,.lst zs],some #[0,.int (i:Int)],some #[0,z],some #[0,w],v9]:=λg2 w Jd kw=>by
  subst Jg;lia;refine ae (Em #[]) ?_;refine kk _ #[g2,zs++[.tup [z,w]],_,_,_,_,#[],by rw[aan,zl];rfl,λq hq=>?_,rfl];rcases List.mem_append.mp hq with hq|hq
  .exact kz q hq
  .rw[List.mem_singleton.mp hq];exact#[_,_,rfl,k1,kw]
 lia;refine dr #[] #[] #[] λg2 q Jd hq=>?_;refine ae (bc _ _) (ae rfl ?_);cases Yn:decide ((q:Int)=0)with
 |true=>rw[if_pos rfl];exact#[g2,Xy,rfl,#[],rfl,PR,λg3 w hg3 kw=>rest g3 w #[] kw]
 |false=>rw[if_neg #[0]];exact rest g2 _ #[] (vE PR)
variable{K:aag}{mg:Aaf}{st:Stmt}
abbrev GQ(P:aaC)(w:World)(base:Heap)(d:Df K mg x st ps)(k:Nat)(D:Fd):Prop:=Bi P w K mg base Cp k d.f d.fd ps (Ko #[P,w,K,Ee K] ps.length D)
abbrev GO(P:aaC)(w:World)(base:Heap)(d:Df K mg x st ps)(k:Nat)(D:GV):Prop:=Bi P w K mg base Cp k d.f d.fd ps (Kp #[P,w,K,Ee K] ps.length D)
def DR{N P:A3}{sc:Scope}(kind:autoParam (sc.kind=.function) At)(co:autoParam (sc.isCoroutine=false) At)(gen:autoParam (sc.isGenerator=false) At)(nd:autoParam (N.Nodup) C')(pre:autoParam (N.take P.length=P) At)
  (par:autoParam (∀x∈P,sc.names.lookup x=some .local\/sc.names.lookup x=some .cell) C') (HL:autoParam (∀y∈sc.names,y.2≠.free) C'):au N P sc:=#[kind,co,gen,nd,pre,par,HL]
variable{ob:B3}{X:Cx}{k' n:Nat}{D:Fd}{DO:GV}{p p1 pos:Pos}{e a b:Expr}{es:Aai}{fa:WA}{g:WE}
def TY(i:Nat)(hN:autoParam (X.N[i]?=some x) At)(hv:autoParam (OH X.env.scope x) BT)(hd:autoParam #[12] on)(HU:autoParam ((x==("__classdict__" : Str))=false) on):
  Bk ob X (.Name x pos) (eV i):=zw i (pv i hN hv hd HU)
def QN(i:Nat)(hN:autoParam (X.N[i]?=some x) At)(hv:autoParam (OH X.env.scope x) BT)(hd:autoParam #[12] on)(HU:autoParam ((x==("__classdict__" : Str))=false) on):
  Fz ob X (.Name x pos) (Bj i):=xv i (pv i hN hv hd HU)
def Q6{d:Df X.K X.mg x st ps}(F:Bi X.prog X.w X.K X.mg X.base Cp k d.f d.fd ps (Ko #[14] n D))(hr:BB k' X.A)(ha:Gm ob X (e::es) fa)(hk:autoParam (k<=k') on)(hn:autoParam (es.length+1=n) At)(hg:autoParam (Gl X x) At)
  (DH:autoParam #[12] on) (he:autoParam #[8] At) (Cj:autoParam #[11] At) :
  Bk ob X (.Call (.Name x p) (e::es) [] pos) (A9 D fa):=xC F (hr.mono hk) d.n.mg d.n.kp d.b ha hn hg DH he Cj
def NB(i:Nat){d:Df X.K X.mg x st ps}(F:Bi X.prog X.w X.K X.mg X.base Cp k d.f d.fd ps (Kp #[14] n DO))(hr:BB k' X.A)(ha:Gm ob X es fa)(ho:autoParam (PE X (.Name y p1) (Bw i)) Da)(hk:autoParam (k<=k') on)(hn:autoParam (es.length+1=n) At)(hg:autoParam (Gl X x) At)
  (DH:autoParam #[12] on) (he:autoParam (aal (.Name y p1::es) X.env=(false,eval (.Name y p1) X.env)::aal es X.env) At) (Cj:autoParam #[11] At) :
  Bk ob X (.Call (.Name x p) (.Name y p1::es) [] pos) (tO DO i fa):=uZ i F (hr.mono hk) d.n.mg d.n.kp d.b ho ha hn hg DH he Cj
noncomputable def IM:Expr->List Str
 |.Name x _=>[x]
 |.Tuple es _ _=>es.map λe=>match e with
  |.Name x _=>x
  |_=> ""
 |_=>[]
noncomputable def FO(M:A3):A3->List (Option Nat)->List Str
 |_,[]=>[]
 |o,some j::js=>M.getD j "" :: FO M o js
 |[],none::js=> "" :: FO M [] js
 |x::o,none::js=>x::FO M o js
noncomputable def Tt:A3->Bool
 |[]=>true
 |x::l=>!l.contains x && Tt l
def Qo:∀{l:A3},Tt l=true->l.Nodup
 |[],_=>.nil
 |x::l,h=>by
  unfold Tt at h;rw[aaM,adc]at h;exact List.nodup_cons.mpr #[λz=>by rw[List.contains_iff_mem.mpr z]at h;exact absurd h.1 #[0],Qo h.2]
section
variable{tg iter elt kx vx De Bf:Expr}{ifs:Aai}{scope:Scope}{T:IJ}{fi HX:WA}{c:WT}{fk:WE}
noncomputable abbrev BN(X:Cx)(tg:Expr)(js:Aae):A3:=FO X.N (IM tg) js
abbrev A5(X:Cx)(scope:Scope)(N:A3)(p:Cx->Prop):Prop:=∀C s0 H0 ex pn,p #[5]
structure CB(X:Cx)(N:A3)(iter:Expr)(scope:Scope)(js:Aae)(T:IJ):Prop where
 hj:FL js=true
 hT:CC js T=true
 hc:X.calm=true
 hx:X.xe=λ_ _=>False
 C3:Dm X.env scope=true
 Bq:Ce X.N scope N js=true
 hk:scope.kind=.function
 hs:∀x,aaB iter X.env x=pure x
variable(hi:GW ob X tg iter fi)
include hi
section
variable(hg:A5 X scope (BN X tg js) λY=>PG Y tg (G4 X.K T))(ht:A5 X scope (BN X tg js) λY=>OM ob Y ifs c)
include hg ht
def Yw(he:A5 X scope (BN X tg js) λY=>Bk ob Y elt f)(h:autoParam (CB X (BN X tg js) iter scope js T) Db):
  EY ob X (.ListComp elt [#[tg,iter,ifs,0]] scope pos) (DE fi T c f js):=AL hi hg ht he h.hj h.hT h.hc h.hx h.C3 h.Bq h.hk h.hs
def YQ(hk:A5 X scope (BN X tg js) λY=>Bk ob Y kx fk)(he:A5 X scope (BN X tg js) λY=>Bk ob Y vx f)(h:autoParam (CB X (BN X tg js) iter scope js T) Db):
  EY ob X (.DictComp kx vx [#[tg,iter,ifs,0]] scope pos) (Sv fi T c fk f js):=AN hi hg ht hk he h.hj h.hT h.hc h.hx h.C3 h.Bq h.hk h.hs
variable{i:Nat}{py BM:Pos}(hN:X.N.Nodup)
include hN
def SG(he:A5 X scope (BN X tg js) λY=>Bk ob Y elt f)(h:autoParam (CB X (BN X tg js) iter scope js T) Db)(hy:autoParam (X.N[i]?=some y) At)(hk:autoParam (X.env.scope.names.lookup y=some .local) At)
  (JZ:autoParam (ab3 (.ListComp elt [#[tg,iter,ifs,0]] scope pos) (some (.Name y py)) BM.line X.env=pure true) At) :
  EX ob X (.Assign [.Name y py] (.ListComp elt [#[tg,iter,ifs,0]] scope pos) BM) (Ba i (DE fi T c f js)):=zt i hN hy hk hi hg ht he h.hj h.hT JZ h.hc h.hx h.C3 h.Bq h.hk h.hs
end
def Up{kk:Nat}(hg:A5 X scope (FO X.N (IM tg++IM De) js) λY=>PG Y tg (G4 X.K T))(Nx:A5 X scope (FO X.N (IM tg++IM De) js) λY=>GW ob Y De Bf HX)(Jd:A5 X scope (FO X.N (IM tg++IM De) js) λY=>PG Y De (By kk))(he:A5 X scope (FO X.N (IM tg++IM De) js) λY=>Bk ob Y elt f)
  (h:autoParam (CB X (FO X.N (IM tg++IM De) js) iter scope js T) Db) (hT:autoParam (CC (js.set kk (some 0)) T=true) At) (hk:autoParam (js[kk]?=some none) At) (IB:autoParam (A5 X scope (FO X.N (IM tg++IM De) js) λY=>∀x,aaB Bf Y.env x=pure x) Cl) :
  EY ob X #[10] (NR fi T HX kk f js):=zM hi hg Nx Jd he h.hj hT h.hT hk IB h.hc h.hx h.C3 h.Bq h.hk h.hs
omit hi
def Zc(h:Bk ob X e f):Fz ob X e f:=(Xf h)
def WW(h:EY ob X e f):Bk ob X e f:=(Xu h)
def NC{d:Df X.K X.mg x st ps}(F:Bi X.prog X.w X.K X.mg X.base Cp k d.f d.fd ps (JA #[14] n D))(hr:BB k' X.A)(ha:Gm ob X (e::es) fa)(hk:autoParam (k<=k') on)(hn:autoParam (es.length+1=n) At)(hg:autoParam (Gl X x) At)
  (DH:autoParam #[12] on) (he:autoParam #[8] At) (Cj:autoParam #[11] At) :
  EY ob X (.Call (.Name x p) (e::es) [] pos) (A9 D fa):=u5 F (hr.mono hk) d.n.mg d.n.kp d.b ha hn hg DH he Cj
def xg(i:Nat){d:Df X.K X.mg x st ps}(F:Bi X.prog X.w X.K X.mg X.base Cp k d.f d.fd ps (Gu #[14] n DO))(hr:BB k' X.A)(ha:Gm ob X es fa)(ho:autoParam (PE X (.Name y p1) (Bw i)) Da)(hk:autoParam (k<=k') on)(hn:autoParam (es.length+1=n) At)(hg:autoParam (Gl X x) At)
  (DH:autoParam #[12] on) (he:autoParam (aal (.Name y p1::es) X.env=(false,eval (.Name y p1) X.env)::aal es X.env) At) (Cj:autoParam #[11] At) :
  EY ob X (.Call (.Name x p) (.Name y p1::es) [] pos) (tO DO i fa):=sY i F (hr.mono hk) d.n.mg d.n.kp d.b ho ha hn hg DH he Cj
end
set_option hygiene false in
local macro_rules|`(tactic| walk_at "g")=>`(tactic| repeat' (first|exact TY _|exact QN _|(show Gm _ _ _ _;first|refine xQ ?_ ?_|exact Ad)|(show Bk _ _ (Expr.Call _ _ _ _) _;first|refine qB Af Ah #[4] Y.Kj PySem.boot_len ?_|refine vH vc vg #[4] Y.GU PyProof.Rows.boot_tuple ?_|refine vG _ PySem.F.slot_list_append PySem.F.type_list_append dF sk (pv _) ?_|refine qB (vq rfl) Aj #[4] Y.Mn PyProof.Rows.boot_all ?_|refine nN "tuple" #[2] Y.CA Y.GU PyProof.Rows.boot_tuple ?_|refine vH pP xY #[4] Y.Kk PyProof.Rows.boot_int ?_|refine nN "str" #[2] Y.CA Y.Ml PyProof.Rows.boot_str ?_|exact zL _ aeg aef yN yO (pv _)|refine xw ?_ ?_|refine vG _ aeg aef ni uC (pv _) ?_|refine qB (vp rfl) Ai #[4] Y.Mm PyProof.Rows.boot_any ?_|refine nN "bool" #[2] Y.CA Y.Kl PyProof.Rows.boot_bool ?_|refine NB _ ‹_› hr ?_|refine Q6 ‹_› hr ?_|refine WW ?_)|(show Bk _ _ _ _;first|exact zO|refine AM (GC hr) ?_ ?_|refine zx ?_|refine zS ?_ ?_|exact AO|refine AK ?_ ?_ ?_|exact zA|exact zG|refine zJ ?_ ?_|refine zy ?_ ?_|(show Bk _ _ (abO _ [CmpOp.In] _ _) _;refine e9 (rZ (Nn hr)) rP ?_ ?_ (by first|exact BA _|rfl))|refine zQ ?_ ?_|refine zI ?_ ?_|refine zP ?_ ?_ ?_|refine zR ?_ ?_|(show Bk _ _ (abO _ [CmpOp.Eq] _ _) _;refine e9 (se (IX hr)) rR ?_ ?_ (by first|exact BA _|rfl))|refine zD ?_ ?_|refine zN _ (GC hr) (pv _) ?_|refine zC ?_ Av|refine zB ?_ ?_ ?_|refine xD _ pc o9 (pv _) ?_|exact xy (Y.DA)|refine uY mH jv mH jv ?_ ?_ ?_|(show Bk _ _ (abO _ [CmpOp.Lt] _ _) _;refine e9 vB rO ?_ ?_ (by first|exact BA _|rfl))|(show Bk _ _ (abO _ [CmpOp.Lt] _ _) _;refine e9 (yG (IX hr)) wK ?_ ?_ (by first|exact BA _|rfl))|(show Bk _ _ (abO _ [CmpOp.Gt] _ _) _;refine e9 ql rQ ?_ ?_ (by first|exact BA _|rfl))|(show Bk _ _ (abO _ [CmpOp.Gt] _ _) _;refine e9 (yH (IX hr)) wL ?_ ?_ (by first|exact BA _|rfl))|refine zH ?_|refine zE ?_ ?_|refine zF ?_|refine WW ?_)|(show EX _ _ _ _;first|refine zn _ ‹_› rfl (by first|exact .inl rfl|exact .inr rfl) ?_|refine zo ?_|refine AJ ?_ ?_ ?_|refine zu afz rfl ?_ ?_ ?_|refine xr _ ‹_› rfl (by first|exact .inl rfl|exact .inr rfl) ?_|refine xu ?_|refine SG ?_ (λ_ _ _ _ _=>?_) (λ_ _ _ _ _=>?_) ‹_› (λ_ _ _ _ _=>?_)|refine uU afz ?_ ?_|refine zv ?_ ?_|refine xt ?_|refine qy _ (GC hr) (pv _) ?_ ?_|refine qx _ ‹_› rfl rfl ?_ (λ_ _ _ _ _=>?_) (λ_ _ _ _ _=>(pv _))|exact sU _ (pv _)|refine zp _ (GC hr) ?_ (pv _) ?_|exact sR _ ‹_› rfl (by first|exact .inl rfl|exact .inr rfl) Y.IG|refine sT _ (pv _) ?_|refine zq _ _ rfl ‹_› rfl rfl #[2] rfl rfl ?_ rfl|exact qz _ _ ‹_› rfl (by first|exact .inl rfl|exact .inr rfl) ‹_› (hr.mono #[2]) Y.DZ.n.mg Y.DZ.n.kp Y.DZ.b (pv _))|(show E3 _ _ _ _;first|refine zU ?_|(show E3 _ _ (abO _ [CmpOp.Eq] _ _) _;refine bU (se (IX hr)) rR ?_ ?_ (by first|exact BA _|rfl))|(show E3 _ _ (abO _ [CmpOp.NotEq] _ _) _;refine bU (Az (B6 hr)) yB ?_ ?_ (by first|exact BA _|rfl))|(show E3 _ _ (abO _ [CmpOp.In] _ _) _;refine bU (rZ (Nn hr)) rP ?_ ?_ (by first|exact BA _|rfl))|(show E3 _ _ (abO _ [CmpOp.NotIn] _ _) _;refine bU (wO (Nn hr)) wG ?_ ?_ (by first|exact BA _|rfl))|(show E3 _ _ (abO _ [CmpOp.NotEq] _ _) _;refine bU (yF (IX hr)) wI ?_ ?_ (by first|exact BA _|rfl))|(show E3 _ _ (abO _ [CmpOp.Lt] _ _) _;refine bU vB rO ?_ ?_ (by first|exact BA _|rfl))|refine u6 mH jv mH jv ?_ ?_ ?_|(show E3 _ _ (abO _ [CmpOp.NotEq] _ _) _;refine bU (yE (IX hr)) wH ?_ ?_ (by first|exact BA _|rfl))|(show E3 _ _ (abO _ [CmpOp.Gt] _ _) _;refine bU ql rQ ?_ ?_ (by first|exact BA _|rfl))|refine zT ?_|refine zW (vI ?_ ?_)|refine zW (sZ ?_ ?_))|(show EY _ _ _ _;first|refine zK ?_|refine Yw ?_ (λ_ _ _ _ _=>?_) (λ_ _ _ _ _=>?_) (λ_ _ _ _ _=>?_)|refine nO xV xX #[4] Y.Ie PyProof.Rows.boot_list ?_|refine uV rfl #[4] Y.C1 ?_|refine nO (xW rfl) xZ #[4] Y.Ig PyProof.Rows.boot_dict ?_|refine qA rfl #[4] Y.C1 #[4] Y.IG ?_|refine YQ ?_ (λ_ _ _ _ _=>?_) (λ_ _ _ _ _=>?_) (λ_ _ _ _ _=>?_) (λ_ _ _ _ _=>?_)|refine xB ?_|refine Up ?_ (λ_ _ _ _ _=>?_) (λ_ _ _ _ _=>?_) (λ_ _ _ _ _=>?_) (λ_ _ _ _ _=>?_)|refine uX #[4] Y.C1 ?_|refine uW #[4] Y.C1 ?_|refine oG rfl #[4] Y.C1 #[4] Y.IG ?_|refine u4 _ ‹_› (hr.mono #[2]) Y.D8.n.mg Y.D8.n.kp Y.D8.b ?_ (pv _)|exact xA|refine nO (ve rfl) vh #[4] Y.Ig PyProof.Rows.boot_dict ?_|refine NC ‹_› hr ?_|refine xg _ ‹_› hr ?_)|refine uT ?_ ?_|refine AQ ?_|exact j7 (i:=_) (Qo #[4]) rfl (by first|exact .inl rfl|exact .inr rfl)|exact xP _ ‹_› rfl (by first|exact .inl rfl|exact .inr rfl)|refine zZ ?_|exact xq|refine u9 ?_ ?_|refine xi ?_|exact Ac|refine xI ?_|exact xJ|refine vI ?_ ?_|exact xO|exact zh|refine Aa (n:=_) rfl ?_ ?_|refine zX ?_|refine m5 ?_ ?_|refine Ab ?_|exact o7|refine rG (n:=_) rfl ?_|refine tw #[4] Y.IH ?_|refine xH ?_|refine sZ ?_ ?_|refine xM #[4] Y.Mk ?_|refine zY ?_|exact FQ.nil|refine FQ.cons ?_ ?_ ?_|refine xN #[4] Y.DB ?_|refine u8 #[4] Y.DB ?_|exact tz _ (pv _)|refine xp ?_|refine Zc ?_|refine hAw ?_))
variable{P:aaC}{w:World}{base:Heap}
def O6:au ["thing"] ["thing"] (am jU):=DR
def iB(Y:Ev K mg):GQ P w base Y.GL 1 bK :=
 aC (aK Y.GL.F O6 #[2] (λBu A outer s H E hr=>by
  unfold dJ;have nd:=O6.nd
  walk_at "g")) og
def Vz:au ["words"] ["words"] (am gn):=DR
def mt(Y:Ev K mg):GQ P w base Y.Et 1 cK :=
 aC (aK Y.Et.F Vz #[2] (λBu A outer s H E hr=>by
  unfold cD;have nd:=Vz.nd
  walk_at "g")) mi
def O8:au ["thing"] ["thing"] (am gv):=DR
def my(Y:Ev K mg):GQ P w base Y.Ey 2 cM :=
 aC (aK Y.Ey.F O8 #[2] (λBu A outer s H E hr=>by
  unfold cF;have nd:=O8.nd;have:=mt (P:=P) (w:=w) (base:=base) Y;have:=iB (P:=P) (w:=w) (base:=base) Y
  walk_at "g")) mm
def O4:au ["net", "tie"] ["net", "tie"] (am jV):=DR
def dY(Y:Ev K mg):GQ P w base Y.GN 1 bL :=
 aC (aK Y.GN.F O4 #[2] (λBu A outer s H E hr=>by
  unfold dL;have nd:=O4.nd
  walk_at "g")) oh
def VD:au ["net"] ["net"] (am gm):=DR
def mr(Y:Ev K mg):GQ P w base Y.Es 2 cJ :=
 aC (aK Y.Es.F VD #[2] (λBu A outer s H E hr=>by
  unfold cC;have nd:=VD.nd;have:=dY (P:=P) (w:=w) (base:=base) Y
  walk_at "g")) mh
def OX:au ["net"] ["net"] (am HG):=DR
def sL(Y:Ev K mg):GQ P w base Y.HY 1 gQ :=
 aC (aK Y.HY.F OX #[2] (λBu A outer s H E hr=>by
  unfold gc;have nd:=OX.nd
  walk_at "g")) rL
def O1:au ["net", "name", "other", "rank"] ["net", "name", "other"] (am iR):=DR
def oE(Y:Ev K mg):GQ P w base Y.Fq 2 ck :=
 aC (aK Y.Fq.F O1 #[2] (λBu A outer s H E hr=>by
  unfold dM;have nd:=O1.nd;have:=sL (P:=P) (w:=w) (base:=base) Y
  walk_at "g")) oi
def VF:au ["net", "beside", "tie"] ["net"] (am dR):=DR
def eY(Y:Ev K mg):GQ P w base Y.Dw 2 bD :=
 aC (zm Y.Dw.F VF #[2] (λBu A outer s H E hr=>by
  unfold eB;have nd:=VF.nd;have:=dY (P:=P) (w:=w) (base:=base) Y
  walk_at "g")) kh
def O3:au ["beside", "start", "come", "ahead", "here", "name", "place"] ["beside", "start"] (am jY):=DR
def iC(Y:Ev K mg):GQ P w base Y.GP 1 cp :=
 aC (aK Y.GP.F O3 #[2] (λBu A outer s H E hr=>by
  unfold dN;have nd:=O3.nd
  walk_at "g")) om
def O5:au ["beside", "start"] ["beside", "start"] (am iQ):=DR
def oD(Y:Ev K mg):GQ P w base Y.Fp 2 er :=
 aC (aK Y.Fp.F O5 #[2] (λBu A outer s H E hr=>by
  unfold iq;have nd:=O5.nd;have:=iC (P:=P) (w:=w) (base:=base) Y
  walk_at "g")) oe
def O0:au ["net", "beside", "seen", "told", "start", "piece", "place"] ["net"] (am jT):=DR
def qu(Y:Ev K mg):GQ P w base Y.GK 3 fT :=
 aC (aK Y.GK.F O0 #[2] (λBu A outer s H E hr=>by
  unfold fq;have nd:=O0.nd;have:=eY (P:=P) (w:=w) (base:=base) Y;have:=oD (P:=P) (w:=w) (base:=base) Y
  walk_at "g")) qj
def OV:au ["net", "names"] ["net", "names"] (am JE):=DR
def nK(Y:Ev K mg):GQ P w base Y.J9 1 fU :=
 aC (aK Y.J9.F OV #[2] (λBu A outer s H E hr=>by
  unfold mN;have nd:=OV.nd
  walk_at "g")) um
def VB:au ["net", "thing", "there"] ["net", "thing"] (am gq):=DR
def mw(Y:Ev K mg):GQ P w base Y.Ew 4 cL :=
 aC (aK Y.Ew.F VB #[2] (λBu A outer s H E hr=>by
  unfold cE;have nd:=VB.nd;have:=my (P:=P) (w:=w) (base:=base) Y;have:=nK (P:=P) (w:=w) (base:=base) Y;have:=mr (P:=P) (w:=w) (base:=base) Y;have:=qu (P:=P) (w:=w) (base:=base) Y
  walk_at "g")) mj
def ON:au ["net", "forest", "one", "other", "come", "names", "here", "name"] ["net", "forest", "one", "other"] (am MN):=DR
def xj(Y:Ev K mg):GQ P w base Y.NN 3 la :=
 aC (aK Y.NN.F ON #[2] (λBu A outer s H E hr=>by
  unfold oK;have nd:=ON.nd;have:=iC (P:=P) (w:=w) (base:=base) Y;have:=eY (P:=P) (w:=w) (base:=base) Y;have:=nK (P:=P) (w:=w) (base:=base) Y
  walk_at "g")) wB
def O2:au ["net", "tree", "outside"] ["net", "tree"] (am jR):=DR
def oC(Y:Ev K mg):GQ P w base Y.GI 4 eh :=
 aC (aK Y.GI.F O2 #[2] (λBu A outer s H E hr=>by
  unfold ip;have nd:=O2.nd;have:=dY (P:=P) (w:=w) (base:=base) Y;have:=xj (P:=P) (w:=w) (base:=base) Y
  walk_at "g")) n9
def VE:au ["name", "thing"] ["name", "thing"] (am gp):=DR
def kI(Y:Ev K mg):GQ P w base Y.Eu 2 cf :=
 aC (aK Y.Eu.F VE #[2] (λBu A outer s H E hr=>by
  unfold bX;have nd:=VE.nd;have:=iB (P:=P) (w:=w) (base:=base) Y
  walk_at "g")) kj
def VG:au ["names", "thing"] ["names", "thing"] (am dS):=DR
def ja(Y:Ev K mg):GQ P w base Y.Dx 3 bQ :=
 aC (aK Y.Dx.F VG #[2] (λBu A outer s H E hr=>by
  unfold bN;have nd:=VG.nd;have:=kI (P:=P) (w:=w) (base:=base) Y
  walk_at "g")) iY
def VI:au ["net", "tree", "thing", "wanted"] ["net", "tree", "thing"] (am da):=DR
def im(Y:Ev K mg):GQ P w base Y.C6 5 bH :=
 aC (aK Y.C6.F VI #[2] (λBu A outer s H E hr=>by
  unfold bE;have nd:=VI.nd;have:=ja (P:=P) (w:=w) (base:=base) Y;have:=oE (P:=P) (w:=w) (base:=base) Y;have:=mw (P:=P) (w:=w) (base:=base) Y;have:=oC (P:=P) (w:=w) (base:=base) Y
  walk_at "g")) ie
def OY:au ["_law_state", "_law_many", "_law_letters", "_law_stem", "_law_at", "_law_turn", "_law_kind", "_law_found", "_law_k", "_law_letter"] ["_law_state", "_law_many"] (am HF):=DR
def rB(Y:Ev K mg):Bi P w K mg base Cp 2 Y.Ep.f Y.Ep.fd ["_law_state", "_law_many"] (Gu #[P,w,K,Ee K] 2 (JJ 10 dB)) :=
 xn Y.Ep.F OY #[2] (λBu A outer s H E hr=>by
  unfold dB;have nd:=OY.nd;have:=bP (P:=P) (w:=w) (base:=base) Y
  walk_at "g")
def qw(Y:Ev K mg):Bi P w K mg base Cp 2 Y.Ep.f Y.Ep.fd ["_law_state", "_law_many"] (Gu #[P,w,K,Ee K] 2 cA):=uS (rB Y) rM
def OU:au ["_law_state", "_law_words_here", "_law_style", "_law_k", "_law_many", "_law_two", "_law_first", "_law_half"] ["_law_state", "_law_words_here", "_law_style", "_law_k"] (am JG):=DR
def uO(Y:Ev K mg):GO P w base Y.Ka 2 fW :=
 e8 (gJ Y.Ka.F OU #[2] (λBu A outer s H E hr=>by
  unfold iL;have nd:=OU.nd;have:=bP (P:=P) (w:=w) (base:=base) Y
  walk_at "g")) ur
def OS:au ["_law_state", "_law_style"] ["_law_state", "_law_style"] (am JH):=DR
def uP(Y:Ev K mg):GO P w base Y.Kc 2 fX :=
 e8 (gJ Y.Kc.F OS #[2] (λBu A outer s H E hr=>by
  unfold mO;have nd:=OS.nd;have:=bP (P:=P) (w:=w) (base:=base) Y
  walk_at "g")) ut
def OP:au ["_law_state", "_law_most", "_law_ties", "_law_words_here", "_law_far", "_law_pool", "_law_many", "_law_style", "_law_costs", "_law_found", "_law_k", "_law_name"] ["_law_state", "_law_most", "_law_ties"] (am MQ):=DR
def xk(Y:Ev K mg):GO P w base Y.NO 3 fm :=
 e8 (gJ Y.NO.F OP #[2] (λBu A outer s H E hr=>by
  unfold jO;have nd:=OP.nd;have:=qw (P:=P) (w:=w) (base:=base) Y;have:=uP (P:=P) (w:=w) (base:=base) Y;have:=uO (P:=P) (w:=w) (base:=base) Y;have:=bP (P:=P) (w:=w) (base:=base) Y
  walk_at "g")) wD
def OT:au ["_law_net_here"] ["_law_net_here"] (am JD):=DR
def t5(Y:Ev K mg):Bi P w K mg base Cp 1 Y.Gh.f Y.Gh.fd ["_law_net_here"] (JA #[P,w,K,Ee K] 1 (IP 1 iK)) :=
 sQ Y.Gh.F OT #[2] (λBu A outer s H E hr=>by
  unfold iK;have nd:=OT.nd
  walk_at "g")
def dG(Y:Ev K mg):Bi P w K mg base Cp 1 Y.Gh.f Y.Gh.fd ["_law_net_here"] (JA #[P,w,K,Ee K] 1 bB):=pF (t5 Y) uq
def OR:au ["_law_place", "_law_ties", "_law_found", "_law_many", "_law_name", "_law_one", "_law_other", "_law_cost_here"] ["_law_place", "_law_ties"] (am JI):=DR
def t6(Y:Ev K mg):Bi P w K mg base Cp 1 Y.D8.f Y.D8.fd ["_law_place", "_law_ties"] (JA #[P,w,K,Ee K] 2 (IP 8 fu)) :=
 sQ Y.D8.F OR #[2] (λBu A outer s H E hr=>by
  unfold fu;have nd:=OR.nd
  walk_at "g")
def sO(Y:Ev K mg):Bi P w K mg base Cp 1 Y.D8.f Y.D8.fd ["_law_place", "_law_ties"] (JA #[P,w,K,Ee K] 2 jg):=pF (t6 Y) ux
def O7:au ["_law_net_here", "_law_label", "_law_kept", "_law_cost_here", "_law_name", "_law_tie", "_law_mine", "_law_yours"] ["_law_net_here"] (am gu):=DR
def nL(Y:Ev K mg):GQ P w base Y.Ex 2 du :=
 aC (aK Y.Ex.F O7 #[2] (λBu A outer s H E hr=>by
  unfold cY;have nd:=O7.nd;have:=dG (P:=P) (w:=w) (base:=base) Y
  walk_at "g")) m7
def OO:au ["_law_ties", "_law_one", "_law_other", "_law_rows", "_law_at", "_law_here", "_law_names", "_law_name", "_law_first", "_law_second", "_law_cost_here"] ["_law_ties", "_law_one", "_law_other"] (am JC):=DR
def pE(Y:Ev K mg):GQ P w base Y.J8 1 fj :=
 aC (aK Y.J8.F OO #[2] (λBu A outer s H E hr=>by
  unfold jN;have nd:=OO.nd
  walk_at "g")) wC
def VA:au ["_law_net_here", "_law_thing", "_law_known", "_law_kept", "_law_name"] ["_law_net_here", "_law_thing"] (am fH):=DR
def ga(Y:Ev K mg):GQ P w base Y.DY 2 bM :=
 aC (aK Y.DY.F VA #[2] (λBu A outer s H E hr=>by
  unfold cH;have nd:=VA.nd;have:=sO (P:=P) (w:=w) (base:=base) Y;have:=dG (P:=P) (w:=w) (base:=base) Y
  walk_at "g")) mo
def VH:au ["_law_net_here", "_law_tree", "_law_thing", "_law_ties", "_law_left", "_law_tie", "_law_pair"] ["_law_net_here", "_law_tree", "_law_thing"] (am db):=DR
def io(Y:Ev K mg):GQ P w base Y.C7 3 bI :=
 aC (aK Y.C7.F VH #[2] (λBu A outer s H E hr=>by
  unfold bF;have nd:=VH.nd;have:=dG (P:=P) (w:=w) (base:=base) Y;have:=ga (P:=P) (w:=w) (base:=base) Y;have:=pE (P:=P) (w:=w) (base:=base) Y
  walk_at "g")) ig
def VC:au ["_law_state", "_law_net_here", "_law_tree", "_law_some", "_law_extra", "_law_at", "_law_less", "_law_odd", "_law_kinds"] ["_law_state", "_law_net_here", "_law_tree"] (am gk):=DR
def mz(Y:Ev K mg):GO P w base Y.Er 2 cN :=
 e8 (gJ Y.Er.F VC #[2] (λBu A outer s H E hr=>by
  unfold cG;have nd:=VC.nd;have:=bP (P:=P) (w:=w) (base:=base) Y
  walk_at "g")) mn
def OZ:au ["_law_state", "_law_pairs", "_law_whole", "_law_at", "_law_name", "_law_told", "_law_other", "_law_some"] ["_law_state", "_law_pairs"] (am jS):=DR
def qv(Y:Ev K mg):GO P w base Y.GJ 2 fV :=
 e8 (gJ Y.GJ.F OZ #[2] (λBu A outer s H E hr=>by
  unfold ft;have nd:=OZ.nd;have:=bP (P:=P) (w:=w) (base:=base) Y
  walk_at "g")) qk
def OW:au ["_law_net_here", "_law_tree", "_law_ties", "_law_left"] ["_law_net_here", "_law_tree"] (am HH):=DR
def sM(Y:Ev K mg):GQ P w base Y.HZ 3 dI :=
 aC (aK Y.HZ.F OW #[2] (λBu A outer s H E hr=>by
  unfold gf;have nd:=OW.nd;have:=dG (P:=P) (w:=w) (base:=base) Y;have:=ga (P:=P) (w:=w) (base:=base) Y;have:=pE (P:=P) (w:=w) (base:=base) Y
  walk_at "g")) rN
def OQ:au ["_law_script", "_law_state", "_law_turn", "_law_net_here", "_law_tree", "_law_some", "_law_k", "_law_told", "_law_paper_here", "_law_found"] ["_law_script"] (am MR):=DR
def wm(Y:Ev K mg):Bi P w K mg base Cp 6 Y.H0.f Y.H0.fd ["_law_script"] (Ko #[P,w,K,Ee K] 1 (run 10 gR)) :=
 aK Y.H0.F OQ #[2] (λBu A outer s H E hr=>by
  unfold gR;have nd:=OQ.nd;have:=sN (P:=P) (w:=w) (base:=base) Y;have:=nL (P:=P) (w:=w) (base:=base) Y;have:=xk (P:=P) (w:=w) (base:=base) Y;have:=bP (P:=P) (w:=w) (base:=base) Y;have:=sM (P:=P) (w:=w) (base:=base) Y;have:=io (P:=P) (w:=w) (base:=base) Y;have:=mz (P:=P) (w:=w) (base:=base) Y;have:=qv (P:=P) (w:=w) (base:=base) Y;have:=im (P:=P) (w:=w) (base:=base) Y
  walk_at "g")
def yJ(Y:Ev K mg):Bi P w K mg base Cp 6 Y.H0.f Y.H0.fd ["_law_script"] (G8 K):=yQ (wm Y) wE
open PySem L2
variable{fd:abL}{ps:A3}
def W8(us:Aad)(h:us.length=1)(k:∀a0,adm fd #[[a0],[]]=pure (ps.zip [a0])):adm fd #[us,[]]=pure (ps.zip us):=by obtain⟨a0,u0,rfl⟩:=aaI (h);obtain rfl:=List.length_eq_zero_iff.mp (abj (h));exact k a0
def Z5(us:Aad)(h:us.length=2)(k:∀a0 a1,adm fd #[[a0,a1],[]]=pure (ps.zip [a0,a1])):adm fd #[us,[]]=pure (ps.zip us):=by obtain⟨a0,u0,rfl⟩:=aaI (h);obtain⟨a1,u1,rfl⟩:=aaI (abj (h));obtain rfl:=List.length_eq_zero_iff.mp (abj (abj (h)));exact k a0 a1
def Z4(us:Aad)(h:us.length=3)(k:∀a0 a1 a2,adm fd #[[a0,a1,a2],[]]=pure (ps.zip [a0,a1,a2])):adm fd #[us,[]]=pure (ps.zip us):=by obtain⟨a0,u0,rfl⟩:=aaI (h);obtain⟨a1,u1,rfl⟩:=aaI (abj (h));obtain⟨a2,u2,rfl⟩:=aaI (abj (abj (h)));obtain rfl:=List.length_eq_zero_iff.mp (abj (abj (abj (h))));exact k a0 a1 a2
def Z3(us:Aad)(h:us.length=4)(k:∀a0 a1 a2 a3,adm fd #[[a0,a1,a2,a3],[]]=pure (ps.zip [a0,a1,a2,a3])):adm fd #[us,[]]=pure (ps.zip us):=by obtain⟨a0,u0,rfl⟩:=aaI (h);obtain⟨a1,u1,rfl⟩:=aaI (abj (h));obtain⟨a2,u2,rfl⟩:=aaI (abj (abj (h)));obtain⟨a3,u3,rfl⟩:=aaI (abj (abj (abj (h))));obtain rfl:=List.length_eq_zero_iff.mp (abj (abj (abj (abj (h)))));exact k a0 a1 a2 a3
structure BK(K:aag)(x:Str)(st:Stmt) where
 {f:Addr}
 {od an:Option Addr}
 {sl:Array (Option Value)}
 {oc kV dc pm cd ct:Value}
 a:abm K aaV x=some (some (.ref f))
 l:K.lookup f=some #[oc,od,.func (acS x x (cV st) (bd st) (am st) .none kV dc pm an cd ct),sl]
 c:aer K cd x=true
 k:abJ K (.ref f)=true
variable{K:aag}{mg:Aaf}{x:Str}{st:Stmt}
noncomputable def BG{h:Heap}(X:K.In h)(G:h.Ns aaV mg)(d:BK K x st)
  (hb:autoParam (∀(kV doc pm:Value) (an:Option Addr) (Bu ct:Value) (us:Aad),us.length=ps.length->adm (acS x x (cV st) (bd st) (am st) .none kV doc pm an Bu ct) #[us,[]]=pure (ps.zip us)) Do):Df K mg x st ps :=
 #[d.f,_,sP d.l d.c d.k,(sP d.l d.c d.k).binds hb,PySem.W.mg_of X G d.a,d.k]
def Am{l:afy}{w:World}{h:Heap}{fa:Addr}{Xm:Tok}(X:K.In h)(G:h.Ns aaV mg)(YI:mg "law" = some (.ref fa))
  (d1:BK K "is_word" jU) (d2:BK K "is_rising" gn) (d3:BK K "are_words" gv) (d4:BK K "is_open" jV) (d5:BK K "open_ties" gm) (d6:BK K "ranks" HG) (d7:BK K "cheaper" iR) (d8:BK K "neighbours" dR) (d9:BK K "came_by" jY) (ZZ:BK K "reached" iQ) (ZY:BK K "pieces" jT) (ZX:BK K "only" JE) (ZW:BK K "is_forest" gq) (ZV:BK K "way" MN) (ZU:BK K "ways_in" jR) (ZT:BK K "is_pair_of" gp) (ZS:BK K "are_pairs_of" dS) (ZR:BK K "shows_by_ways" da) (ZQ:BK K "_law_begin" Gw) (ZP:BK K "_law_next" Iq) (ZO:BK K "_law_words" HF) (ZN:BK K "_law_ends" JG) (ZM:BK K "_law_cost" JH) (ZL:BK K "_law_net" MQ) (ZK:BK K "_law_open" JD) (ZJ:BK K "_law_came" JI) (ZI:BK K "_law_cheapest" gu) (ZH:BK K "_law_way" JC) (ZG:BK K "_law_is_forest" fH) (ZF:BK K "_law_shown_by_ways" db) (ZE:BK K "_law_some_tree" gk) (ZD:BK K "_law_spoilt" jS) (ZC:BK K "_law_paper" HH) (Sy:BK K "law" MR)
  (z1:abm K aaV "abs" = some none) (z2:abm K aaV "all" = some none) (z3:abm K aaV "any" = some none) (z4:abm K aaV "bool" = some none) (z5:abm K aaV "dict" = some none) (z6:abm K aaV "enumerate" = some none) (z7:abm K aaV "int" = some none) (z8:abm K aaV "isinstance" = some none) (z9:abm K aaV "len" = some none) (z10:abm K aaV "list" = some none) (z11:abm K aaV "max" = some none) (z12:abm K aaV "range" = some none) (z13:abm K aaV "set" = some none) (z14:abm K aaV "sorted" = some none) (z15:abm K aaV "str" = some none) (z16:abm K aaV "tuple" = some none) (z17:abm K aaV "zip" = some none) (q1:abm K aaV "LONGEST_WORD" = some (some (.int 8 Xm))) :
  ∃fd:abL,(∀(s:Shared) (v:Value),BindsTo s fd #[[v],[]] [("_law_script",v)])/\∀base:Heap,K.In base->base.Ns aaV mg->Bi l.prog w K mg base Cp 6 fa fd ["_law_script"] (G8 K):=by
 obtain⟨V,_,v⟩:∃V:Ev K mg,∃hb,V.H0=BG X G Sy hb:=#[{GL:=BG X G d1,Et:=BG X G d2,Ey:=BG X G d3,GN:=BG X G d4,Es:=BG X G d5,HY:=BG X G d6,Fq:=BG X G d7,Dw:=BG X G d8,GP:=BG X G d9,Fp:=BG X G ZZ,GK:=BG X G ZY,J9:=BG X G ZX,Ew:=BG X G ZW,NN:=BG X G ZV,GI:=BG X G ZU,Eu:=BG X G ZT,Dx:=BG X G ZS,C6:=BG X G ZR,DZ:=BG X G ZQ,IE:=BG X G ZP,Ep:=BG X G ZO,Ka:=BG X G ZN,Kc:=BG X G ZM,NO:=BG X G ZL,Gh:=BG X G ZK,D8:=BG X G ZJ,Ex:=BG X G ZI,J8:=BG X G ZH,DY:=BG X G ZG,C7:=BG X G ZF,Er:=BG X G ZE,GJ:=BG X G ZD,HZ:=BG X G ZC,H0:=BG X G Sy,Mo:=aaW X G z1,Mn:=aaW X G z2,Mm:=aaW X G z3,Kl:=aaW X G z4,Ig:=aaW X G z5,DB:=aaW X G z6,Kk:=aaW X G z7,CA:=aaW X G z8,Kj:=aaW X G z9,Ie:=aaW X G z10,RD:=aaW X G z11,IH:=aaW X G z12,IG:=aaW X G z13,C1:=aaW X G z14,Ml:=aaW X G z15,GU:=aaW X G z16,Mk:=aaW X G z17,DA:=#[_,PySem.W.mg_of X G q1]},λ_ _ _ _ _ _ us hl=>W8 us hl λ_=>rfl,rfl]
 have g:=λbase=>yJ (P:=l.prog) (w:=w) (base:=base) V;rw[v]at g;have e:=YI.symm.trans (PySem.W.mg_of X G Sy.a);obtain rfl:fa=Sy.f:=by injection e with e;injection e
 exact#[_,λs v=>.of_eq rfl,λbase _ _=>g base]
def walk{l:afy}{q:aaC}{loose:A3}{XP:(Str->Option Value)->Heap->Prop}{YP:World->Heap->Prop}{d:DefRec}{K:Params->aag}(hn:l.most=some 63)(Q4:d.params.defaults=[])
  (hY:∀(w:World) (h:Heap),YP w h->(K w.params).In h)
  (F:∀(w:World) (mg:Aaf) (fa:Addr) (h:Heap),(K w.params).In h->h.Ns aaV mg->mg d.name=some (.ref fa) ->
   ∃fd:abL,(∀(s:Shared) (u:Value),BindsTo s fd #[[u],[]] [("_law_script",u)])/\∀base:Heap,(K w.params).In base->base.Ns aaV mg->Bi l.prog w (K w.params) mg base Cp 6 fa fd ["_law_script"] (G8 (K w.params))) :
  PySem.W.WalkO q loose XP YP l.row.toRowW d [] (λf vs=>PySem.call f vs) :=
 L2.oJ (n:=63) (k:=6) (x := "_law_script") (CX:=λ_=>Cp) (sp:=λw=>G8 (K w.params)) hn #[2] Q4 #[rfl,#[2],#[2],rfl] hY F (λ_ _ a ns hl _ hS=>#[a,ns,rfl,hS,hl,λ_=>rfl]) λ_ _ _ _ _ z=>z
end Pre
open PySem PySem.W PyProof.Rows
set_option maxRecDepth 100000 in
set_option maxHeartbeats 0 in
theorem PySem.Challenge.cw_cheaptree_k23_shown_by_ways_holds : PySem.Challenge.rw_cheaptree_k23_shown_by_ways.Holds := by
 w_on; o_law; k_head; (case hw=>w_witness2)
 k_fill
 refine Pre.walk (l:=PySem.Challenge.rw_cheaptree_k23_shown_by_ways) rfl rfl (fun w h Y=>PySem.W.kIn_of Y) ?F
 case F =>
  intro w mg fa h KX G hmg
  refine' Pre.Am KX G hmg #[?a1,?l1,?c1,?k1] #[?a2,?l2,?c2,?k2] #[?a3,?l3,?c3,?k3] #[?a4,?l4,?c4,?k4] #[?a5,?l5,?c5,?k5] #[?a6,?l6,?c6,?k6] #[?a7,?l7,?c7,?k7] #[?a8,?l8,?c8,?k8] #[?a9,?l9,?c9,?k9] #[?a10,?l10,?c10,?k10] #[?a11,?l11,?c11,?k11] #[?a12,?l12,?c12,?k12] #[?a13,?l13,?c13,?k13] #[?a14,?l14,?c14,?k14] #[?a15,?l15,?c15,?k15] #[?a16,?l16,?c16,?k16] #[?a17,?l17,?c17,?k17] #[?a18,?l18,?c18,?k18] #[?a19,?l19,?c19,?k19] #[?a20,?l20,?c20,?k20] #[?a21,?l21,?c21,?k21] #[?a22,?l22,?c22,?k22] #[?a23,?l23,?c23,?k23] #[?a24,?l24,?c24,?k24] #[?a25,?l25,?c25,?k25] #[?a26,?l26,?c26,?k26] #[?a27,?l27,?c27,?k27] #[?a28,?l28,?c28,?k28] #[?a29,?l29,?c29,?k29] #[?a30,?l30,?c30,?k30] #[?a31,?l31,?c31,?k31] #[?a32,?l32,?c32,?k32] #[?a33,?l33,?c33,?k33] #[?a34,?l34,?c34,?k34] ?z1 ?z2 ?z3 ?z4 ?z5 ?z6 ?z7 ?z8 ?z9 ?z10 ?z11 ?z12 ?z13 ?z14 ?z15 ?z16 ?z17 ?q1
  case a1 | l1 | c1 | k1 | a2 | l2 | c2 | k2 | a3 | l3 | c3 | k3 | a4 | l4 | c4 | k4 | a5 | l5 | c5 | k5 | a6 | l6 | c6 | k6 | a7 | l7 | c7 | k7 | a8 | l8 | c8 | k8 | a9 | l9 | c9 | k9 | a10 | l10 | c10 | k10 | a11 | l11 | c11 | k11 | a12 | l12 | c12 | k12 | a13 | l13 | c13 | k13 | a14 | l14 | c14 | k14 | a15 | l15 | c15 | k15 | a16 | l16 | c16 | k16 | a17 | l17 | c17 | k17 | a18 | l18 | c18 | k18 | a19 | l19 | c19 | k19 | a20 | l20 | c20 | k20 | a21 | l21 | c21 | k21 | a22 | l22 | c22 | k22 | a23 | l23 | c23 | k23 | a24 | l24 | c24 | k24 | a25 | l25 | c25 | k25 | a26 | l26 | c26 | k26 | a27 | l27 | c27 | k27 | a28 | l28 | c28 | k28 | a29 | l29 | c29 | k29 | a30 | l30 | c30 | k30 | a31 | l31 | c31 | k31 | a32 | l32 | c32 | k32 | a33 | l33 | c33 | k33 | a34 | l34 | c34 | k34 | z1 | z2 | z3 | z4 | z5 | z6 | z7 | z8 | z9 | z10 | z11 | z12 | z13 | z14 | z15 | z16 | z17 | q1=>k_is
